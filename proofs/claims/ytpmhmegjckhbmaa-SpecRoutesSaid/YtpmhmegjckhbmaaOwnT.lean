/- Targets in a row of a call's own: read, and changed. -/
import Derived.Test.YtpmhmegjckhbmaaRouteW
namespace Go.Proofs.Ytpmhmegjckhbmaa
set_option linter.unusedVariables false
set_option linter.unusedSimpArgs false
set_option linter.unnecessarySimpa false
open Go.RowKit

theorem flatT_cons (t : Tgt) (ts : List Tgt) : flatT (t :: ts) = .string t.rv :: .string t.tg :: .int .i64 t.pc :: flatT ts := rfl
theorem flatT_at : ∀ (ts : List Tgt) (k : Nat), k < ts.length → (flatT ts)[k * 3]? = some (.string (ts.getD k tg0).rv) ∧ (flatT ts)[k * 3 + 1]? = some (.string (ts.getD k tg0).tg) ∧ (flatT ts)[k * 3 + 1 + 1]? = some (.int .i64 (ts.getD k tg0).pc)
  | [], k, h => by simp at h
  | t :: ts, 0, _ => by rw [flatT_cons]; exact ⟨rfl, rfl, rfl⟩
  | t :: ts, k + 1, h => by
    have ih := flatT_at ts k (by simpa using h)
    rw [flatT_cons]
    have e : (k + 1) * 3 = k * 3 + 1 + 1 + 1 := by omega
    rw [e]
    simp only [List.getElem?_cons_succ, List.getD_cons_succ]
    exact ih
theorem flatT_len (ts : List Tgt) : (flatT ts).length = ts.length * 3 := by
  induction ts with
  | nil => rfl
  | cons t ts ih => rw [flatT_cons]; simp only [List.length_cons, ih]; omega
/-- What a row of targets of the call's own gives. -/
theorem own_tgts {w : World} {base b n c : Nat} {ts : List Tgt} (h : w.ownsRow base 41 3 (.slice (some ⟨b, 0, none⟩) n c) n (flatT ts)) :
    ts.length = n ∧ TgtSl w (some ⟨b, 0, none⟩) ts ∧ (∀ o, w.frozen? ⟨b, o, none⟩ = false) ∧ base ≤ b ∧ b < w.heap.size := by
  obtain ⟨hl, h2⟩ := h
  rw [flatT_len] at hl
  have hn : ts.length = n := by omega
  rcases h2 with ⟨h0, _⟩ | ⟨g, cap, cur, hv, hb, hg, h3, h4, h5, h6⟩
  · cases h0
  · cases hv
    have hlt : b < w.heap.size := by
      rcases Nat.lt_or_ge b w.heap.size with h' | h'
      · exact h'
      · rw [Array.getElem?_eq_none h'] at hg; cases hg
    have hcell : ∀ j v, (flatT ts)[j]? = some v → w.cell? ⟨b, j, none⟩ = some v := fun j v hj => by
      rw [← h6] at hj
      have hj2 : j < n * 3 := by
        rcases Nat.lt_or_ge j (n * 3) with h' | h'
        · exact h'
        · rw [List.getElem?_take, if_neg (by omega)] at hj; cases hj
      rw [List.getElem?_take_of_lt hj2] at hj
      have : cur[j]? = some v := by simpa using hj
      simp [World.cell?, hg, this]
    refine ⟨hn, .inr ⟨b, 0, rfl, fun i hi => ?_⟩, fun o => by simp [World.frozen?, hg], hb, hlt⟩
    have h7 := flatT_at ts i hi
    rw [Nat.zero_add]
    exact ⟨hcell _ _ h7.1, hcell _ _ h7.2.1, hcell _ _ h7.2.2⟩
theorem getD_set {α : Type} (l : List α) (k i : Nat) (x d : α) (hk : k < l.length) : (l.set k x).getD i d = if i = k then x else l.getD i d := by
  simp only [List.getD_eq_getElem?_getD, List.getElem?_set]
  by_cases e : k = i
  · subst e; simp [hk]
  · rw [if_neg e, if_neg (Ne.symm e)]
theorem tgts_set {w : World} {b : Nat} {ts : List Tgt} {k j : Nat} {v : Value} {t : Tgt} (h : TgtSl w (some ⟨b, 0, none⟩) ts) (hk : k < ts.length) (hj : j < 3)
    (ht : (j = 0 ∧ v = .string t.rv ∧ t.tg = (ts.getD k tg0).tg ∧ t.pc = (ts.getD k tg0).pc) ∨ (j = 1 ∧ v = .string t.tg ∧ t.rv = (ts.getD k tg0).rv ∧ t.pc = (ts.getD k tg0).pc) ∨ (j = 2 ∧ v = .int .i64 t.pc ∧ t.rv = (ts.getD k tg0).rv ∧ t.tg = (ts.getD k tg0).tg)) :
    TgtSl (w.setCell ⟨b, k * 3 + j, none⟩ v) (some ⟨b, 0, none⟩) (ts.set k t) := by
  rcases h with rfl | ⟨b', off, ha, hc⟩
  · simp at hk
  · cases ha
    refine .inr ⟨b, 0, rfl, fun i hi => ?_⟩
    rw [List.length_set] at hi
    have hat := hc i hi
    have hoth : ∀ o u, w.cell? ⟨b, o, none⟩ = some u → o ≠ k * 3 + j → (w.setCell ⟨b, k * 3 + j, none⟩ v).cell? ⟨b, o, none⟩ = some u := fun o u hu hne => by
      rw [World.cell?_setCell_other (h := fun e => hne (by cases e; rfl))]; exact hu
    rw [getD_set _ _ _ _ _ hk]
    by_cases e : i = k
    · subst e
      rw [if_pos rfl]
      have hsame : ∀ u, w.cell? ⟨b, i * 3 + j, none⟩ = some u → (w.setCell ⟨b, i * 3 + j, none⟩ v).cell? ⟨b, i * 3 + j, none⟩ = some v := fun u hu => by rw [World.cell?_setCell_same (h := hu)]
      rw [Nat.zero_add] at hat ⊢
      rcases ht with ⟨rfl, rfl, h1, h2⟩ | ⟨rfl, rfl, h1, h2⟩ | ⟨rfl, rfl, h1, h2⟩
      · exact ⟨hsame _ hat.c0, by rw [h1]; exact hoth _ _ hat.c1 (by omega), by rw [h2]; exact hoth _ _ hat.c2 (by omega)⟩
      · exact ⟨by rw [h1]; exact hoth _ _ hat.c0 (by omega), hsame _ hat.c1, by rw [h2]; exact hoth _ _ hat.c2 (by omega)⟩
      · exact ⟨by rw [h1]; exact hoth _ _ hat.c0 (by omega), by rw [h2]; exact hoth _ _ hat.c1 (by omega), hsame _ hat.c2⟩
    · rw [if_neg e]
      exact ⟨hoth _ _ hat.c0 (by omega), hoth _ _ hat.c1 (by omega), hoth _ _ hat.c2 (by omega)⟩
/-- A slice's targets are elsewhere than what is stored. -/
theorem tgts_far {w : World} {a : Option Addr} {ts : List Tgt} {p : Addr} {v : Value} (h : TgtSl w a ts) (hp : ∀ b off, a = some ⟨b, off, none⟩ → p.block ≠ b) : TgtSl (w.setCell p v) a ts := by
  rcases h with rfl | ⟨b, off, ha, hc⟩
  · exact .inl rfl
  · have hne := hp b off ha
    have hoth : ∀ o u, w.cell? ⟨b, o, none⟩ = some u → (w.setCell p v).cell? ⟨b, o, none⟩ = some u := fun o u hu => by
      rw [World.cell?_setCell_other (h := fun e => hne (by rw [e]))]; exact hu
    exact .inr ⟨b, off, ha, fun i hi => ⟨hoth _ _ (hc i hi).c0, hoth _ _ (hc i hi).c1, hoth _ _ (hc i hi).c2⟩⟩

theorem groute_any (n : Int) (v : Value) (zs : List Int) (roll : Int) (w : World) (hn : wf64 n) (hz : IntSlice w v zs) (hr : wf64 roll) :
    Calls Try.prog 18 #[.int .i64 n, v, .int .i64 roll] w fun e w' => (∃ b c, e = .returned (.agg #[.string (rtName n), .string (rtCf n), .slice (some ⟨b, 0, none⟩) (gTs (rtCf n) zs).length c, .int .i64 (withinI roll 61)]) ∧ TgtSl w' (some ⟨b, 0, none⟩) (gTs (rtCf n) zs) ∧ (∀ o, w'.frozen? ⟨b, o, none⟩ = false) ∧ w.heap.size ≤ b ∧ b < w'.heap.size) ∧ Below w.heap.size w w' := by
  obtain ⟨a, cap, rfl, hat⟩ := hz.open
  have hl : zs.length ≤ maxLen := by
    rcases hat with rfl | ⟨b, off, _, hc⟩
    · decide
    · exact hc.len
  refine (groute_walk n a zs cap roll w hn hat hl hr).mono ?_
  rintro e w' ⟨⟨b, c, rfl, ho⟩, hb⟩
  have h := own_tgts ho
  refine ⟨⟨b, c, ?_, h.2⟩, hb⟩
  unfold rtV
  rw [h.1]
theorem route_at (nm cf : ByteArray) (a : Option Addr) (ts : List Tgt) (l c : Nat) (rl : Int) (w : World) (x : Int) (hl : l = ts.length) (h1 : nm.size ≤ 1000) (h2 : cf.size ≤ 1000) (h3 : ts.length ≤ 1000) (ht : TgtSl w a ts) (hk : ∀ i, i < ts.length → (ts.getD i tg0).ok) (hx : routeE nm cf ts rl = x) :
    Calls Try.prog 19 #[.agg #[.string nm, .string cf, .slice a l c, .int .i64 rl]] w fun e w' => e = .returned (.int .i64 x) ∧ Below w.heap.size w w' := by
  subst hl hx
  exact route_any nm cf a ts c rl w (by unfold maxLen; omega) (by unfold maxLen; omega) (by unfold maxLen; omega) ht hk
theorem rroute_at (nm cf : ByteArray) (a : Option Addr) (ts : List Tgt) (l c : Nat) (rl : Int) (w : World) (x : Int) (hl : l = ts.length) (h1 : nm.size ≤ 1000) (h2 : cf.size ≤ 1000) (h3 : ts.length ≤ 1000) (ht : TgtSl w a ts) (hk : ∀ i, i < ts.length → (ts.getD i tg0).ok) (hx : routeE nm cf ts rl = x) :
    Calls Try.prog 20 #[.agg #[.string nm, .string cf, .slice a l c, .int .i64 rl]] w fun e w' => e = .returned (.int .i64 x) ∧ Below w.heap.size w w' := by
  subst hl hx
  exact rroute_any nm cf a ts c rl w (by unfold maxLen; omega) (by unfold maxLen; omega) (by unfold maxLen; omega) ht hk
theorem gTs_ok (n : Int) (zs : List Int) : ∀ i, i < (gTs (rtCf n) zs).length → ((gTs (rtCf n) zs).getD i tg0).ok := fun i hi => (gRun_at n zs i (by rw [gTs_len] at hi; exact hi)).2
theorem set_ok {ts : List Tgt} {k : Nat} {t : Tgt} (h : ∀ i, i < ts.length → (ts.getD i tg0).ok) (ht : t.ok) : ∀ i, i < (ts.set k t).length → ((ts.set k t).getD i tg0).ok := fun i hi => by
  rw [List.length_set] at hi
  by_cases hk : k < ts.length
  · rw [getD_set _ _ _ _ _ hk]
    split
    · exact ht
    · exact h i hi
  · rw [List.set_eq_of_length_le (by omega)]; exact h i hi
end Go.Proofs.Ytpmhmegjckhbmaa

/- SameRoute at values written out. -/
import Derived.Test.YtpmhmegjckhbmaaRouteP
namespace Go.Proofs.Ytpmhmegjckhbmaa
set_option linter.unusedVariables false
set_option linter.unusedSimpArgs false
set_option linter.unnecessarySimpa false
open Go.RowKit

theorem same_at (nm cf : ByteArray) (a : Option Addr) (ts : List Tgt) (l c : Nat) (rl : Int) (nm' cf' : ByteArray) (a' : Option Addr) (ts' : List Tgt) (l' c' : Nat) (rl' : Int) (w : World) (x : Bool) (hl : l = ts.length) (hl' : l' = ts'.length) (h : ts.length ≤ 1000) (ht : TgtSl w a ts) (ht' : TgtSl w a' ts') (hx : sameR nm cf ts rl nm' cf' ts' rl' = x) :
    Calls Try.prog 21 #[.agg #[.string nm, .string cf, .slice a l c, .int .i64 rl], .agg #[.string nm', .string cf', .slice a' l' c', .int .i64 rl']] w fun e w' => e = .returned (.bool x) ∧ Below w.heap.size w w' := by
  subst hl hl' hx
  exact same_any nm cf a ts c rl nm' cf' a' ts' c' rl' w (by unfold maxLen; omega) ht ht'
theorem sameR_refl (nm cf : ByteArray) (ts : List Tgt) (rl : Int) : sameR nm cf ts rl nm cf ts rl = true := sameR_iff.2 ⟨rfl, rfl, rfl, rfl⟩
theorem sameR_ne {nm cf nm' cf' : ByteArray} {ts ts' : List Tgt} {rl rl' : Int} (h : nm ≠ nm' ∨ cf ≠ cf' ∨ rl ≠ rl' ∨ ts ≠ ts') : sameR nm cf ts rl nm' cf' ts' rl' = false := by
  rw [Bool.eq_false_iff]; intro e
  obtain ⟨h1, h2, h3, h4⟩ := sameR_iff.1 e
  rcases h with h | h | h | h
  · exact h h1
  · exact h h2
  · exact h h3
  · exact h h4
theorem rsame_at (nm cf : ByteArray) (a : Option Addr) (ts : List Tgt) (l c : Nat) (rl : Int) (nm' cf' : ByteArray) (a' : Option Addr) (ts' : List Tgt) (l' c' : Nat) (rl' : Int) (w : World) (x : Bool) (hl : l = ts.length) (hl' : l' = ts'.length) (h : ts.length ≤ 1000) (ht : TgtSl w a ts) (ht' : TgtSl w a' ts') (hx : sameR nm cf ts rl nm' cf' ts' rl' = x) :
    Calls Try.prog 22 #[.agg #[.string nm, .string cf, .slice a l c, .int .i64 rl], .agg #[.string nm', .string cf', .slice a' l' c', .int .i64 rl']] w fun e w' => e = .returned (.bool x) ∧ Below w.heap.size w w' := by
  subst hl hl' hx
  exact rsame_any nm cf a ts c rl nm' cf' a' ts' c' rl' w (by unfold maxLen; omega) ht ht'
/-- What the route that damperlaw2.Route makes is, and that its targets are the call's own. -/
def RtOwn (w : World) (n : Int) (zs : List Int) (roll : Int) (e : Ending) (w' : World) : Prop :=
  ∃ b c, e = .returned (.agg #[.string (rtName n), .string (rtCf n), .slice (some ⟨b, 0, none⟩) (gTs (rtCf n) zs).length c, .int .i64 (withinI roll 61)]) ∧ w'.ownsRow w.heap.size 41 3 (.slice (some ⟨b, 0, none⟩) (gTs (rtCf n) zs).length c) (gTs (rtCf n) zs).length (flatT (gTs (rtCf n) zs)) ∧ Below w.heap.size w w'
theorem groute_own (n : Int) (v : Value) (zs : List Int) (roll : Int) (w : World) (hn : wf64 n) (hz : IntSlice w v zs) (hr : wf64 roll) :
    Calls Try.prog 18 #[.int .i64 n, v, .int .i64 roll] w (RtOwn w n zs roll) := by
  obtain ⟨a, cap, rfl, hat⟩ := hz.open
  have hl : zs.length ≤ maxLen := by
    rcases hat with rfl | ⟨b, off, _, hc⟩
    · decide
    · exact hc.len
  refine (groute_walk n a zs cap roll w hn hat hl hr).mono ?_
  rintro e w' ⟨⟨b, c, rfl, ho⟩, hb⟩
  unfold RtOwn
  rw [gTs_len]
  exact ⟨b, c, rfl, ho, hb⟩
theorem gTs_pc (n : Int) (zs : List Int) (j : Nat) (hj : j < (gTs (rtCf n) zs).length) : 0 ≤ ((gTs (rtCf n) zs).getD j tg0).pc ∧ ((gTs (rtCf n) zs).getD j tg0).pc ≤ 100 := err_pc (gRun_at n zs j (by rw [gTs_len] at hj; exact hj)).1
theorem set_ne {α : Type} {l : List α} {k : Nat} {x d : α} (hk : k < l.length) (h : x ≠ l.getD k d) : l ≠ l.set k x := fun e => by
  have := congrArg (fun l => l.getD k d) e
  simp only [getD_set _ _ _ _ _ hk, if_pos] at this
  exact h this.symm
theorem getD_take {α : Type} (l : List α) (m i : Nat) (d : α) (h : i < m) : (l.take m).getD i d = l.getD i d := by
  simp [List.getD, List.getElem?_take, h]
theorem tgts_take {w : World} {a : Option Addr} {ts : List Tgt} (m : Nat) (h : TgtSl w a ts) : TgtSl w a (ts.take m) := by
  rcases h with rfl | ⟨b, off, ha, hc⟩
  · exact .inl (by simp)
  · exact .inr ⟨b, off, ha, fun i hi => by
      rw [List.length_take] at hi
      rw [getD_take _ _ _ _ (by omega)]; exact hc i (by omega)⟩
theorem take_ok {ts : List Tgt} (m : Nat) (h : ∀ i, i < ts.length → (ts.getD i tg0).ok) : ∀ i, i < (ts.take m).length → ((ts.take m).getD i tg0).ok := fun i hi => by
  rw [List.length_take] at hi
  rw [getD_take _ _ _ _ (by omega)]; exact h i (by omega)
theorem app_ok {ts us : List Tgt} (h : ∀ i, i < ts.length → (ts.getD i tg0).ok) (h2 : ∀ t ∈ us, t.ok) : ∀ i, i < (ts ++ us).length → ((ts ++ us).getD i tg0).ok := fun i hi => by
  rw [List.length_append] at hi
  rw [List.getD_eq_getElem?_getD]
  rcases Nat.lt_or_ge i ts.length with h' | h'
  · rw [List.getElem?_append_left h', ← List.getD_eq_getElem?_getD]; exact h i h'
  · rw [List.getElem?_append_right h', List.getElem?_eq_getElem (by omega)]
    exact h2 _ (List.getElem_mem _)
theorem flatT_app (ts us : List Tgt) : flatT (ts ++ us) = flatT ts ++ flatT us := by unfold flatT; rw [List.flatMap_append]
theorem flatT_one (ts : List Tgt) : ∀ u ∈ flatT ts, u.oneCell' = true := by
  intro u hu
  obtain ⟨t, _, h⟩ := List.mem_flatMap.1 hu
  simp at h
  rcases h with rfl | rfl | rfl <;> rfl
theorem zeros_flat : ∀ m, m < 7 → (Builtin.zeroCells (Value.agg #[.string ⟨#[]⟩, .string ⟨#[]⟩, .int .i64 0]).cells m).toList = flatT (List.replicate m tg0)
  | 0, _ | 1, _ | 2, _ | 3, _ | 4, _ | 5, _ | 6, _ => by simp [Builtin.zeroCells, Value.cells, Array.range, flatT, tg0, List.replicate]; try decide
theorem own_empty (w : World) (e : TypeId) (sz : Nat) : (w.alloc (.cells #[] e)).ownsRow w.heap.size e sz (.slice (some ⟨w.heap.size, 0, none⟩) 0 0) 0 [] :=
  ⟨by simp, .inr ⟨w.heap.size, 0, #[], rfl, Nat.le_refl _, (MapKept.heap_alloc w _).1, Nat.le_refl _, by decide, by simp, by simp⟩⟩
theorem tgts_alloc {w : World} {a : Option Addr} {ts : List Tgt} (o : Obj) (h : TgtSl w a ts) : TgtSl (w.alloc o) a ts := h.later (Grow.G.alloc (Grow.G.refl _) _)
end Go.Proofs.Ytpmhmegjckhbmaa

/- A route that may be, with one thing turned: plain facts. -/
import Derived.Test.YtpmhmegjckhbmaaOwnT
namespace Go.Proofs.Ytpmhmegjckhbmaa
set_option linter.unusedVariables false
set_option linter.unusedSimpArgs false
set_option linter.unnecessarySimpa false
open Go.RowKit

theorem routeE_parts {nm cf : ByteArray} {ts : List Tgt} {rl : Int} (h : routeE nm cf ts rl = 0) : nameB 16 nm = true ∧ nameB 16 cf = true ∧ inB rl 0 60 = true ∧ inB ts.length 1 6 = true ∧ eachE ts = 0 ∧ dupT ts = false ∧ sumT ts = 100 := by
  have h0 := unl_zero (by decide) (fst0_zero _ h 0 (by show 0 < 6; omega))
  have h1 := unl_zero (by decide) (fst0_zero _ h 1 (by show 1 < 6; omega))
  have h2 := unl_zero (by decide) (fst0_zero _ h 2 (by show 2 < 6; omega))
  have h3 : eachE ts = 0 := fst0_zero _ h 3 (by show 3 < 6; omega)
  have h4 := unl_zero (by decide) (fst0_zero _ h 4 (by show 4 < 6; omega))
  have h5 := unl_zero (by decide) (fst0_zero _ h 5 (by show 5 < 6; omega))
  rw [Bool.and_eq_true] at h0
  exact ⟨h0.1, h0.2, h1, h2, h3, by simpa using h4, by simpa using h5⟩
theorem set_map {α β : Type} (f : α → β) (l : List α) (k : Nat) (x d : α) (h : k < l.length) (hf : f x = f (l.getD k d)) : (l.set k x).map f = l.map f := by
  apply List.ext_getElem?
  intro i
  rw [List.getElem?_map, List.getElem?_map, List.getElem?_set]
  by_cases e : k = i
  · subst e; simp [h, hf, List.getD]
  · rw [if_neg e]
theorem sum_set (l : List Int) : ∀ (k : Nat) (x : Int), k < l.length → (l.set k x).sum = l.sum - l.getD k 0 + x := by
  induction l with
  | nil => intro k x h; simp at h
  | cons a l ih =>
    intro k x h
    cases k with
    | zero => simp; omega
    | succ k => simp only [List.set_cons_succ, List.sum_cons, List.getD_cons_succ]; rw [ih k x (by simpa using h)]; omega
theorem sumT_set (ts : List Tgt) (k : Nat) (t : Tgt) (h : k < ts.length) : sumT (ts.set k t) = sumT ts - (ts.getD k tg0).pc + t.pc := by
  unfold sumT
  have : (ts.set k t).map Tgt.pc = (ts.map Tgt.pc).set k t.pc := by rw [List.map_set]
  rw [this, sum_set _ _ _ (by simpa using h), getD_map Tgt.pc ts k tg0 0 h]
theorem each_of {ts : List Tgt} (h : eachE ts = 0) (k : Nat) (hk : k < ts.length) : (ts.getD k tg0).err = 0 := by
  have := fst0_zero _ h k (by simpa using hk)
  rwa [getD_map Tgt.err ts k tg0 0 hk] at this
theorem err_nmd {t : Tgt} (h : t.err = 0) : t.nmd = true := by
  unfold Tgt.err at h
  cases hn : t.nmd <;> simp [hn] at h ⊢
theorem pct_route {nm cf : ByteArray} {ts : List Tgt} {rl : Int} {k : Nat} (p : Int) (hk : k < ts.length) (h : routeE nm cf ts rl = 0) (hne : p ≠ (ts.getD k tg0).pc) :
    routeE nm cf (ts.set k ⟨(ts.getD k tg0).rv, (ts.getD k tg0).tg, p⟩) rl = if p < 0 ∨ 100 < p then 2 else 4 := by
  obtain ⟨h0, h1, h2, h3, h4, h5, h6⟩ := routeE_parts h
  rw [routeE_each h0 h1 h2 (by rw [List.length_set]; exact h3)]
  have hn := err_nmd (each_of h4 k hk)
  have hnt : Tgt.nmd ⟨(ts.getD k tg0).rv, (ts.getD k tg0).tg, p⟩ = true := hn
  by_cases hp : p < 0 ∨ 100 < p
  · rw [if_pos hp]
    have e : Tgt.err ⟨(ts.getD k tg0).rv, (ts.getD k tg0).tg, p⟩ = 2 := by
      unfold Tgt.err
      rw [hnt]
      have : inB p 0 100 = false := decide_eq_false (by omega)
      simp [this]
    have e2 : eachE (ts.set k ⟨(ts.getD k tg0).rv, (ts.getD k tg0).tg, p⟩) = 2 := by
      have ek : ((ts.set k ⟨(ts.getD k tg0).rv, (ts.getD k tg0).tg, p⟩).getD k tg0).err = 2 := by rw [getD_set _ _ _ _ _ hk, if_pos rfl, e]
      rw [eachE_at (k := k) (by rw [List.length_set]; exact hk) (fun j hj => by rw [getD_set _ _ _ _ _ hk, if_neg (by omega)]; exact each_of h4 j (by omega)) (by rw [ek]; decide), ek]
    rw [e2]; rfl
  · rw [if_neg hp]
    have e2 : eachE (ts.set k ⟨(ts.getD k tg0).rv, (ts.getD k tg0).tg, p⟩) = 0 := by
      refine eachE_none fun j hj => ?_
      rw [List.length_set] at hj
      rw [getD_set _ _ _ _ _ hk]
      split
      · unfold Tgt.err
        rw [hnt]
        have : inB p 0 100 = true := decide_eq_true (by omega)
        simp [this]
      · exact each_of h4 j hj
    have e3 : dupT (ts.set k ⟨(ts.getD k tg0).rv, (ts.getD k tg0).tg, p⟩) = false := by
      unfold dupT at *
      have := set_map Tgt.tg ts k ⟨(ts.getD k tg0).rv, (ts.getD k tg0).tg, p⟩ tg0 hk rfl
      rw [this]; exact h5
    have e4 : (sumT (ts.set k ⟨(ts.getD k tg0).rv, (ts.getD k tg0).tg, p⟩) == 100) = false := by
      rw [sumT_set _ _ _ hk, h6]
      simp only [beq_eq_false_iff_ne]; omega
    rw [if_pos e2, e3, e4]; rfl
end Go.Proofs.Ytpmhmegjckhbmaa


/- A row of elements, one cell of it written. No program is named here. -/
import Derived.Test.YtbagjeefoifpeaaDoorZ36
import Derived.Test.YtbagjeefoifpeaaDoorZ2
namespace Go.SlOf
set_option linter.unusedVariables false
open Go.RowKit

/-- The k-th element's j-th cell is written. -/
theorem setw {α : Type} {cells : α → List Value} {n : Nat} {w : World} {b off : Nat} {l : List α} (hcl : ∀ x, (cells x).length = n) (h : SlOf w cells n (some ⟨b, off, none⟩) l) {k j : Nat} {x x' : α} {v : Value} (hk : l[k]? = some x) (hj : j < n) (hx : cells x' = (cells x).set j v) :
    SlOf (w.setCell ⟨b, off + k * n + j, none⟩ v) cells n (some ⟨b, off, none⟩) (l.set k x') := by
  have hkl := (List.getElem?_eq_some_iff.1 hk).1
  obtain ⟨b', off', e, hc⟩ := h.spot hkl
  cases e
  refine .inr ⟨b, off, rfl, fun i y hi j' u hu => ?_⟩
  have hj' : j' < n := by rw [← hcl y]; exact (List.getElem?_eq_some_iff.1 hu).1
  by_cases ei : i = k
  · subst ei
    rw [List.getElem?_set_self hkl] at hi
    cases hi
    rw [hx] at hu
    by_cases ej : j' = j
    · subst ej
      rw [List.getElem?_set_self (by rw [hcl]; exact hj)] at hu
      cases hu
      have hold := hc i x hk j' _ (List.getElem?_eq_getElem (by rw [hcl]; exact hj))
      first | exact World.cell?_setCell_same _ _ _ hold | exact World.cell?_setCell_same _ _ hold | exact World.cell?_setCell_same _ hold
    · rw [List.getElem?_set_ne (fun q => ej q.symm)] at hu
      rw [World.cell?_setCell_other (h := by intro q; have q := congrArg Addr.off q; dsimp only at q; omega)]
      exact hc i x hk j' u hu
  · rw [List.getElem?_set_ne (fun q => ei q.symm)] at hi
    rw [World.cell?_setCell_other (h := by
      intro q
      have q : off + k * n + j = off + i * n + j' := congrArg Addr.off q
      rcases Nat.lt_or_gt_of_ne ei with h1 | h1
      · have : (i + 1) * n ≤ k * n := Nat.mul_le_mul_right n h1
        rw [Nat.succ_mul] at this; omega
      · have : (k + 1) * n ≤ i * n := Nat.mul_le_mul_right n h1
        rw [Nat.succ_mul] at this; omega)]
    exact hc i y hi j' u hu
end Go.SlOf

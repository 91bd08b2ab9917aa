/- My own texts Tab4, Tab5, laid in one file. -/
import Derived.Test.YtjhfjjkfnmnkgaaZ39
import Derived.Test.YtjhfjjkfnmnkgaaZ37
import Derived.Test.YtjhfjjkfnmnkgaaZ2
import Derived.RangeFuncNested
import Derived.RangeFuncBound
import Derived.Shelf.Abstract
import Derived.Shelf.RegionOpen
import Derived.OwnWalkIn
import Derived.TacticsInMore
import Derived.LoopNIn
import Derived.LoopIn

/- Where a draw leads: table.Pick. -/
namespace Go.Proofs.Ytjhfjjkfnmnkgaa
set_option maxRecDepth 100000
set_option linter.unusedVariables false
set_option linter.unusedSimpArgs false
set_option linter.unnecessarySimpa false
open Go.RowKit Go.Args
attribute [local go_sem] Oper.semAt_some

/-- Where a draw leads: what is left of it. -/
def pickL : List Shr → Int → ByteArray
  | [], _ => ⟨#[]⟩
  | s :: r, d => if d < s.w then s.rev else pickL r (d - s.w)
theorem sumW_take (l : List Shr) (k : Nat) (s : Shr) (h : l[k]? = some s) : sumW (l.take (k + 1)) = sumW (l.take k) + s.w := by
  induction l generalizing k with
  | nil => simp at h
  | cons x l ih =>
    cases k with
    | zero => simp at h; subst h; simp [sumW]
    | succ k => rw [List.take_succ_cons, List.take_succ_cons, sumW, sumW, ih k (by simpa using h)]; omega
/-- Weights that may be summed up. -/
def Small (l : List Shr) : Prop := l.length ≤ 1000 ∧ ∀ s, s ∈ l → 0 ≤ s.w ∧ s.w ≤ 1000 ∧ s.rev.size ≤ 100000
theorem Small.sum {l : List Shr} (h : Small l) : ∀ k, 0 ≤ sumW (l.take k) ∧ sumW (l.take k) ≤ 1000 * k
  | 0 => by simp [sumW]
  | k + 1 => by
    have ih := h.sum k
    cases e : l[k]? with
    | none =>
      have hl := List.getElem?_eq_none_iff.1 e
      rw [List.take_of_length_le (by omega)] at ih ⊢
      omega
    | some s =>
      rw [sumW_take l k s e]
      have := h.2 s (List.mem_of_getElem? e)
      omega
def EndOk (l : List Shr) (pre : List (Int × ByteArray)) (x : Int × ByteArray) (W : World) : Prop := ∃ s, l[pre.length]? = some s ∧ x = (sumW (l.take (pre.length + 1)), s.rev)
theorem EndOk.book {l : List Shr} {pre : List (Int × ByteArray)} {x : Int × ByteArray} {A B : World} {n : Nat} (h : EndOk l pre x A) (b : Iter.Book n A B) : EndOk l pre x B := h
end Go.Proofs.Ytjhfjjkfnmnkgaa

/- damperref5.Pick; where a tag leads. -/
namespace Go.Proofs.Ytjhfjjkfnmnkgaa
set_option maxRecDepth 100000
set_option linter.unusedVariables false
set_option linter.unusedSimpArgs false
set_option linter.unnecessarySimpa false
open Go.RowKit Go.Args

end Go.Proofs.Ytjhfjjkfnmnkgaa

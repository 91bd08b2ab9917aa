
/- What Cut's pieces are, one by one. -/
import Derived.Test.YtnkekdmikopdgaaZ14
import Derived.Test.YtnkekdmikopdgaaZ23
import Derived.Test.YtnkekdmikopdgaaZ2
import Derived.Test.YtnkekdmikopdgaaZ17
import Derived.Test.YtnkekdmikopdgaaZ28
namespace Go.Proofs.Ytnkekdmikopdgaa
set_option maxRecDepth 100000
set_option linter.unusedVariables false
set_option linter.unusedSimpArgs false
set_option linter.unnecessarySimpa false
open Go.RowKit

theorem cutE_pos {l : List Int} (h : l ≠ []) : 1 ≤ (cutE l).length := by
  match l, h with
  | [x], _ => rw [cutE_one]; simp
  | x :: y :: r, _ => rw [cutE_two]; simp
/-- Behind i pieces, at p. -/
def CutIs (zs : List Int) (i p : Nat) : Prop := cutE (zs.drop p) = (cutE zs).drop i
theorem CutIs.zero (zs : List Int) : CutIs zs 0 0 := rfl
theorem CutIs.more {zs : List Int} {i p : Nat} (h : CutIs zs i p) (hi : i < (cutE zs).length) : p < zs.length := by
  rcases Nat.lt_or_ge p zs.length with h1 | h1
  · exact h1
  · have e : zs.drop p = [] := List.drop_eq_nil_of_le h1
    unfold CutIs at h
    rw [e, cutE_nil] at h
    have := congrArg List.length h
    rw [List.length_drop] at this
    simp at this
    omega
theorem CutIs.done {zs : List Int} {p : Nat} (h : CutIs zs (cutE zs).length p) (hp : p ≤ zs.length) : p = zs.length := by
  unfold CutIs at h
  rw [List.drop_length] at h
  rcases Nat.lt_or_ge p zs.length with h1 | h1
  · have := cutE_pos (l := zs.drop p) (by intro e; have := congrArg List.length e; rw [List.length_drop] at this; simp at this; omega)
    rw [h] at this
    simp at this
  · omega
theorem CutIs.one {zs : List Int} {i p : Nat} (h : CutIs zs i p) (hi : i < (cutE zs).length) {x : Int} (hx : zs.drop p = [x]) : (cutE zs).length = i + 1 ∧ (cutE zs).getD i [] = [x] := by
  unfold CutIs at h
  rw [hx, cutE_one] at h
  have h1 := congrArg List.length h
  rw [List.length_drop] at h1
  simp at h1
  refine ⟨by omega, ?_⟩
  have h2 := congrArg (fun l => l.getD 0 []) h
  simp only [List.getD, List.getElem?_drop] at h2
  simpa [List.getD] using h2.symm
theorem CutIs.two {zs : List Int} {i p : Nat} (h : CutIs zs i p) {x y : Int} {r : List Int} (hx : zs.drop p = x :: y :: r) :
    (cutE zs).getD i [] = r.take (pieceN x y r) ∧ CutIs zs (i + 1) (p + 2 + pieceN x y r) := by
  unfold CutIs at h ⊢
  rw [hx, cutE_two] at h
  constructor
  · have h2 := congrArg (fun l => l.getD 0 []) h
    simp only [List.getD, List.getElem?_drop] at h2
    simpa [List.getD] using h2.symm
  · have h2 := congrArg (List.drop 1) h
    rw [List.drop_drop] at h2
    have e : zs.drop (p + 2 + pieceN x y r) = r.drop (pieceN x y r) := by
      have : zs.drop (p + (2 + pieceN x y r)) = (zs.drop p).drop (2 + pieceN x y r) := by rw [List.drop_drop]
      rw [Nat.add_assoc, this, hx, Nat.add_comm 2]
      rfl
    rw [e]
    simpa [Nat.add_comm] using h2
theorem wpList_copybs {ops : Array Oper} {rest : List Oper} {o : Oper} {a : Act} {Q : Exit → Act → World → Prop} {W : World} (hgd : o.guard = none) (s x : Operand)
    (ho : o.op = .call { callee := .builtin .append, args := #[s, x], argTypes := #[22, 22] })
    {g0 : Nat} (hs : a.eval s = .slice (some ⟨g0, 0, none⟩) 0 0) (hg0 : g0 = W.heap.size) {ad : Option Addr} {m c : Nat} (zs : List Int) (hx : a.eval x = .slice ad m c) (hm : zs.length = m) (hsrc : Fr.Src W ad (zs.map (Value.int .u8))) (hl : zs.length ≤ 140737488351232)
    (h : ∀ sa c' w', OwnB w' W.heap.size (.slice sa zs.length c') zs → Grow.G W w' → W.heap.size < w'.heap.size → wpList Try.prog ops Q rest (a.put o.dst (.slice sa zs.length c')) w') : wpList Try.prog ops Q (o :: rest) a (W.alloc (.cells #[] 5)) := by
  subst hg0
  obtain ⟨i0, hi, hz0, hz1, hz2⟩ := info_parts infoB
  refine Fr.wpList_append_src _ hgd s x 22 ho W.heap.size 5 i0 (.int .u8 0) 1 1 Try.underlying22 hi hz0 hz1 hz2 rfl (by decide) _ 0 [] hs (own_empty W _ _) ad m c (zs.map (Value.int .u8)) hx (by simp [hm]) (hsrc.grow (Grow.G.alloc (Grow.G.refl _) _)) bts_one ?_ ?_ (by simp) ?_
  · unfold maxLen; omega
  · omega
  · intro v' w' hown hfr
    rw [List.nil_append, Nat.zero_add, ← hm] at hown
    obtain ⟨sa, c', rfl⟩ := own_shape hown
    exact h sa c' w' hown (own_grow (Grow.G.alloc (Grow.G.refl _) _) (own_empty W 5 1) (Nat.le_refl _) hfr.g) (by have := hfr.g.size; simp at this; omega)
theorem getD_drop {zs : List Int} {p k : Nat} : (zs.drop p).getD k 0 = zs.getD (p + k) 0 := by simp [List.getD, List.getElem?_drop]
end Go.Proofs.Ytnkekdmikopdgaa

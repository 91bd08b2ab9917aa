
/- How a table that came in reads. -/
import Derived.Test.YtbfoponlofkocaaZ36
import Derived.Test.YtbfoponlofkocaaZ38
namespace Go.Proofs.Ytbfoponlofkocaa
set_option linter.unusedVariables false
set_option linter.unusedSimpArgs false
set_option maxRecDepth 100000
open Go.ChangeShapes Go.WideShapes Go.ChangeAt Go.RowKit Go.Args
theorem listt2 {α : Type} {l : List α} (h : l.length = 2) : ∃ a b, l = [a, b] := by
  match l, h with
  | [a, b], _ => exact ⟨a, b, rfl⟩
section
variable {H : Type} {enc : TypeId × Value → H} {W : World}
theorem shr_rd {cs : List Value} {d : DataW H} (h : Rd enc Try.prog W 39 cs d) (hs : Sz Try.prog 39 d) : ∃ x : Shr, cs = x.cells ∧ x.ok := by
  obtain ⟨hl, hf⟩ := h.struct Try.underlying39 hs
  obtain ⟨x0, x1, rfl⟩ := listt2 (hl.trans (show Try.prog.cellsOf 39 = 2 by kernel_rfl))
  obtain ⟨d0, r0, s0⟩ := hf 0 _ rfl
  obtain ⟨d1, r1, s1⟩ := hf 1 _ rfl
  clear hf
  obtain ⟨rv, e0, b0⟩ := r0.string Try.underlying9 s0
  obtain ⟨n, e1, b1⟩ := rd_i64 r1
  have cS : Try.prog.cellsOf 9 = 1 := by kernel_rfl
  have cI : Try.prog.cellsOf 3 = 1 := by kernel_rfl
  simp [cS] at e0
  simp [cI] at e1
  exact ⟨⟨rv, n⟩, by simp [Shr.cells, *], b1, by simpa [reachBytes] using b0⟩
/-- What is known of a row of Shares that came in. -/
structure ShrsIn (W : World) (a : Option Addr) (l : List Shr) : Prop where
  sh : ShSl W a l
  ll : l.length ≤ maxLen
theorem shrs_of {base : Nat} {v : Value} {d : DataW H} {p : List MemPlace} (hv : Value.okWide Try.prog W .any base 23 v) (h : DataW.Trod enc Try.prog W 0 (fun _ => true) true 23 v d p) (hs : Sz Try.prog 23 d) :
    ∃ a xs c, v = .slice a (List.length xs) c ∧ ShrsIn W a xs := by
  obtain ⟨s, len, cap, rfl⟩ := okWide_slice Try.underlying23 hv
  obtain ⟨a, xs, c, e, h1, h2, h3⟩ := SlOf.of_rd shr0 Shr.cells Shr.ok (rd_of h) Try.underlying23 hs (n := 2) (by kernel_rfl) (fun cs d h hs => shr_rd h hs) (fun x _ => by simp [Shr.cells])
  exact ⟨a, xs, c, by simpa [Value.cells] using e, h1, h3⟩
end
end Go.Proofs.Ytbfoponlofkocaa


/- How what a scaler is given, in raw numbers, came in. -/
import Derived.Test.YtifkombocmdmfaaZ4
import Derived.Test.YtifkombocmdmfaaZ71
namespace Go.Proofs.Ytifkombocmdmfaa
set_option maxRecDepth 100000
set_option linter.unusedVariables false
set_option linter.unusedSimpArgs false
open Go.ChangeShapes Go.WideShapes Go.ChangeAt Go.RowKit Go.Args

section
variable {H : Type} {enc : TypeId × Value → H} {W : World}
theorem list9 {α : Type} {l : List α} (h : l.length = 9) : ∃ a b c d e f g i j, l = [a, b, c, d, e, f, g, i, j] := by
  match l, h with
  | [a, b, c, d, e, f, g, i, j], _ => exact ⟨a, b, c, d, e, f, g, i, j, rfl⟩
theorem given_of {base : Nat} {v : Value} {d : DataW H} {p : List MemPlace} (hv : Value.okWide Try.prog W .any base 23 v) (h : DataW.Trod enc Try.prog W 0 (fun _ => true) true 23 v d p) (hs : Sz Try.prog 23 d) :
    ∃ g : Sc.G, v = g.v ∧ g.wf := by
  obtain ⟨cs, rfl, _⟩ := okWide_struct Try.underlying23 hv
  obtain ⟨hl, hf⟩ := (rd_of h).struct Try.underlying23 hs
  obtain ⟨x0, x1, x2, x3, x4, x5, x6, x7, x8, hcs⟩ := list9 (hl.trans (show Try.prog.cellsOf 23 = 9 by kernel_rfl))
  rw [hcs] at hf
  obtain ⟨d0, r0, s0⟩ := hf 0 _ rfl
  obtain ⟨d1, r1, s1⟩ := hf 1 _ rfl
  obtain ⟨d2, r2, s2⟩ := hf 2 _ rfl
  obtain ⟨d3, r3, s3⟩ := hf 3 _ rfl
  obtain ⟨d4, r4, s4⟩ := hf 4 _ rfl
  obtain ⟨d5, r5, s5⟩ := hf 5 _ rfl
  obtain ⟨d6, r6, s6⟩ := hf 6 _ rfl
  obtain ⟨d7, r7, s7⟩ := hf 7 _ rfl
  obtain ⟨d8, r8, s8⟩ := hf 8 _ rfl
  clear hf
  obtain ⟨n0, e0, b0⟩ := rd_i64 r0
  obtain ⟨n1, e1, b1⟩ := rd_i64 r1
  obtain ⟨n2, e2, b2⟩ := rd_i64 r2
  obtain ⟨n3, e3, b3⟩ := rd_i64 r3
  obtain ⟨n4, e4, b4⟩ := rd_i64 r4
  obtain ⟨n5, e5, b5⟩ := rd_i64 r5
  obtain ⟨n6, e6, b6⟩ := rd_i64 r6
  obtain ⟨n7, e7, b7⟩ := rd_i64 r7
  obtain ⟨n8, e8, b8⟩ := rd_i64 r8
  have cI : Try.prog.cellsOf 3 = 1 := by kernel_rfl
  simp [cI] at e0 e1 e2 e3 e4 e5 e6 e7 e8
  refine ⟨⟨n0, n1, n2, n3, n4, n5, n6, n7, n8⟩, agg_of ?_, ⟨b0, b1, b2, b3, b4, b5, b6, b7, b8⟩⟩
  rw [hcs]
  simp [Sc.G.cells, *]
end
end Go.Proofs.Ytifkombocmdmfaa

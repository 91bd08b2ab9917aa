/- My own texts ArgK, laid in one file. -/
import Derived.Test.YtjcdmnogmpjkkaaDoorZ67

/- Rows of steps that came in. -/
namespace Go.Proofs.YtjcdmnogmpjkkaaDoor
set_option linter.unusedVariables false
set_option linter.unusedSimpArgs false
set_option maxRecDepth 100000
open Go.ChangeShapes Go.WideShapes Go.ChangeAt Go.RowKit Go.Args
structure StepD where
  kd : Int
  n : Int
  nm : Int
  c : Cfg
def stepD0 : StepD := ⟨0, 0, 0, ⟨⟨#[]⟩, 0, 0, 0, 0, 0⟩⟩
def StepD.cells (x : StepD) : List Value := [.int .i64 x.kd, .int .i64 x.n, .int .i64 x.nm, .string x.c.nm, .int .i64 x.c.im, .int .i64 x.c.co, .int .i64 x.c.mn, .int .i64 x.c.mx, .int .i64 x.c.gr]
structure StepD.ok (x : StepD) : Prop where
  k : wf64 x.kd
  g : wf64 x.n
  n : wf64 x.nm
  c : x.c.wf
  cn : x.c.nm.size ≤ 140737488351232
section
variable {H : Type} {enc : TypeId × Value → H} {W : World}
theorem list9 {α : Type} {l : List α} (h : l.length = 9) : ∃ a0 a1 a2 a3 a4 a5 a6 a7 a8, l = [a0, a1, a2, a3, a4, a5, a6, a7, a8] := by
  match l, h with
  | [a0, a1, a2, a3, a4, a5, a6, a7, a8], _ => exact ⟨a0, a1, a2, a3, a4, a5, a6, a7, a8, rfl⟩
theorem step_rd {cs : List Value} {d : DataW H} (h : Rd enc Tryd.prog W 35 cs d) (hs : Sz Tryd.prog 35 d) : ∃ x : StepD, cs = x.cells ∧ x.ok := by
  obtain ⟨hl, hf⟩ := h.struct Tryd.underlying35 hs
  obtain ⟨x0, x1, x2, x3, x4, x5, x6, x7, x8, rfl⟩ := list9 (hl.trans (show Tryd.prog.cellsOf 35 = 9 by kernel_rfl))
  obtain ⟨d0, r0, s0⟩ := hf 0 _ rfl
  obtain ⟨d1, r1, s1⟩ := hf 1 _ rfl
  obtain ⟨d2, r2, s2⟩ := hf 2 _ rfl
  obtain ⟨d3, r3, s3⟩ := hf 3 _ rfl
  clear hf
  obtain ⟨k, e0, b0⟩ := rd_i64 r0
  obtain ⟨g, e1, b1⟩ := rd_i64 r1
  obtain ⟨n, e2, b2⟩ := rd_i64 r2
  obtain ⟨c, e3, b3, b3'⟩ := cfg_rd r3 s3
  have cI : Tryd.prog.cellsOf 3 = 1 := by kernel_rfl
  have cC : Tryd.prog.cellsOf 33 = 6 := by kernel_rfl
  simp [cI] at e0 e1 e2
  simp [cC, Cfg.cells] at e3
  exact ⟨⟨k, g, n, c⟩, by simp [StepD.cells, *], b0, b1, b2, b3, by simpa [reachBytes] using b3'⟩
/-- What is known of a row of steps that came in. -/
structure StepsL (W : World) (a : Option Addr) (xs : List StepD) : Prop where
  sl : SlOf W StepD.cells 9 a xs
  ok : ∀ x, x ∈ xs → x.ok
  le : xs.length ≤ maxLen
theorem steps_of {base : Nat} {v : Value} {d : DataW H} {p : List MemPlace} (hv : Value.okWide Tryd.prog W .any base 22 v) (h : DataW.Trod enc Tryd.prog W 0 (fun _ => true) true 22 v d p) (hs : Sz Tryd.prog 22 d) :
    ∃ a xs c, v = .slice a (List.length xs) c ∧ StepsL W a xs := by
  obtain ⟨s, len, cap, rfl⟩ := okWide_slice Tryd.underlying22 hv
  obtain ⟨a, xs, c, e, h1, h2, h3⟩ := SlOf.of_rd stepD0 StepD.cells (fun x => x.ok) (rd_of h) Tryd.underlying22 hs (n := 9) (by kernel_rfl) (fun cs d h hs => step_rd h hs) (fun x _ => by simp [StepD.cells])
  exact ⟨a, xs, c, by simpa [Value.cells] using e, h1, h2, h3⟩
/-- An element's place and cells. -/
theorem StepsL.at {w : World} {a : Option Addr} {xs : List StepD} (h : StepsL w a xs) {i : Nat} {x : StepD} (hi : xs[i]? = some x) : ∃ b off, a = some ⟨b, off, none⟩ ∧ (∀ w', Grow.G w w' → ∀ j v, x.cells[j]? = some v → w'.cell? ⟨b, off + i * 9 + j, none⟩ = some v) := by
  have hl : i < xs.length := (List.getElem?_eq_some_iff.1 hi).1
  obtain ⟨b, off, ha, hc⟩ := h.sl.spot hl
  exact ⟨b, off, ha, fun w' g j v hj => cell_later g (hc i x hi j v hj)⟩
end
end Go.Proofs.YtjcdmnogmpjkkaaDoor

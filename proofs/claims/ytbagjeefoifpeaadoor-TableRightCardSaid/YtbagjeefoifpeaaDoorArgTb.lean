
/- How a table that came in reads. -/
import Derived.Test.YtbagjeefoifpeaaDoorZ36
import Derived.Test.YtbagjeefoifpeaaDoorZ38
namespace Go.Proofs.YtbagjeefoifpeaaDoor
set_option linter.unusedVariables false
set_option linter.unusedSimpArgs false
set_option maxRecDepth 100000
open Go.ChangeShapes Go.WideShapes Go.ChangeAt Go.RowKit Go.Args
theorem listt2 {α : Type} {l : List α} (h : l.length = 2) : ∃ a b, l = [a, b] := by
  match l, h with
  | [a, b], _ => exact ⟨a, b, rfl⟩
theorem agg_is {cs : Array Value} {l : List Value} (h : (Value.agg cs).cells.toList = l) : Value.agg cs = .agg l.toArray := by
  have : cs.toList = l := by simpa [Value.cells] using h
  rw [← this]
section
variable {H : Type} {enc : TypeId × Value → H} {W : World}
theorem shr_rd {cs : List Value} {d : DataW H} (h : Rd enc Tryd.prog W 32 cs d) (hs : Sz Tryd.prog 32 d) : ∃ x : Shr, cs = x.cells ∧ x.ok := by
  obtain ⟨hl, hf⟩ := h.struct Tryd.underlying32 hs
  obtain ⟨x0, x1, rfl⟩ := listt2 (hl.trans (show Tryd.prog.cellsOf 32 = 2 by kernel_rfl))
  obtain ⟨d0, r0, s0⟩ := hf 0 _ rfl
  obtain ⟨d1, r1, s1⟩ := hf 1 _ rfl
  clear hf
  obtain ⟨rv, e0, b0⟩ := r0.string Tryd.underlying9 s0
  obtain ⟨n, e1, b1⟩ := rd_i64 r1
  have cS : Tryd.prog.cellsOf 9 = 1 := by kernel_rfl
  have cI : Tryd.prog.cellsOf 3 = 1 := by kernel_rfl
  simp [cS] at e0
  simp [cI] at e1
  exact ⟨⟨rv, n⟩, by simp [Shr.cells, *], b1, by simpa [reachBytes] using b0⟩
theorem tgo_rd {cs : List Value} {d : DataW H} (h : Rd enc Tryd.prog W 35 cs d) (hs : Sz Tryd.prog 35 d) : ∃ x : Tgo, cs = x.cells ∧ x.ok := by
  obtain ⟨hl, hf⟩ := h.struct Tryd.underlying35 hs
  obtain ⟨x0, x1, rfl⟩ := listt2 (hl.trans (show Tryd.prog.cellsOf 35 = 2 by kernel_rfl))
  obtain ⟨d0, r0, s0⟩ := hf 0 _ rfl
  obtain ⟨d1, r1, s1⟩ := hf 1 _ rfl
  clear hf
  obtain ⟨tg, e0, b0⟩ := r0.string Tryd.underlying9 s0
  obtain ⟨rv, e1, b1⟩ := r1.string Tryd.underlying9 s1
  have cS : Tryd.prog.cellsOf 9 = 1 := by kernel_rfl
  simp [cS] at e0 e1
  exact ⟨⟨tg, rv⟩, by simp [Tgo.cells, *], by simpa [reachBytes] using b0, by simpa [reachBytes] using b1⟩
/-- What is known of a table that came in. -/
structure TabIn (W : World) (a : Option Addr) (l : List Shr) (a' : Option Addr) (m : List Tgo) : Prop where
  sh : ShSl W a l
  tg : TgSl W a' m
  ok : ∀ s, s ∈ l → s.ok
  ok' : ∀ s, s ∈ m → s.ok
  ll : l.length ≤ maxLen
  lm : m.length ≤ maxLen
theorem table_of {base : Nat} {v : Value} {d : DataW H} {p : List MemPlace} (hv : Value.okWide Tryd.prog W .any base 25 v) (h : DataW.Trod enc Tryd.prog W 0 (fun _ => true) true 25 v d p) (hs : Sz Tryd.prog 25 d) :
    ∃ a l c a' m c', v = .agg #[.slice a (List.length l) c, .slice a' (List.length m) c'] ∧ TabIn W a l a' m := by
  obtain ⟨cs, rfl, _⟩ := okWide_struct Tryd.underlying25 hv
  obtain ⟨hl, hf⟩ := (rd_of h).struct Tryd.underlying25 hs
  obtain ⟨x0, x1, hx⟩ := listt2 (hl.trans (show Tryd.prog.cellsOf 25 = 2 by kernel_rfl))
  obtain ⟨d0, r0, s0⟩ := hf 0 _ rfl
  obtain ⟨d1, r1, s1⟩ := hf 1 _ rfl
  have cS : Tryd.prog.cellsOf 22 = 1 := by kernel_rfl
  have cT : Tryd.prog.cellsOf 23 = 1 := by kernel_rfl
  obtain ⟨a, l, c, e0, q1, q2, q3⟩ := SlOf.of_rd shr0 Shr.cells Shr.ok r0 Tryd.underlying22 s0 (n := 2) (by kernel_rfl) (fun cs d h hs => shr_rd h hs) (fun x _ => by simp [Shr.cells])
  obtain ⟨a', m, c', e1, q4, q5, q6⟩ := SlOf.of_rd tgo0 Tgo.cells Tgo.ok r1 Tryd.underlying23 s1 (n := 2) (by kernel_rfl) (fun cs d h hs => tgo_rd h hs) (fun x _ => by simp [Tgo.cells])
  rw [hx] at e0 e1
  simp [cS] at e0
  simp [cT] at e1
  subst e0 e1
  exact ⟨a, l, c, a', m, c', agg_is hx, q1, q4, q2, q5, q3, q6⟩
end
end Go.Proofs.YtbagjeefoifpeaaDoor

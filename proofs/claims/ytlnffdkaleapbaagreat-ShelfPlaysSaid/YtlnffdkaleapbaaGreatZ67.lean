/- My own texts ArgC, ArgL, laid in one file. -/
import Derived.Test.YtlnffdkaleapbaaGreatZ36
import Derived.Test.YtlnffdkaleapbaaGreatZ4

/- Rows of configurations, of truths that came in. -/
namespace Go.Proofs.YtlnffdkaleapbaaGreat
set_option linter.unusedVariables false
set_option maxRecDepth 100000
open Go.ChangeShapes Go.WideShapes Go.ChangeAt Go.RowKit Go.Args
section
variable {H : Type} {enc : TypeId × Value → H} {W : World}
def Bool.cells1 (b : Bool) : List Value := [.bool b]
/-- What is known of a row of configurations that came in. -/
structure CfgsIn (W : World) (a : Option Addr) (xs : List Cfg) : Prop where
  sl : SlOf W Cfg.cells 6 a xs
  ok : ∀ x, x ∈ xs → x.wf ∧ x.nm.size ≤ 140737488351232
  le : xs.length ≤ maxLen
structure BoolsIn (W : World) (a : Option Addr) (xs : List Bool) : Prop where
  sl : SlOf W Bool.cells1 1 a xs
  le : xs.length ≤ maxLen
theorem CfgsIn.later {w w' : World} {a : Option Addr} {xs : List Cfg} (h : CfgsIn w a xs) (g : Grow.G w w') : CfgsIn w' a xs := ⟨h.sl.later g, h.ok, h.le⟩
theorem BoolsIn.later {w w' : World} {a : Option Addr} {xs : List Bool} (h : BoolsIn w a xs) (g : Grow.G w w') : BoolsIn w' a xs := ⟨h.sl.later g, h.le⟩
/-- An element's place and cells. -/
theorem CfgsIn.at {w : World} {a : Option Addr} {xs : List Cfg} (h : CfgsIn w a xs) {i : Nat} {x : Cfg} (hi : xs[i]? = some x) : ∃ b off, a = some ⟨b, off, none⟩ ∧ (∀ w', Grow.G w w' → ∀ j v, x.cells[j]? = some v → w'.cell? ⟨b, off + i * 6 + j, none⟩ = some v) := by
  have hl : i < xs.length := (List.getElem?_eq_some_iff.1 hi).1
  obtain ⟨b, off, ha, hc⟩ := h.sl.spot hl
  exact ⟨b, off, ha, fun w' g j v hj => cell_later g (hc i x hi j v hj)⟩
theorem BoolsIn.at {w : World} {a : Option Addr} {xs : List Bool} (h : BoolsIn w a xs) {i : Nat} {x : Bool} (hi : xs[i]? = some x) : ∃ b off, a = some ⟨b, off, none⟩ ∧ w.cell? ⟨b, off + i, none⟩ = some (.bool x) := by
  have hl : i < xs.length := (List.getElem?_eq_some_iff.1 hi).1
  obtain ⟨b, off, ha, hc⟩ := h.sl.spot hl
  exact ⟨b, off, ha, by simpa using hc i x hi 0 (.bool x) rfl⟩
end
end Go.Proofs.YtlnffdkaleapbaaGreat

/- Rows of calls that came in. -/
namespace Go.Proofs.YtlnffdkaleapbaaGreat
set_option linter.unusedVariables false
set_option linter.unusedSimpArgs false
set_option maxRecDepth 100000
open Go.ChangeShapes Go.WideShapes Go.ChangeAt Go.RowKit Go.Args
structure CallD where
  kd : Int
  nm : Int
  vr : Int
  c : Cfg
  ns : List Int
  na : Option Addr
  nc : Nat
def callD0 : CallD := ⟨0, 0, 0, ⟨⟨#[]⟩, 0, 0, 0, 0, 0⟩, [], none, 0⟩
def CallD.cells (x : CallD) : List Value := [.int .i64 x.kd, .int .i64 x.nm, .int .i64 x.vr, .string x.c.nm, .int .i64 x.c.im, .int .i64 x.c.co, .int .i64 x.c.mn, .int .i64 x.c.mx, .int .i64 x.c.gr, .slice x.na x.ns.length x.nc]
structure CallD.ok (W : World) (x : CallD) : Prop where
  k : wf64 x.kd
  n : wf64 x.nm
  v : wf64 x.vr
  c : x.c.wf
  cn : x.c.nm.size ≤ 140737488351232
  ns : IntSlice W (.slice x.na x.ns.length x.nc) x.ns
section
variable {H : Type} {enc : TypeId × Value → H} {W : World}
def iCells (z : Int) : List Value := [.int .i64 z]
theorem ints_sl {a : Option Addr} {ns : List Int} {c : Nat} (h : SlOf W iCells 1 a ns) (hw : ∀ z, z ∈ ns → wf64 z) (hl : ns.length ≤ maxLen) : IntSlice W (.slice a ns.length c) ns := by
  rcases h with rfl | ⟨b, off, rfl, hc⟩
  · exact .inr ⟨rfl, a, c, rfl⟩
  · refine .inl ⟨b, off, c, rfl, ⟨fun i hi => ?_, fun i => ?_, hl⟩⟩
    · obtain ⟨z, hz⟩ : ∃ z, ns[i]? = some z := ⟨_, List.getElem?_eq_getElem hi⟩
      have := hc i z hz 0 (.int .i64 z) rfl
      rw [Nat.mul_one, Nat.add_zero] at this
      rw [this]; simp [List.getD, hz]
    · by_cases hi : i < ns.length
      · exact hw _ (by simp [List.getD, hi])
      · rw [show ns.getD i 0 = 0 by simp [List.getD, List.getElem?_eq_none (by omega : ns.length ≤ i)]]
        exact ⟨by decide, by decide⟩
theorem ints_rd {cs : List Value} {d : DataW H} (h : Rd enc Tryz.prog W 32 cs d) (hs : Sz Tryz.prog 32 d) : ∃ a ns c, cs = [.slice a (List.length ns) c] ∧ IntSlice W (.slice a (List.length ns) c) ns := by
  obtain ⟨a, ns, c, e, h1, h2, h3⟩ := SlOf.of_rd (0 : Int) iCells wf64 h Tryz.underlying32 hs (n := 1) (by kernel_rfl) (fun cs d h hs => by
    obtain ⟨n, e, b⟩ := rd_i64 h
    exact ⟨n, e, b⟩) (fun x _ => by simp [iCells])
  exact ⟨a, ns, c, e, ints_sl h1 h2 h3⟩
theorem list5 {α : Type} {l : List α} (h : l.length = 10) : ∃ a0 a1 a2 a3 a4 a5 a6 a7 a8 a9, l = [a0, a1, a2, a3, a4, a5, a6, a7, a8, a9] := by
  match l, h with
  | [a0, a1, a2, a3, a4, a5, a6, a7, a8, a9], _ => exact ⟨a0, a1, a2, a3, a4, a5, a6, a7, a8, a9, rfl⟩
theorem call_rd {cs : List Value} {d : DataW H} (h : Rd enc Tryz.prog W 34 cs d) (hs : Sz Tryz.prog 34 d) : ∃ x : CallD, cs = x.cells ∧ x.ok W := by
  obtain ⟨hl, hf⟩ := h.struct Tryz.underlying34 hs
  obtain ⟨x0, x1, x2, x3, x4, x5, x6, x7, x8, x9, rfl⟩ := list5 (hl.trans (show Tryz.prog.cellsOf 34 = 10 by kernel_rfl))
  obtain ⟨d0, r0, s0⟩ := hf 0 _ rfl
  obtain ⟨d1, r1, s1⟩ := hf 1 _ rfl
  obtain ⟨d2, r2, s2⟩ := hf 2 _ rfl
  obtain ⟨d3, r3, s3⟩ := hf 3 _ rfl
  obtain ⟨d4, r4, s4⟩ := hf 4 _ rfl
  clear hf
  obtain ⟨k, e0, b0⟩ := rd_i64 r0
  obtain ⟨n, e1, b1⟩ := rd_i64 r1
  obtain ⟨v, e2, b2⟩ := rd_i64 r2
  obtain ⟨c, e3, b3, b3'⟩ := cfg_rd r3 s3
  obtain ⟨a, ns, cap, e4, b4⟩ := ints_rd r4 s4
  have cI : Tryz.prog.cellsOf 3 = 1 := by kernel_rfl
  have cC : Tryz.prog.cellsOf 31 = 6 := by kernel_rfl
  have cN : Tryz.prog.cellsOf 32 = 1 := by kernel_rfl
  simp [cI] at e0 e1 e2
  simp [cC, Cfg.cells] at e3
  simp [cN] at e4
  exact ⟨⟨k, n, v, c, ns, a, cap⟩, by simp [CallD.cells, *], b0, b1, b2, b3, by simpa [reachBytes] using b3', b4⟩
/-- What is known of a row of calls that came in. -/
structure CallsL (W : World) (a : Option Addr) (xs : List CallD) : Prop where
  sl : SlOf W CallD.cells 10 a xs
  ok : ∀ x, x ∈ xs → x.ok W
  le : xs.length ≤ maxLen
theorem calls_of {base : Nat} {v : Value} {d : DataW H} {p : List MemPlace} (hv : Value.okWide Tryz.prog W .any base 22 v) (h : DataW.Trod enc Tryz.prog W 0 (fun _ => true) true 22 v d p) (hs : Sz Tryz.prog 22 d) :
    ∃ a xs c, v = .slice a (List.length xs) c ∧ CallsL W a xs := by
  obtain ⟨s, len, cap, rfl⟩ := okWide_slice Tryz.underlying22 hv
  obtain ⟨a, xs, c, e, h1, h2, h3⟩ := SlOf.of_rd callD0 CallD.cells (fun x => x.ok W) (rd_of h) Tryz.underlying22 hs (n := 10) (by kernel_rfl) (fun cs d h hs => call_rd h hs) (fun x _ => by simp [CallD.cells])
  exact ⟨a, xs, c, by simpa [Value.cells] using e, h1, h2, h3⟩
/-- An element's place and cells. -/
theorem CallsL.at {w : World} {a : Option Addr} {xs : List CallD} (h : CallsL w a xs) {i : Nat} {x : CallD} (hi : xs[i]? = some x) : ∃ b off, a = some ⟨b, off, none⟩ ∧ (∀ w', Grow.G w w' → ∀ j v, x.cells[j]? = some v → w'.cell? ⟨b, off + i * 10 + j, none⟩ = some v) := by
  have hl : i < xs.length := (List.getElem?_eq_some_iff.1 hi).1
  obtain ⟨b, off, ha, hc⟩ := h.sl.spot hl
  exact ⟨b, off, ha, fun w' g j v hj => cell_later g (hc i x hi j v hj)⟩
end
end Go.Proofs.YtlnffdkaleapbaaGreat

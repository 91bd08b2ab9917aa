/- My own texts Law2a, ArgT, Law2b, RouteM, RouteW, OwnT, RouteP, SameP, laid in one file. -/
import Derived.Test.YtbfpappechpdiaaZ3
import Derived.Test.YtbfpappechpdiaaZ36
import Derived.Test.YtbfpappechpdiaaZ2
import Derived.Deep.DeepCutAuto

/- damperlaw2's helpers: config, Config, Few, known. -/
namespace Go.Proofs.Ytbfpappechpdiaa
set_option maxRecDepth 100000
set_option linter.unusedVariables false
set_option linter.unusedSimpArgs false
set_option linter.unnecessarySimpa false
open Go.RowKit

def Cfg.wf (c : Cfg) : Prop := wf64 c.im ∧ wf64 c.co ∧ wf64 c.mn ∧ wf64 c.mx ∧ wf64 c.gr
end Go.Proofs.Ytbfpappechpdiaa

/- How a configuration, a route that came in read. -/
namespace Go.Proofs.Ytbfpappechpdiaa
set_option maxRecDepth 100000
set_option linter.unusedVariables false
set_option linter.unusedSimpArgs false
open Go.ChangeShapes Go.WideShapes Go.ChangeAt Go.RowKit Go.Args

section
variable {H : Type} {enc : TypeId × Value → H} {W : World}
def Cfg.cells (c : Cfg) : List Value := [.string c.nm, .int .i64 c.im, .int .i64 c.co, .int .i64 c.mn, .int .i64 c.mx, .int .i64 c.gr]
def Tgt.cells (t : Tgt) : List Value := [.string t.rv, .string t.tg, .int .i64 t.pc]
end
end Go.Proofs.Ytbfpappechpdiaa

/- Configurations written out; the configuration that damperlaw2.Config makes may be. -/
namespace Go.Proofs.Ytbfpappechpdiaa
set_option maxRecDepth 100000
set_option linter.unusedVariables false
set_option linter.unusedSimpArgs false
set_option linter.unnecessarySimpa false
open Go.RowKit



def IntAt (w : World) (a : Option Addr) (zs : List Int) : Prop := zs = [] ∨ ∃ b off, a = some ⟨b, off, none⟩ ∧ IntCells w b off zs
theorem IntSlice.open {w : World} {v : Value} {zs : List Int} (h : IntSlice w v zs) : ∃ a cap, v = .slice a zs.length cap ∧ IntAt w a zs := by
  rcases h with ⟨b, off, cap, rfl, h⟩ | ⟨rfl, a, cap, rfl⟩
  · exact ⟨_, cap, rfl, .inr ⟨b, off, rfl, h⟩⟩
  · exact ⟨a, cap, rfl, .inl rfl⟩
theorem IntAt.at {w w' : World} {a : Option Addr} {zs : List Int} (h : IntAt w a zs) (g : Grow.G w w') {k : Nat} (hk : k < zs.length) : ∃ b off, a = some ⟨b, off, none⟩ ∧ w'.cell? ⟨b, off + k, none⟩ = some (.int .i64 (zs.getD k 0)) ∧ wf64 (zs.getD k 0) := by
  rcases h with rfl | ⟨b, off, ha, hc⟩
  · simp at hk
  · exact ⟨b, off, ha, cell_later g (hc.cell k hk), hc.wf k⟩
def flatT (ts : List Tgt) : List Value := ts.flatMap fun t => [.string t.rv, .string t.tg, .int .i64 t.pc]

structure RtLoop (w wr : World) (g : Nat) (nm cf : ByteArray) (rl : Int) (v : Value) (i : Nat) (ts : List Tgt) : Prop where
  c0 : wr.cell? ⟨g, 0, none⟩ = some (.string nm)
  c1 : wr.cell? ⟨g, 1, none⟩ = some (.string cf)
  c2 : wr.cell? ⟨g, 2, none⟩ = some v
  c3 : wr.cell? ⟨g, 3, none⟩ = some (.int .i64 rl)
  f2 : wr.frozen? ⟨g, 2, none⟩ = false
  own : wr.ownsRow (g + 1) 79 3 v i (flatT ts)
  grow0 : Grow.G (w.alloc (.cells #[.string ⟨#[]⟩, .string ⟨#[]⟩, .slice none 0 0, .int .i64 0] 46)) wr
  lt : g < wr.heap.size
  base : w.heap.size + 1 ≤ g

theorem RtLoop.grow {w wr : World} {g : Nat} {nm cf : ByteArray} {rl : Int} {v : Value} {i : Nat} {ts : List Tgt} (h : RtLoop w wr g nm cf rl v i ts) : Grow.G w wr := Grow.G.trans (Grow.G.alloc (Grow.G.refl w) _) h.grow0



theorem routeE_parts {nm cf : ByteArray} {ts : List Tgt} {rl : Int} (h : routeE nm cf ts rl = 0) : nameB 16 nm = true ∧ nameB 16 cf = true ∧ inB rl 0 60 = true ∧ inB ts.length 1 6 = true ∧ eachE ts = 0 ∧ dupT ts = false ∧ sumT ts = 100 := by
  have h0 := unl_zero (by decide) (fst0_zero _ h 0 (by show 0 < 6; omega))
  have h1 := unl_zero (by decide) (fst0_zero _ h 1 (by show 1 < 6; omega))
  have h2 := unl_zero (by decide) (fst0_zero _ h 2 (by show 2 < 6; omega))
  have h3 : eachE ts = 0 := fst0_zero _ h 3 (by show 3 < 6; omega)
  have h4 := unl_zero (by decide) (fst0_zero _ h 4 (by show 4 < 6; omega))
  have h5 := unl_zero (by decide) (fst0_zero _ h 5 (by show 5 < 6; omega))
  rw [Bool.and_eq_true] at h0
  exact ⟨h0.1, h0.2, h1, h2, h3, by simpa using h4, by simpa using h5⟩

end Go.Proofs.Ytbfpappechpdiaa

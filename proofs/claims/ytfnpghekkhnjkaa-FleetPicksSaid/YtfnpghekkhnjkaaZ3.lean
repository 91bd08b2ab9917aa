/- My own texts Spec1, Spec2, Spec3, Spec4, Spec5, Spec6, Spec7, Spec8, laid in one file. -/
import Derived.Test.YtfnpghekkhnjkaaZ1
import Derived.Lib.SlicesS
import Derived.Test.YtfnpghekkhnjkaaZ2

/- What spec's small checks answer. -/
namespace Go.Proofs.Ytfnpghekkhnjkaa
set_option maxRecDepth 100000
set_option linter.unusedVariables false
set_option linter.unusedSimpArgs false
set_option linter.unnecessarySimpa false
open Go.RowKit

def inB (n a b : Int) : Bool := decide (a ≤ n ∧ n ≤ b)
/-- A configuration's fields. -/
structure Cfg where
  nm : ByteArray
  im : Int
  co : Int
  mn : Int
  mx : Int
  gr : Int
deriving DecidableEq
def Cfg.v (c : Cfg) : Value := .agg #[.string c.nm, .int .i64 c.im, .int .i64 c.co, .int .i64 c.mn, .int .i64 c.mx, .int .i64 c.gr]
def Cfg.num (c : Cfg) : Bool := inB c.im 0 255 && inB c.co 1 8 && inB c.mx 1 10 && inB c.mn 0 c.mx && inB c.gr 0 30
/-- A target's fields. -/
structure Tgt where
  rv : ByteArray
  tg : ByteArray
  pc : Int
deriving DecidableEq
def Tgt.v (t : Tgt) : Value := .agg #[.string t.rv, .string t.tg, .int .i64 t.pc]


structure TgtAt (w : World) (b o : Nat) (t : Tgt) : Prop where
  c0 : w.cell? ⟨b, o, none⟩ = some (.string t.rv)
  c1 : w.cell? ⟨b, o + 1, none⟩ = some (.string t.tg)
  c2 : w.cell? ⟨b, o + 1 + 1, none⟩ = some (.int .i64 t.pc)
def tg0 : Tgt := ⟨⟨#[]⟩, ⟨#[]⟩, 0⟩
/-- A slice's targets. -/
def TgtSl (w : World) (a : Option Addr) (ts : List Tgt) : Prop := ts = [] ∨ ∃ b off, a = some ⟨b, off, none⟩ ∧ ∀ i, i < ts.length → TgtAt w b (off + i * 3) (ts.getD i tg0)
theorem TgtAt.later {w w' : World} {b o : Nat} {t : Tgt} (h : TgtAt w b o t) (g : Grow.G w w') : TgtAt w' b o t := ⟨cell_later g h.c0, cell_later g h.c1, cell_later g h.c2⟩
theorem TgtSl.later {w w' : World} {a : Option Addr} {ts : List Tgt} (h : TgtSl w a ts) (g : Grow.G w w') : TgtSl w' a ts :=
  h.imp id fun ⟨b, off, ha, hc⟩ => ⟨b, off, ha, fun i hi => (hc i hi).later g⟩
theorem TgtSl.at {w : World} {a : Option Addr} {ts : List Tgt} (h : TgtSl w a ts) {k : Nat} (hk : k < ts.length) : ∃ b off, a = some ⟨b, off, none⟩ ∧ TgtAt w b (off + k * 3) (ts.getD k tg0) := by
  rcases h with rfl | ⟨b, off, ha, hc⟩
  · simp at hk
  · exact ⟨b, off, ha, hc k hk⟩
def Tgt.ok (t : Tgt) : Prop := t.rv.size ≤ 140737488351232 ∧ t.tg.size ≤ 140737488351232 ∧ wf64 t.pc





end Go.Proofs.Ytfnpghekkhnjkaa

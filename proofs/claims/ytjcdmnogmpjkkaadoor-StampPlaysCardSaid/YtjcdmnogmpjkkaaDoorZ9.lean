/- My own texts Part1, Part2, laid in one file. -/
import Derived.Test.YtjcdmnogmpjkkaaDoorZ5
import Derived.Test.YtjcdmnogmpjkkaaDoorZ2
import Derived.Test.YtjcdmnogmpjkkaaDoorZ1
import Derived.Test.YtjcdmnogmpjkkaaDoorZ4
import Derived.Laws.EntriesVeiled

/- The parts of an event: places, forms, what each asks. -/
namespace Go.Proofs.YtjcdmnogmpjkkaaDoor
set_option maxRecDepth 100000
set_option linter.unusedVariables false
set_option linter.unusedSimpArgs false
set_option linter.unnecessarySimpa false
open Go.RowKit


abbrev ptr (b : Nat) : Value := .pointer (some ⟨b, 0, none⟩)
/-- A part whose place is AT, whose form is f0, f1, f2: where the two lie. -/
def PartV (w : World) (F1 F2 F3 F4 AT : FuncId) (ta tb : TypeId) (f0 f1 f2 : Value) (a b : Nat) (v : Value) : Prop :=
  v = .agg #[.func (.func F1) #[] #[ptr a], .func (.func F2) #[] #[ptr b, ptr a], .func (.func F3) #[] #[ptr b, ptr a], .func (.func F4) #[] #[ptr b, ptr a]] ∧ Blk w a #[.func (.func AT) #[] #[]] ta ∧ Blk w b #[f0, f1, f2] tb
theorem PartV.book {w w' : World} {F1 F2 F3 F4 AT : FuncId} {ta tb : TypeId} {f0 f1 f2 : Value} {a b : Nat} {v : Value} {n : Nat} (h : PartV w F1 F2 F3 F4 AT ta tb f0 f1 f2 a b v) (k : Iter.Book n w w') : PartV w' F1 F2 F3 F4 AT ta tb f0 f1 f2 a b v :=
  ⟨h.1, h.2.1.book k, h.2.2.book k⟩
end Go.Proofs.YtjcdmnogmpjkkaaDoor

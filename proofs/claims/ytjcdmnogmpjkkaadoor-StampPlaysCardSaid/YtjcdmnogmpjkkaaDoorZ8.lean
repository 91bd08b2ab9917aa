/- My own texts Read1, Read2, Read3, Read4, laid in one file. -/
import Derived.Test.YtjcdmnogmpjkkaaDoorZ5
import Derived.Test.YtjcdmnogmpjkkaaDoorZ2
import Derived.Test.YtjcdmnogmpjkkaaDoorZ9
import Derived.Laws.BytesArg
import Derived.Test.YtjcdmnogmpjkkaaDoorZ4

/- What event's reader takes. -/
namespace Go.Proofs.YtjcdmnogmpjkkaaDoor
set_option maxRecDepth 100000
set_option linter.unusedVariables false
set_option linter.unusedSimpArgs false
set_option linter.unnecessarySimpa false
open Go.RowKit

/-- Bytes that lie in block sb, at a, with room c. -/
def BySl (w : World) (sb : Nat) (a : Option Addr) (c : Nat) (l : List Int) : Prop :=
  (a = none ∧ l = [] ∧ c = 0) ∨ ∃ off, a = some ⟨sb, off, none⟩ ∧ l.length ≤ c ∧ ∀ i, i < l.length → w.cell? ⟨sb, off + i, none⟩ = some (.int .u8 (l.getD i 0))
theorem BySl.chg {w w' : World} {sb : Nat} {a : Option Addr} {c : Nat} {l : List Int} {G : Nat → Prop} (h : BySl w sb a c l) (k : Chg G w w') (hg : ¬ G sb) : BySl w' sb a c l := by
  rcases h with h | ⟨off, h1, h2, h3⟩
  · exact .inl h
  · exact .inr ⟨off, h1, h2, fun i hi => k.cell (h3 i hi) hg⟩



theorem TgtSl.chg {w w' : World} {a : Option Addr} {ts : List Tgt} {G : Nat → Prop} (h : TgtSl w a ts) (k : Chg G w w') (hg : ∀ b off, a = some ⟨b, off, none⟩ → ¬ G b) : TgtSl w' a ts :=
  h.imp id fun ⟨b, off, ha, hc⟩ => ⟨b, off, ha, fun i hi => ⟨k.cell (hc i hi).c0 (hg b off ha), k.cell (hc i hi).c1 (hg b off ha), k.cell (hc i hi).c2 (hg b off ha)⟩⟩
end Go.Proofs.YtjcdmnogmpjkkaaDoor

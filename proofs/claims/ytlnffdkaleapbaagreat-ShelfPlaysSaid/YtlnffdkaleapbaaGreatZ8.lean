/- My own texts Read1, Read2, Read3, Read4, laid in one file. -/
import Derived.Test.YtlnffdkaleapbaaGreatZ5
import Derived.Test.YtlnffdkaleapbaaGreatZ2
import Derived.Test.YtlnffdkaleapbaaGreatZ9
import Derived.Laws.BytesArg
import Derived.Test.YtlnffdkaleapbaaGreatZ4

/- What event's reader takes. -/
namespace Go.Proofs.YtlnffdkaleapbaaGreat
set_option maxRecDepth 100000
set_option linter.unusedVariables false
set_option linter.unusedSimpArgs false
set_option linter.unnecessarySimpa false
open Go.RowKit

/-- Bytes that lie in block sb, at a, with room c. -/
def BySl (w : World) (sb : Nat) (a : Option Addr) (c : Nat) (l : List Int) : Prop :=
  (a = none ∧ l = [] ∧ c = 0) ∨ ∃ off, a = some ⟨sb, off, none⟩ ∧ l.length ≤ c ∧ ∀ i, i < l.length → w.cell? ⟨sb, off + i, none⟩ = some (.int .u8 (l.getD i 0))
theorem BySl.chg {w w' : World} {sb : Nat} {a : Option Addr} {c : Nat} {l : List Int} {G : Nat → Prop} (h : BySl w sb a c l) (k : Chg G w w') (hg : ¬ G sb) : BySl w' sb a c l := by
  rcases h with h | ⟨off, h1, h2, h3⟩
  · exact .inl h
  · exact .inr ⟨off, h1, h2, fun i hi => k.cell (h3 i hi) hg⟩



theorem TgtSl.chg {w w' : World} {a : Option Addr} {ts : List Tgt} {G : Nat → Prop} (h : TgtSl w a ts) (k : Chg G w w') (hg : ∀ b off, a = some ⟨b, off, none⟩ → ¬ G b) : TgtSl w' a ts :=
  h.imp id fun ⟨b, off, ha, hc⟩ => ⟨b, off, ha, fun i hi => ⟨k.cell (hc i hi).c0 (hg b off ha), k.cell (hc i hi).c1 (hg b off ha), k.cell (hc i hi).c2 (hg b off ha)⟩⟩
/-- Targets that a call has laid out by itself. -/
theorem OwnTs.tgts {w : World} {base n c : Nat} {a : Option Addr} {ts : List Tgt} (h : OwnTs w base (.slice a n c) ts) : TgtSl w a ts ∧ ∀ b off, a = some ⟨b, off, none⟩ → base ≤ b ∧ b < w.heap.size := by
  rcases h.2 with ⟨h0, h1⟩ | ⟨g, cap, cur, hv, hb, hg, rest⟩
  · cases h0
    exact ⟨.inl (List.eq_nil_of_length_eq_zero h1), fun b off e => (by cases e)⟩
  · injection hv with e1 e2 e3
    subst e1 e2 e3
    have := own_tgts h
    exact ⟨this.2.1, fun b off e => (by cases e; exact ⟨hb, this.2.2.2.2⟩)⟩
theorem evd {w : World} {g : Nat} {cs : Array Value} {T : TypeId} (h : Blk w g cs T) {i : Nat} {v : Value} (hv : cs[i]? = some v) : w.cell? ⟨g, i, none⟩ = some v := (h.cell i).trans hv
end Go.Proofs.YtlnffdkaleapbaaGreat

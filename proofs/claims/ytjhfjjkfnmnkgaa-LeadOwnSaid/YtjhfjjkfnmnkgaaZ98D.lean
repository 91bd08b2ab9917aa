/- My own texts LrU, LrL, laid in one file. -/
import Derived.Test.YtjhfjjkfnmnkgaaZ98C
import Derived.Test.YtjhfjjkfnmnkgaaZ52
import Derived.Test.YtjhfjjkfnmnkgaaZ91
import Derived.Test.YtjhfjjkfnmnkgaaZ29
import Derived.Test.YtjhfjjkfnmnkgaaZ98A

/- The second form's roller: Turn. -/
namespace Go.Proofs.Ytjhfjjkfnmnkgaa
set_option maxRecDepth 100000
set_option linter.unusedVariables false
set_option linter.unusedSimpArgs false
set_option linter.unnecessarySimpa false
open Go.RowKit Go.Args

theorem ShR.sl {w : World} {a : Option Addr} {c : Nat} {l : List Shr} (h : ShR w (.slice a l.length c) l) : ShSl w a l := SlOf.own (fun _ => rfl) h
section
variable {w w0 : World} {L : List MBox} {B D : Hp} {F : Nat → Prop} {g : Nat} {v : Value} {l : List Wa} {p q : List WM} {m m' : WM} {vs vb : Value}
end
/-- A table by itself: two rows. -/
def TabF (sh : List Shr) (tg : List Tgo) (va vb : Value) : Hp := Sep (RowF 0 shareT13 2 va sh.length (sh.flatMap Shr.cells)) (RowF 0 tagT13 2 vb tg.length (tg.flatMap Tgo.cells))
theorem TabF.foot (sh : List Shr) (tg : List Tgo) (va vb : Value) : Foot (TabF sh tg va vb) := (RowF.foot _ _ _ _ _ _).sep (RowF.foot _ _ _ _ _ _)
theorem hold_tab {w0 w w' : World} {L : List MBox} {A B : Hp} {sh : List Shr} {tg : List Tgo} {va vb : Value} (h : Hold w0 w L (Sep A B)) (hA : Foot A) (hB : Foot B) (hc : CopyT w w' sh tg va vb) : Hold w0 w' L (Sep A (Sep (TabF sh tg va vb) B)) :=
  h.beside2 hA hB hc.2.2.2 (F₁ := fun k => va.ownBlock = some k ∨ vb.ownBlock = some k)
    ⟨fun k => va.ownBlock = some k, fun k => vb.ownBlock = some k, ⟨own_base hc.1 (Nat.zero_le _), fun k => Iff.rfl⟩, ⟨own_base hc.2.1 (Nat.zero_le _), fun k => Iff.rfl⟩, fun k q1 q2 => hc.2.2.1 k q1 q2, fun k => Iff.rfl⟩
    (fun k hk => hk.elim (fun q => (hc.1.lt k q).1) (fun q => (hc.2.1.lt k q).1))
end Go.Proofs.Ytjhfjjkfnmnkgaa

/- The second form's roller: what Turn's last steps leave is a way again. -/
namespace Go.Proofs.Ytjhfjjkfnmnkgaa
set_option maxRecDepth 100000
set_option linter.unusedVariables false
set_option linter.unusedSimpArgs false
set_option linter.unnecessarySimpa false
open Go.RowKit Go.Args

section
variable {w w0 : World} {L : List MBox} {B D : Hp} {F : Nat → Prop} {g : Nat} {v : Value} {l : List Wa} {p q lm : List WM} {m m' : WM} {vs va vb : Value} {sh : List Shr} {tg : List Tgo} {k1 : Nat} {z1 : List Value}
end
end Go.Proofs.Ytjhfjjkfnmnkgaa

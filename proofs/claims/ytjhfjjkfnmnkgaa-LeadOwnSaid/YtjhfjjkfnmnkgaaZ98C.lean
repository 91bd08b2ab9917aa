/- My own texts LrM, LrC, LrT, laid in one file. -/
import Derived.Test.YtjhfjjkfnmnkgaaZ98B
import Derived.Test.YtjhfjjkfnmnkgaaZ63
import Derived.Test.YtjhfjjkfnmnkgaaZ29
import Derived.Test.YtjhfjjkfnmnkgaaZ83
import Derived.Test.YtjhfjjkfnmnkgaaZ2
import Derived.Test.YtjhfjjkfnmnkgaaZ48
import Derived.Test.YtjhfjjkfnmnkgaaZ1
import Derived.Test.YtjhfjjkfnmnkgaaZ98A
import Derived.Test.YtjhfjjkfnmnkgaaZ45

/- The second form's roller in memory. -/
namespace Go.Proofs.Ytjhfjjkfnmnkgaa
set_option maxRecDepth 100000
set_option linter.unusedVariables false
set_option linter.unusedSimpArgs false
set_option linter.unnecessarySimpa false
open Go.RowKit

abbrev wayT13 : TypeId := 66
abbrev rolT13 : TypeId := 29
abbrev wptT13 : TypeId := 67
abbrev shareT13 : TypeId := 53
abbrev tagT13 : TypeId := 55
/-- A way with where it lies: its block, its rows. -/
structure WM where
  x : Wa
  p : Nat
  f : Value
  t : Value
  s : Value
  g : Value
def WM.cells (m : WM) : List Value := [.string m.x.nm, m.f, m.t, .int .i64 m.x.si, .int .i64 m.x.wh, m.s, m.g]
/-- A row of shares, of tags, that no one writes to. -/
def ShR (w : World) (v : Value) (l : List Shr) : Prop := w.ownsRow 0 shareT13 2 v l.length (l.flatMap Shr.cells)
def TgR (w : World) (v : Value) (l : List Tgo) : Prop := w.ownsRow 0 tagT13 2 v l.length (l.flatMap Tgo.cells)
structure WmIn (w : World) (m : WM) : Prop where
  hb : Blk w m.p m.cells.toArray wayT13
  f : ShR w m.f m.x.fr
  t : ShR w m.t m.x.to
  s : ShR w m.s m.x.sh
  g : TgR w m.g m.x.tg
def WrK (m : WM) (k : Nat) : Prop := m.f.ownBlock = some k ∨ m.t.ownBlock = some k ∨ m.s.ownBlock = some k ∨ m.g.ownBlock = some k
/-- A way's rows: they may be one. -/
def WrF (m : WM) : Hp := fun w F => (ShR w m.f m.x.fr ∧ ShR w m.t m.x.to ∧ ShR w m.s m.x.sh ∧ TgR w m.g m.x.tg) ∧ ∀ k, F k ↔ WrK m k
theorem WrF.foot (m : WM) : Foot (WrF m) where
  lt := fun ⟨⟨h1, h2, h3, h4⟩, e⟩ k hk => by
    rcases (e k).1 hk with q | q | q | q
    · exact (h1.lt k q).2
    · exact (h2.lt k q).2
    · exact (h3.lt k q).2
    · exact (h4.lt k q).2
  frame := fun ⟨⟨h1, h2, h3, h4⟩, e⟩ c hs => ⟨⟨c.own h1 fun k q => hs k ((e k).2 (.inl q)), c.own h2 fun k q => hs k ((e k).2 (.inr (.inl q))), c.own h3 fun k q => hs k ((e k).2 (.inr (.inr (.inl q)))), c.own h4 fun k q => hs k ((e k).2 (.inr (.inr (.inr q))))⟩, e⟩
def WmF (m : WM) : Hp := Sep (BlkF m.p m.cells wayT13) (WrF m)
theorem WmF.foot (m : WM) : Foot (WmF m) := (BlkF.foot _ _ _).sep (WrF.foot m)
def wptrs (lm : List WM) : List Value := lm.map fun m => pz m.p
def RolS (g : Nat) (v : Value) (lm : List WM) : Hp := Sep (BlkF g [v] rolT13) (Sep (RowF 0 wptT13 1 v lm.length (wptrs lm)) (SepL WmF lm))
theorem RolS.foot (g : Nat) (v : Value) (lm : List WM) : Foot (RolS g v lm) := (BlkF.foot _ _ _).sep ((RowF.foot _ _ _ _ _ _).sep (SepL.foot WmF.foot lm))
/-- The second form's roller that has these ways. -/
def RolP (g : Nat) (l : List Wa) : Hp := fun w F => ∃ (v : Value) (lm : List WM), lm.map WM.x = l ∧ WaOk l ∧ RolS g v lm w F
theorem RolP.foot (g : Nat) (l : List Wa) : Foot (RolP g l) where
  lt := fun ⟨v, lm, _, _, h⟩ => (RolS.foot g v lm).lt h
  frame := fun ⟨v, lm, h1, h2, h⟩ c hs => ⟨v, lm, h1, h2, (RolS.foot g v lm).frame h c hs⟩
section
variable {w w' : World} {F : Nat → Prop} {g : Nat} {v : Value} {lm : List WM}
theorem RolS.hb (h : RolS g v lm w F) : Blk w g ([v] : List Value).toArray rolT13 := by
  obtain ⟨F1, F2, a, _⟩ := h
  exact a.1
theorem RolS.row (h : RolS g v lm w F) : w.ownsRow 0 wptT13 1 v lm.length (wptrs lm) := by
  obtain ⟨F1, F2, _, ⟨F3, F4, a, _⟩, _⟩ := h
  exact a.1
theorem RolS.ob (h : RolS g v lm w F) {i : Nat} {m : WM} (hi : lm[i]? = some m) : WmIn w m := by
  obtain ⟨F1, F2, _, ⟨F3, F4, _, ⟨Fs, hl, ha, _⟩, _⟩, _⟩ := h
  have hil := (List.getElem?_eq_some_iff.1 hi).1
  obtain ⟨F5, F6, q1, ⟨⟨r1, r2, r3, r4⟩, _⟩, _⟩ := ha i m (Fs[i]'(by omega)) hi (List.getElem?_eq_getElem _)
  exact ⟨q1.1, r1, r2, r3, r4⟩
theorem RolS.at (h : RolS g v lm w F) {i : Nat} {m : WM} (hi : lm[i]? = some m) : ∃ q c, v = .slice (some ⟨q, 0, none⟩) lm.length c ∧ w.cell? ⟨q, i, none⟩ = some (pz m.p) ∧ q < w.heap.size := by
  have ho := h.row
  have hil := (List.getElem?_eq_some_iff.1 hi).1
  rcases ho.2 with ⟨_, h0⟩ | ⟨q, cap, cur, rfl, _, hq, _⟩
  · omega
  · exact ⟨q, cap, rfl, own_cell ho (by unfold wptrs; rw [List.getElem?_map, hi]; rfl), Chg.lt_of hq⟩
theorem RolS.sl (h : RolS g v lm w F) : ∃ a c, v = .slice a lm.length c := own_shape h.row
theorem RolS.grow (h : RolS g v lm w F) (k : Grow.G w w') : RolS g v lm w' F := (RolS.foot g v lm).grow h k
end
end Go.Proofs.Ytjhfjjkfnmnkgaa

/- damperref5.Copy: a table by itself. -/
namespace Go.Proofs.Ytjhfjjkfnmnkgaa
set_option maxRecDepth 100000
set_option linter.unusedVariables false
set_option linter.unusedSimpArgs false
set_option linter.unnecessarySimpa false
open Go.RowKit Go.Args

abbrev tablT13 : TypeId := 40
/-- A table copied. -/
def CopyT (w W : World) (l : List Shr) (m : List Tgo) (va vb : Value) : Prop :=
  W.ownsRow w.heap.size shareT13 2 va l.length (l.flatMap Shr.cells) ∧ W.ownsRow w.heap.size tagT13 2 vb m.length (m.flatMap Tgo.cells) ∧ (∀ k, va.ownBlock = some k → ¬ vb.ownBlock = some k) ∧ Grow.G w W
end Go.Proofs.Ytjhfjjkfnmnkgaa

/- The second form's roller: Table. -/
namespace Go.Proofs.Ytjhfjjkfnmnkgaa
set_option maxRecDepth 100000
set_option linter.unusedVariables false
set_option linter.unusedSimpArgs false
set_option linter.unnecessarySimpa false
open Go.RowKit Go.Args

section
variable {w w' w0 : World} {L : List MBox} {A B : Hp} {F : Nat → Prop} {g : Nat} {v : Value} {l : List Wa} {p q lm : List WM} {m : WM}
/-- The rest of a roller, one way taken out. -/
def RolR (g : Nat) (v : Value) (p : List WM) (m : WM) (q : List WM) : Hp := Sep (BlkF g [v] rolT13) (Sep (RowF 0 wptT13 1 v (p ++ m :: q).length (wptrs (p ++ m :: q))) (SepL WmF (p ++ q)))
theorem RolR.foot (g : Nat) (v : Value) (p : List WM) (m : WM) (q : List WM) : Foot (RolR g v p m q) := (BlkF.foot _ _ _).sep ((RowF.foot _ _ _ _ _ _).sep (SepL.foot WmF.foot _))
end
section
variable {w0 w : World} {L : List MBox} {B : Hp} {g : Nat} {l : List Wa} {x : Wa}
end
end Go.Proofs.Ytjhfjjkfnmnkgaa

/- My own texts TwoT, RowH, laid in one file. -/
import Derived.Test.YtjhfjjkfnmnkgaaZ48
import Derived.Test.YtjhfjjkfnmnkgaaZ83
import Derived.Test.YtjhfjjkfnmnkgaaZ2
import Derived.Test.YtjhfjjkfnmnkgaaZ1

/- Two rows of a call's own, of whatever types, that grow side by side, in whatever order. No program is named here. -/
namespace Go.Proofs.Ytjhfjjkfnmnkgaa
set_option linter.unusedVariables false
set_option linter.unusedSimpArgs false
open Go.RowKit

structure TwoT (T1 : TypeId) (s1 : Nat) (T2 : TypeId) (s2 : Nat) (w : World) (base : Nat) (v : Value) (n : Nat) (xs : List Value) (u : Value) (m : Nat) (ys : List Value) : Prop where
  l : w.ownsRow base T1 s1 v n xs
  r : w.ownsRow base T2 s2 u m ys
  ne : ∀ k, v.ownBlock = some k → ¬ u.ownBlock = some k
  b : base ≤ w.heap.size
namespace TwoT
variable {T1 T2 : TypeId} {s1 s2 : Nat} {w w' : World} {base n n' m m' : Nat} {v u v' u' : Value} {xs ys zs : List Value}
theorem none (w : World) : TwoT T1 s1 T2 s2 w w.heap.size (.slice none 0 0) 0 [] (.slice none 0 0) 0 [] :=
  ⟨⟨by simp, .inl ⟨rfl, rfl⟩⟩, ⟨by simp, .inl ⟨rfl, rfl⟩⟩, (fun k h => by cases h), Nat.le_refl _⟩
theorem grow (h : TwoT T1 s1 T2 s2 w base v n xs u m ys) (g : Grow.G w w') : TwoT T1 s1 T2 s2 w' base v n xs u m ys := ⟨own_later h.l g, own_later h.r g, h.ne, Nat.le_trans h.b g.size⟩
theorem swap (h : TwoT T1 s1 T2 s2 w base v n xs u m ys) : TwoT T2 s2 T1 s1 w base u m ys v n xs := ⟨h.r, h.l, fun k hk q => h.ne k q hk, h.b⟩
theorem left (h : TwoT T1 s1 T2 s2 w base v n xs u m ys) (f : Fr.Fr w w' v v') (o : w'.ownsRow base T1 s1 v' n' zs) : TwoT T1 s1 T2 s2 w' base v' n' zs u m ys :=
  ⟨o, (Chg.ofFr f).own h.r (fun k hk q => h.ne k q hk), (fun k hk q => by
    rcases f.o with e | ⟨g, e, hg⟩
    · exact h.ne k (e ▸ hk) q
    · have e2 : k = g := Option.some.inj (hk.symm.trans e)
      have := (h.r.lt k q).2
      omega), Nat.le_trans h.b f.g.size⟩
theorem right (h : TwoT T1 s1 T2 s2 w base v n xs u m ys) (f : Fr.Fr w w' u u') (o : w'.ownsRow base T2 s2 u' m' zs) : TwoT T1 s1 T2 s2 w' base v n xs u' m' zs := (h.swap.left f o).swap
end TwoT
end Go.Proofs.Ytjhfjjkfnmnkgaa

/- A row that a call holds, appended to; a new row, a new block beside a block of a state; a block of a state changed. No program is named here. -/
namespace Go.Proofs.Ytjhfjjkfnmnkgaa
set_option maxRecDepth 100000
set_option linter.unusedVariables false
set_option linter.unusedSimpArgs false
open Go.RowKit Go.Args

section
variable {w : World} {F : Nat → Prop} {A B C D E I J X R : Hp}
theorem Sep.pull2 (h : (Sep A (Sep B (Sep X R))) w F) : (Sep X (Sep A (Sep B R))) w F := (Sep.under h fun F h => Sep.rot h).rot
theorem Sep.pull3 (h : (Sep A (Sep B (Sep C (Sep X R)))) w F) : (Sep X (Sep A (Sep B (Sep C R)))) w F := (Sep.under h fun F h => Sep.pull2 h).rot
theorem Sep.pull4 (h : (Sep A (Sep B (Sep C (Sep D (Sep X R))))) w F) : (Sep X (Sep A (Sep B (Sep C (Sep D R))))) w F := (Sep.under h fun F h => Sep.pull3 h).rot
theorem Sep.pull5 (h : (Sep A (Sep B (Sep C (Sep D (Sep E (Sep X R)))))) w F) : (Sep X (Sep A (Sep B (Sep C (Sep D (Sep E R)))))) w F := (Sep.under h fun F h => Sep.pull4 h).rot
end
section
variable {w0 w w' : World} {L : List MBox} {A D : Hp} {mp r : Nat} {cs cs' rs : List Value} {T U : TypeId}
theorem hold_row1 {base sz n : Nat} {v : Value} {xs : List Value} (h : Hold w0 w L (Sep A D)) (hA : Foot A) (hD : Foot D) (g : Grow.G w w') (o : w'.ownsRow base T sz v n xs) (hb : w.heap.size ≤ base) : Hold w0 w' L (Sep A (Sep (RowF 0 T sz v n xs) D)) :=
  h.beside2 hA hD g (F₁ := fun k => v.ownBlock = some k) ⟨own_base o (Nat.zero_le _), fun k => Iff.rfl⟩ (fun k hk => Nat.le_trans hb (o.lt k hk).1)
theorem hold_blk1 (h : Hold w0 w L (Sep A D)) (hA : Foot A) (hD : Foot D) (g : Grow.G w w') (b : Blk w' r rs.toArray U) (hr : w.heap.size ≤ r) : Hold w0 w' L (Sep A (Sep (BlkF r rs U) D)) :=
  h.beside2 hA hD g (F₁ := fun k => k = r) ⟨b, fun k => Iff.rfl⟩ (fun k hk => by have hk : k = r := hk; omega)
theorem hold_new1 (h : Hold w0 w L (Sep A D)) (hA : Foot A) (hD : Foot D) (rs : List Value) (U : TypeId) (hr : r = w.heap.size) : Hold w0 (w.alloc (.cells rs.toArray U)) L (Sep A (Sep (BlkF r rs U) D)) := by
  subst hr
  exact hold_blk1 h hA hD (Grow.G.alloc (Grow.G.refl _) _) (Blk.new w _ _) (Nat.le_refl _)
theorem hold_b1 (h : Hold w0 w L (Sep (BlkF mp cs T) D)) : Blk w mp cs.toArray T := h.see fun F ⟨F1, F2, a, _⟩ => a.1
end
end Go.Proofs.Ytjhfjjkfnmnkgaa

/- My own texts TwoT, RowH, laid in one file. -/
import Derived.Test.YtjhfjjkfnmnkgaaZ48
import Derived.Test.YtjhfjjkfnmnkgaaZ83
import Derived.Test.YtjhfjjkfnmnkgaaZ2
import Derived.Test.YtjhfjjkfnmnkgaaZ1

/- Two rows of a call's own, of whatever types, that grow side by side, in whatever order. No program is named here. -/
namespace Go.Proofs.Ytjhfjjkfnmnkgaa
set_option linter.unusedVariables false
set_option linter.unusedSimpArgs false
open Go.RowKit

theorem own_nil12 {w : World} {b base sz : Nat} {T : TypeId} (hc : w.heap[b]? = some (.cells (([] : List Value)).toArray T (0, 0))) (hb : base ≤ b) : w.ownsRow base T sz (.slice (some ⟨b, 0, none⟩) 0 0) 0 [] :=
  ⟨by simp, .inr ⟨b, 0, _, rfl, hb, hc, Nat.le_refl _, Nat.zero_le _, by simp, by simp⟩⟩
structure TwoT (T1 : TypeId) (s1 : Nat) (T2 : TypeId) (s2 : Nat) (w : World) (base : Nat) (v : Value) (n : Nat) (xs : List Value) (u : Value) (m : Nat) (ys : List Value) : Prop where
  l : w.ownsRow base T1 s1 v n xs
  r : w.ownsRow base T2 s2 u m ys
  ne : ∀ k, v.ownBlock = some k → ¬ u.ownBlock = some k
  b : base ≤ w.heap.size
namespace TwoT
variable {T1 T2 : TypeId} {s1 s2 : Nat} {w w' : World} {base n n' m m' : Nat} {v u v' u' : Value} {xs ys zs : List Value}
theorem none (w : World) : TwoT T1 s1 T2 s2 w w.heap.size (.slice none 0 0) 0 [] (.slice none 0 0) 0 [] :=
  ⟨⟨by simp, .inl ⟨rfl, rfl⟩⟩, ⟨by simp, .inl ⟨rfl, rfl⟩⟩, (fun k h => by cases h), Nat.le_refl _⟩
theorem grow (h : TwoT T1 s1 T2 s2 w base v n xs u m ys) (g : Grow.G w w') : TwoT T1 s1 T2 s2 w' base v n xs u m ys := ⟨own_later h.l g, own_later h.r g, h.ne, Nat.le_trans h.b g.size⟩
theorem swap (h : TwoT T1 s1 T2 s2 w base v n xs u m ys) : TwoT T2 s2 T1 s1 w base u m ys v n xs := ⟨h.r, h.l, fun k hk q => h.ne k q hk, h.b⟩
theorem newL (h : TwoT T1 s1 T2 s2 w base v 0 [] u m ys) (g : Grow.G w w') (hc : w'.heap[w.heap.size]? = some (.cells (([] : List Value)).toArray T1 (0, 0))) :
    TwoT T1 s1 T2 s2 w' base (.slice (some ⟨w.heap.size, 0, Option.none⟩) 0 0) 0 [] u m ys :=
  ⟨own_nil12 hc h.b, own_later h.r g, (fun k hk q => by have e : w.heap.size = k := Option.some.inj hk; have := (h.r.lt _ q).2; omega), Nat.le_trans h.b g.size⟩
theorem newR (h : TwoT T1 s1 T2 s2 w base v n xs u 0 []) (g : Grow.G w w') (hc : w'.heap[w.heap.size]? = some (.cells (([] : List Value)).toArray T2 (0, 0))) :
    TwoT T1 s1 T2 s2 w' base v n xs (.slice (some ⟨w.heap.size, 0, Option.none⟩) 0 0) 0 [] := (h.swap.newL g hc).swap
theorem left (h : TwoT T1 s1 T2 s2 w base v n xs u m ys) (f : Fr.Fr w w' v v') (o : w'.ownsRow base T1 s1 v' n' zs) : TwoT T1 s1 T2 s2 w' base v' n' zs u m ys :=
  ⟨o, (Chg.ofFr f).own h.r (fun k hk q => h.ne k q hk), (fun k hk q => by
    rcases f.o with e | ⟨g, e, hg⟩
    · exact h.ne k (e ▸ hk) q
    · have e2 : k = g := Option.some.inj (hk.symm.trans e)
      have := (h.r.lt k q).2
      omega), Nat.le_trans h.b f.g.size⟩
theorem right (h : TwoT T1 s1 T2 s2 w base v n xs u m ys) (f : Fr.Fr w w' u u') (o : w'.ownsRow base T2 s2 u' m' zs) : TwoT T1 s1 T2 s2 w' base v n xs u' m' zs := (h.swap.left f o).swap
theorem chgL (h : TwoT T1 s1 T2 s2 w base v n xs u m ys) (f : Fr.Fr w w' v v') : Chg (fun k => base ≤ k) w w' := (Chg.ofFr f).mono fun i _ hi => (h.l.lt i hi).1
theorem chgR (h : TwoT T1 s1 T2 s2 w base v n xs u m ys) (f : Fr.Fr w w' u u') : Chg (fun k => base ≤ k) w w' := h.swap.chgL f
/-- A store into an older block. -/
theorem past {g : Nat} (h : TwoT T1 s1 T2 s2 w base v n xs u m ys) (c : Chg (fun k => k = g) w w') (hg : g < base) : TwoT T1 s1 T2 s2 w' base v n xs u m ys :=
  ⟨c.own h.l (fun k hk q => by have := (h.l.lt k hk).1; have q : k = g := q; omega), c.own h.r (fun k hk q => by have := (h.r.lt k hk).1; have q : k = g := q; omega), h.ne, Nat.le_trans h.b c.size⟩
end TwoT
end Go.Proofs.Ytjhfjjkfnmnkgaa

/- A row that a call holds, appended to; a new row, a new block beside a block of a state; a block of a state changed. No program is named here. -/
namespace Go.Proofs.Ytjhfjjkfnmnkgaa
set_option maxRecDepth 100000
set_option linter.unusedVariables false
set_option linter.unusedSimpArgs false
open Go.RowKit Go.Args

theorem hold_rowFr {w0 w w' : World} {L : List MBox} {A B : Hp} {e : TypeId} {v v' : Value} {n n' : Nat} {xs xs' : List Value} (h : Hold w0 w L (Sep A (Sep (RowF 0 e 1 v n xs) B))) (hA : Foot A) (hB : Foot B) (ho : w'.ownsRow 0 e 1 v' n' xs') (f : Fr.Fr w w' v v') : Hold w0 w' L (Sep A (Sep (RowF 0 e 1 v' n' xs') B)) := by
  refine (h.rot.step (Sep.stepL (hA.sep hB) fun F ⟨hv, eF⟩ => ?_)).rot
  refine ⟨fun k => v'.ownBlock = some k, ⟨ho, fun k => Iff.rfl⟩, (Chg.ofFr f).sub (fun k hk => (eF k).2 hk), fun k hk => ?_⟩
  rcases f.o with q | ⟨g, q, hg⟩
  · exact .inl ((eF k).2 (q ▸ hk))
  · have e2 : g = k := Option.some.inj (q.symm.trans hk)
    exact .inr (by omega)
theorem hold_rowR {w0 w : World} {L : List MBox} {A B : Hp} {e : TypeId} {v : Value} {n : Nat} {xs : List Value} (h : Hold w0 w L (Sep A (Sep (RowF 0 e 1 v n xs) B))) : w.ownsRow 0 e 1 v n xs := by
  obtain ⟨F, ⟨F1, F2, _, ⟨F3, F4, ho, _⟩, _⟩, _⟩ := h.st
  exact ho.1
theorem blk_srcP {w : World} {g b : Nat} {T : TypeId} (h : Blk w g #[pz b] T) : Fr.Src w (some ⟨g, 0, none⟩) [pz b] :=
  .inr ⟨_, rfl, fun j u hj => by
    have e : (⟨g, 0, none⟩ : Addr).add j = ⟨g, 0 + j, none⟩ := by unfold Addr.add; split <;> simp_all
    rw [e, Nat.zero_add, h.cell j]
    simpa using hj⟩
section
variable {w : World} {F : Nat → Prop} {A B C D E I J X R : Hp}
theorem Sep.pull2 (h : (Sep A (Sep B (Sep X R))) w F) : (Sep X (Sep A (Sep B R))) w F := (Sep.under h fun F h => Sep.rot h).rot
theorem Sep.push2 (h : (Sep X (Sep A (Sep B R))) w F) : (Sep A (Sep B (Sep X R))) w F := (Sep.rot h).under fun F h => Sep.rot h
theorem Sep.pull3 (h : (Sep A (Sep B (Sep C (Sep X R)))) w F) : (Sep X (Sep A (Sep B (Sep C R)))) w F := (Sep.under h fun F h => Sep.pull2 h).rot
theorem Sep.push3 (h : (Sep X (Sep A (Sep B (Sep C R)))) w F) : (Sep A (Sep B (Sep C (Sep X R)))) w F := (Sep.rot h).under fun F h => Sep.push2 h
theorem Sep.pull4 (h : (Sep A (Sep B (Sep C (Sep D (Sep X R))))) w F) : (Sep X (Sep A (Sep B (Sep C (Sep D R))))) w F := (Sep.under h fun F h => Sep.pull3 h).rot
theorem Sep.push4 (h : (Sep X (Sep A (Sep B (Sep C (Sep D R))))) w F) : (Sep A (Sep B (Sep C (Sep D (Sep X R))))) w F := (Sep.rot h).under fun F h => Sep.push3 h
theorem Sep.pull5 (h : (Sep A (Sep B (Sep C (Sep D (Sep E (Sep X R)))))) w F) : (Sep X (Sep A (Sep B (Sep C (Sep D (Sep E R)))))) w F := (Sep.under h fun F h => Sep.pull4 h).rot
theorem Sep.push5 (h : (Sep X (Sep A (Sep B (Sep C (Sep D (Sep E R)))))) w F) : (Sep A (Sep B (Sep C (Sep D (Sep E (Sep X R)))))) w F := (Sep.rot h).under fun F h => Sep.push4 h
theorem Sep.pull6 (h : (Sep A (Sep B (Sep C (Sep D (Sep E (Sep I (Sep X R))))))) w F) : (Sep X (Sep A (Sep B (Sep C (Sep D (Sep E (Sep I R))))))) w F := (Sep.under h fun F h => Sep.pull5 h).rot
theorem Sep.push6 (h : (Sep X (Sep A (Sep B (Sep C (Sep D (Sep E (Sep I R))))))) w F) : (Sep A (Sep B (Sep C (Sep D (Sep E (Sep I (Sep X R))))))) w F := (Sep.rot h).under fun F h => Sep.push5 h
end
section
variable {w0 w w' : World} {L : List MBox} {A D : Hp} {mp r : Nat} {cs cs' rs : List Value} {T U : TypeId}
theorem hold_chg1 (h : Hold w0 w L (Sep (BlkF mp cs T) D)) (hD : Foot D) (c : Chg (fun k => k = mp) w w') (hb : Blk w' mp cs'.toArray T) : Hold w0 w' L (Sep (BlkF mp cs' T) D) :=
  h.step (Sep.stepL hD fun F hF => ⟨F, ⟨hb, hF.2⟩, c.sub (fun k hk => (hF.2 k).2 hk), Fresh.refl _ _⟩)
theorem hold_row1 {base sz n : Nat} {v : Value} {xs : List Value} (h : Hold w0 w L (Sep A D)) (hA : Foot A) (hD : Foot D) (g : Grow.G w w') (o : w'.ownsRow base T sz v n xs) (hb : w.heap.size ≤ base) : Hold w0 w' L (Sep A (Sep (RowF 0 T sz v n xs) D)) :=
  h.beside2 hA hD g (F₁ := fun k => v.ownBlock = some k) ⟨own_base o (Nat.zero_le _), fun k => Iff.rfl⟩ (fun k hk => Nat.le_trans hb (o.lt k hk).1)
theorem hold_blk1 (h : Hold w0 w L (Sep A D)) (hA : Foot A) (hD : Foot D) (g : Grow.G w w') (b : Blk w' r rs.toArray U) (hr : w.heap.size ≤ r) : Hold w0 w' L (Sep A (Sep (BlkF r rs U) D)) :=
  h.beside2 hA hD g (F₁ := fun k => k = r) ⟨b, fun k => Iff.rfl⟩ (fun k hk => by have hk : k = r := hk; omega)
theorem hold_new1 (h : Hold w0 w L (Sep A D)) (hA : Foot A) (hD : Foot D) (rs : List Value) (U : TypeId) (hr : r = w.heap.size) : Hold w0 (w.alloc (.cells rs.toArray U)) L (Sep A (Sep (BlkF r rs U) D)) := by
  subst hr
  exact hold_blk1 h hA hD (Grow.G.alloc (Grow.G.refl _) _) (Blk.new w _ _) (Nat.le_refl _)
theorem hold_b1 (h : Hold w0 w L (Sep (BlkF mp cs T) D)) : Blk w mp cs.toArray T := h.see fun F ⟨F1, F2, a, _⟩ => a.1
end
end Go.Proofs.Ytjhfjjkfnmnkgaa


/- What changes leave of a made table. -/
import Derived.Test.YtbagjeefoifpeaaDoorTabF
import Derived.Test.YtbagjeefoifpeaaDoorZ2
namespace Go.Proofs.YtbagjeefoifpeaaDoor
set_option maxRecDepth 100000
set_option linter.unusedVariables false
set_option linter.unusedSimpArgs false
set_option linter.unnecessarySimpa false
open Go.RowKit Go.Args

/-- A made table in its box, ahead of a change. -/
structure MadeB (w W : World) (gb : Nat) (a : Option Addr) (l : List Shr) (c : Nat) (a' : Option Addr) (m : List Tgo) (c' : Nat) : Prop where
  bx : Blk W gb #[.slice a l.length c, .slice a' m.length c'] 25
  sh : W.ownsRow w.heap.size 32 2 (.slice a l.length c) l.length (l.flatMap Shr.cells)
  tg : W.ownsRow w.heap.size 35 2 (.slice a' m.length c') m.length (m.flatMap Tgo.cells)
  ll : l.length ≤ 1000
  lm : m.length ≤ 1000
  ok : ∀ s, s ∈ l → s.ok
  ok' : ∀ s, s ∈ m → s.ok
  g : Grow.G w W
  lb : w.heap.size ≤ gb
section
variable {w W : World} {gb : Nat} {a : Option Addr} {l : List Shr} {c : Nat} {a' : Option Addr} {m : List Tgo} {c' : Nat}
theorem MadeB.grow {W' : World} (h : MadeB w W gb a l c a' m c') (g : Grow.G W W') : MadeB w W' gb a l c a' m c' :=
  ⟨h.bx.grow g, own_later h.sh g, own_later h.tg g, h.ll, h.lm, h.ok, h.ok', h.g.trans g, h.lb⟩
theorem MadeB.fin (h : MadeB w W gb a l c a' m c') : FinT w W gb a l c a' m c' :=
  ⟨h.bx, SlOf.own (fun x => rfl) h.sh, SlOf.own (fun x => rfl) h.tg, by have := h.ll; omega, by have := h.lm; omega, h.ok, h.ok', h.g⟩
/-- The row of Shares: where it lies. -/
theorem MadeB.row (h : MadeB w W gb a l c a' m c') (hl : 1 ≤ l.length) : ∃ sb cur, a = some ⟨sb, 0, none⟩ ∧ w.heap.size ≤ sb ∧ Blk W sb cur 32 ∧ sb ≠ gb ∧ (∀ k s, l[k]? = some s → W.cell? ⟨sb, k * 2, none⟩ = some (.string s.rev) ∧ W.cell? ⟨sb, k * 2 + 1, none⟩ = some (.int .i64 s.w)) := by
  obtain ⟨sb, c0, cur, hv, hb, hk⟩ := own_block h.sh hl
  cases hv
  refine ⟨sb, cur, rfl, hb, hk, fun e => by subst e; exact own_blk_types h.sh h.bx (by decide) rfl, fun k s hs => ?_⟩
  obtain ⟨b, off, e, hc⟩ := ShSl.at (SlOf.own (fun x => rfl) h.sh : ShSl W _ l) hs
  cases e
  have := hc W (Grow.G.refl _)
  rwa [Nat.zero_add] at this
/-- Cells of the row of Shares are written. -/
theorem FinT.cell {sb k j : Nat} {s s' : Shr} {v : Value} {W' : World} (h : FinT w W gb (some ⟨sb, 0, none⟩) l c a' m c') (hT : ∀ k, Iter.blkOf m a' k → k ≠ sb) (hg : sb ≠ gb) (hb : w.heap.size ≤ sb) (hk : l[k]? = some s) (hj : j < 2) (hs : s'.cells = s.cells.set j v) (ho : s'.ok) (g : Grow.G (W.setCell ⟨sb, k * 2 + j, none⟩ v) W') :
    FinT w W' gb (some ⟨sb, 0, none⟩) (l.set k s') c a' m c' := by
  have CS : Chg (fun k => k = sb) W (W.setCell ⟨sb, k * 2 + j, none⟩ v) := Chg.setCell (G := fun k => k = sb) (Chg.refl _ _) (fun _ => rfl) _ _
  have S1 := SlOf.setw (n := 2) (k := k) (j := j) (fun x => rfl) h.sh hk hj hs
  rw [Nat.zero_add] at S1
  refine ⟨by rw [List.length_set]; exact (CS.blk h.bx (fun q => hg q.symm)).trans rfl |> fun h => Blk.grow h g, SlOf.later S1 g, ?_, by rw [List.length_set]; exact h.ll, h.lm, fun x hx => ?_, h.ok', (g0 ((Chg.grow (G := fun _ => False) h.g).join CS (fun i hi q => by have q : i = sb := q; omega))).trans g⟩
  · exact SlOf.later ((Iter.KeepP.chg (p := fun k => k ≠ sb) CS (fun k hk q => hk q)).slOf h.tg (fun k hk => hT k hk)) g
  · rcases List.mem_or_eq_of_mem_set hx with hx | rfl
    · exact h.ok x hx
    · exact ho
theorem FinT.grow {W' : World} (h : FinT w W gb a l c a' m c') (g : Grow.G W W') : FinT w W' gb a l c a' m c' :=
  ⟨h.bx.grow g, h.sh.later g, h.tg.later g, h.ll, h.lm, h.ok, h.ok', h.g.trans g⟩
def swapL (l : List Shr) (k : Nat) (s s0 : Shr) : List Shr := (((l.set k ⟨s0.rev, s.w⟩).set k s0).set 0 ⟨s.rev, s0.w⟩).set 0 s
theorem swap_at {l : List Shr} {k : Nat} {s0 x : Shr} (h : l[0]? = some s0) (hk : k < l.length) : ((l.set k x).set k s0)[0]? = some s0 := by
  by_cases e : k = 0
  · subst e; rw [List.getElem?_set_self (by rw [List.length_set]; exact hk)]
  · rw [List.getElem?_set_ne e, List.getElem?_set_ne e, h]
theorem FinT.cells {sb : Nat} {s : Shr} (h : FinT w W gb (some ⟨sb, 0, none⟩) l c a' m c') (hs : l[0]? = some s) : W.cell? ⟨sb, 0, none⟩ = some (.string s.rev) ∧ W.cell? ⟨sb, 1, none⟩ = some (.int .i64 s.w) := by
  obtain ⟨b, off, e, hc⟩ := ShSl.at h.sh hs
  cases e
  exact hc W (Grow.G.refl _)
theorem MadeB.ht (h : MadeB w W gb a l c a' m c') {sb : Nat} {cur : Array Value} (hk : Blk W sb cur 32) : ∀ k, Iter.blkOf m a' k → k ≠ sb := by
  rintro k ⟨hm, off, rfl⟩ rfl
  obtain ⟨b, c1, cur1, hv, hb, hk1⟩ := own_block h.tg (by rcases Nat.eq_zero_or_pos m.length with q | q
                                                          · exact (hm (List.eq_nil_of_length_eq_zero q)).elim
                                                          · exact q)
  cases hv
  exact own_blk_types h.tg hk (by decide) rfl
/-- A Share is laid behind. -/
theorem MadeB.more (h : MadeB w W gb a l c a' m c') {W1 W2 : World} {g9 c9 : Nat} {s : Shr} (AP : Chg (fun k => (Value.slice a l.length c).ownBlock = some k) W W1)
    (OW : W1.ownsRow w.heap.size 32 2 (.slice (some ⟨g9, 0, none⟩) (l.length + 1) c9) (l.length + 1) (l.flatMap Shr.cells ++ s.cells)) (hs : s.ok) (g : Grow.G (W1.setCell ⟨gb, 0, none⟩ (.slice (some ⟨g9, 0, none⟩) (l.length + 1) c9)) W2) :
    FinT w W2 gb (some ⟨g9, 0, none⟩) (l ++ [s]) c9 a' m c' := by
  have CS : Chg (fun k => k = gb) W1 (W1.setCell ⟨gb, 0, none⟩ (.slice (some ⟨g9, 0, none⟩) (l.length + 1) c9)) := Chg.setCell (G := fun k => k = gb) (Chg.refl _ _) (fun _ => rfl) _ _
  have B1 := h.bx.chg AP (own_blk_types h.sh h.bx (by decide))
  have BZ := B1.set 0 (.slice (some ⟨g9, 0, none⟩) (l.length + 1) c9)
  simp only [List.setIfInBounds_toArray, List.set_cons_zero, List.set_cons_succ] at BZ
  have e1 : (l ++ [s]).length = l.length + 1 := by simp
  have e2 : (l ++ [s]).flatMap Shr.cells = l.flatMap Shr.cells ++ s.cells := by rw [List.flatMap_append]; simp
  have T1 := AP.own h.tg (fun k hk q => own_types h.tg h.sh (by decide) hk q)
  have T2 := CS.own T1 (fun k hk q => by have q : k = gb := q; subst q; exact own_blk_types T1 B1 (by decide) hk)
  have S2 := CS.own OW (fun k hk q => by have q : k = gb := q; subst q; exact own_blk_types OW B1 (by decide) hk)
  refine ⟨by rw [e1]; exact BZ.grow g, ?_, SlOf.later (SlOf.own (fun x => rfl) T2) g, by have := h.ll; omega, by have := h.lm; omega, fun x hx => ?_, h.ok', (g0 (((Chg.grow (G := fun _ => False) h.g).join AP (fun i hi q => by have := (h.sh.lt i q).1; omega)).join CS (fun i hi q => by have q : i = gb := q; have := h.lb; omega))).trans g⟩
  · exact SlOf.later (SlOf.own (c := c9) (e := 32) (base := w.heap.size) (fun x => rfl) (by rw [e1, e2]; exact S2)) g
  · rcases List.mem_append.1 hx with hx | hx
    · exact h.ok x hx
    · rw [List.mem_singleton.1 hx]; exact hs
/-- A tag is laid behind. -/
theorem MadeB.moreT (h : MadeB w W gb a l c a' m c') {W1 W2 : World} {g9 c9 : Nat} {s : Tgo} (AP : Chg (fun k => (Value.slice a' m.length c').ownBlock = some k) W W1)
    (OW : W1.ownsRow w.heap.size 35 2 (.slice (some ⟨g9, 0, none⟩) (m.length + 1) c9) (m.length + 1) (m.flatMap Tgo.cells ++ s.cells)) (hs : s.ok) (g : Grow.G (W1.setCell ⟨gb, 1, none⟩ (.slice (some ⟨g9, 0, none⟩) (m.length + 1) c9)) W2) :
    FinT w W2 gb a l c (some ⟨g9, 0, none⟩) (m ++ [s]) c9 := by
  have CS : Chg (fun k => k = gb) W1 (W1.setCell ⟨gb, 1, none⟩ (.slice (some ⟨g9, 0, none⟩) (m.length + 1) c9)) := Chg.setCell (G := fun k => k = gb) (Chg.refl _ _) (fun _ => rfl) _ _
  have B1 := h.bx.chg AP (own_blk_types h.tg h.bx (by decide))
  have BZ := B1.set 1 (.slice (some ⟨g9, 0, none⟩) (m.length + 1) c9)
  simp only [List.setIfInBounds_toArray, List.set_cons_zero, List.set_cons_succ] at BZ
  have e1 : (m ++ [s]).length = m.length + 1 := by simp
  have e2 : (m ++ [s]).flatMap Tgo.cells = m.flatMap Tgo.cells ++ s.cells := by rw [List.flatMap_append]; simp
  have T1 := AP.own h.sh (fun k hk q => own_types h.sh h.tg (by decide) hk q)
  have T2 := CS.own T1 (fun k hk q => by have q : k = gb := q; subst q; exact own_blk_types T1 B1 (by decide) hk)
  have S2 := CS.own OW (fun k hk q => by have q : k = gb := q; subst q; exact own_blk_types OW B1 (by decide) hk)
  refine ⟨by rw [e1]; exact BZ.grow g, SlOf.later (SlOf.own (fun x => rfl) T2) g, ?_, by have := h.ll; omega, by have := h.lm; omega, h.ok, fun x hx => ?_, (g0 (((Chg.grow (G := fun _ => False) h.g).join AP (fun i hi q => by have := (h.tg.lt i q).1; omega)).join CS (fun i hi q => by have q : i = gb := q; have := h.lb; omega))).trans g⟩
  · exact SlOf.later (SlOf.own (c := c9) (e := 35) (base := w.heap.size) (fun x => rfl) (by rw [e1, e2]; exact S2)) g
  · rcases List.mem_append.1 hx with hx | hx
    · exact h.ok' x hx
    · rw [List.mem_singleton.1 hx]; exact hs
/-- The first ones alone. -/
theorem MadeB.less (h : MadeB w W gb a l c a' m c') {W1 W2 : World} {j : Nat} (hj : j ≤ l.length) (g1 : Grow.G W W1) (g : Grow.G (W1.setCell ⟨gb, 0, none⟩ (.slice a j c)) W2) :
    FinT w W2 gb a (l.take j) c a' m c' := by
  have h := h.grow g1
  have CS : Chg (fun k => k = gb) W1 (W1.setCell ⟨gb, 0, none⟩ (.slice a j c)) := Chg.setCell (G := fun k => k = gb) (Chg.refl _ _) (fun _ => rfl) _ _
  have BZ := h.bx.set 0 (.slice a j c)
  simp only [List.setIfInBounds_toArray, List.set_cons_zero, List.set_cons_succ] at BZ
  have e1 : (l.take j).length = j := by rw [List.length_take]; omega
  have T2 := CS.own h.tg (fun k hk q => by have q : k = gb := q; subst q; exact own_blk_types h.tg h.bx (by decide) hk)
  have S2 : ShSl _ a l := SlOf.own (fun x => rfl) (CS.own h.sh (fun k hk q => by have q : k = gb := q; subst q; exact own_blk_types h.sh h.bx (by decide) hk))
  refine ⟨by rw [e1]; exact BZ.grow g, ?_, SlOf.later (SlOf.own (fun x => rfl) T2) g, by have := h.ll; omega, by have := h.lm; omega, fun x hx => h.ok x (List.mem_of_mem_take hx), h.ok', (g0 ((Chg.grow (G := fun _ => False) h.g).join CS (fun i hi q => by have q : i = gb := q; have := h.lb; omega))).trans g⟩
  refine SlOf.later (S2.imp (fun e => by rw [e]; simp) fun ⟨b, off, ha, hc⟩ => ⟨b, off, ha, fun i x hi jj v hv => hc i x ?_ jj v hv⟩) g
  rw [List.getElem?_take] at hi
  split at hi
  · exact hi
  · cases hi
end
end Go.Proofs.YtbagjeefoifpeaaDoor

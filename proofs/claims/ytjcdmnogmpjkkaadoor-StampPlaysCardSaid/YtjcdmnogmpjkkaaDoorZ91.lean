/- My own texts HoldG, RowSet, laid in one file. -/
import Derived.Test.YtjcdmnogmpjkkaaDoorZ29
import Derived.Test.YtjcdmnogmpjkkaaDoorZ83
import Derived.Test.YtjcdmnogmpjkkaaDoorZ2

/- A contract that is told among what a call holds, told by its footprint: nothing but that changes. No program is named here. -/
namespace Go
set_option linter.unusedVariables false
open Go.RowKit

/-- All that lies apart from F, as it was. -/
def RestF (w : World) (F : Nat → Prop) : Hp := fun w' G => (∀ k, G k ↔ k < w.heap.size ∧ ¬ F k) ∧ w.heap.size ≤ w'.heap.size ∧ ∀ k, k < w.heap.size → ¬ F k → w'.heap[k]? = w.heap[k]?
theorem RestF.foot (w : World) (F : Nat → Prop) : Foot (RestF w F) where
  lt := fun ⟨h1, h2, _⟩ k hk => Nat.lt_of_lt_of_le ((h1 k).1 hk).1 h2
  frame := fun ⟨h1, h2, h3⟩ c hs => ⟨h1, Nat.le_trans h2 c.size, fun k hk hf => (c.block k (Nat.lt_of_lt_of_le hk h2) (hs k ((h1 k).2 ⟨hk, hf⟩))).trans (h3 k hk hf)⟩
theorem ends_of_hold {P : Program} {f : FuncId} {args : Array Value} {A A' : Hp} {R : Ending → World → Prop} {w : World} {F : Nat → Prop} (hA : Foot A) (h : A w F)
    (hc : ∀ (w0 : World) (B : Hp), Foot B → Hold w0 w [] (Sep A B) → Calls P f args w fun e w' => R e w' ∧ Hold w0 w' [] (Sep A' B)) : Calls P f args w fun e w' => R e w' ∧ EndS w w' F A' := by
  have hw : Below (0 : Nat) { w with heap := #[] } w := ⟨rfl, rfl, rfl, Nat.zero_le _, fun k hk => absurd hk (Nat.not_lt_zero k)⟩
  have H : Hold { w with heap := #[] } w [] (Sep A (RestF w F)) := ⟨⟨hw, fun b hb => (by cases hb), List.Pairwise.nil⟩, fun k => k < w.heap.size, ⟨F, fun k => k < w.heap.size ∧ ¬ F k, h, ⟨fun k => Iff.rfl, Nat.le_refl _, fun _ _ _ => rfl⟩, fun k h1 h2 => h2.2 h1, fun k => ⟨fun hk => by
    by_cases q : F k
    · exact .inl q
    · exact .inr ⟨hk, q⟩, fun hk => hk.elim (hA.lt h k) And.left⟩⟩, fun k _ => Nat.zero_le _, fun b hb => (by cases hb)⟩
  refine (hc _ _ (RestF.foot w F) H).mono ?_
  rintro e w' ⟨hr, hh⟩
  obtain ⟨FF, ⟨F1, F2, h1, ⟨h2, h3, h4⟩, ap, e2⟩, _⟩ := hh.st
  have hb := hh.mem.below
  refine ⟨hr, F1, h1, ⟨hb.os, hb.tape, hb.output, h3, fun k hk hf => h4 k hk hf⟩, fun k hk => ?_⟩
  by_cases q : F k
  · exact .inl q
  · rcases Nat.lt_or_ge k w.heap.size with h5 | h5
    · exact absurd ((h2 k).2 ⟨h5, q⟩) (ap k hk)
    · exact .inr h5
theorem Hold.setRow {P : Program} {w0 w : World} {L : List MBox} {A : Hp} {ops : Array Oper} {rest : List Oper} {o : Oper} {a : Act} {Q : Exit → Act → World → Prop} {t : TypeId} {p xo : Operand} (hA : Foot A) (ho : o.op = .store t p xo) (hgd : o.guard = none)
    {g q c n base : Nat} {e : TypeId} {xs : List Value} (hp : a.eval p = .pointer (some ⟨g, q, none⟩)) {v : Value} (hx : a.eval xo = v) (hv : v.cells = #[v]) (h1 : v.oneCell' = true) (hs : (P.info? t).map (·.size) = some 1)
    (hm : Hold w0 w L (Sep (RowF base e 1 (.slice (some ⟨g, 0, none⟩) n c) n xs) A)) (hq : q < xs.length)
    (h : ∀ w', Hold w0 w' L (Sep (RowF base e 1 (.slice (some ⟨g, 0, none⟩) n c) n (xs.set q v)) A) → Stay (wpList P ops Q rest (a.put o.dst undef) w')) : wpList P ops Q (o :: rest) a w := by
  have hc : P.cellsOf t = 1 := by
    unfold Program.cellsOf
    cases hi : P.info? t with
    | none => rw [hi] at hs; cases hs
    | some i => rw [hi] at hs; simpa using hs
  obtain ⟨F, ⟨F1, F2, ⟨⟨hlen, hr⟩, e1⟩, ha, ap, e⟩, h2, h3⟩ := hm.st
  rcases hr with ⟨hv, _⟩ | ⟨g', cap, cur, hvv, hba, hb, hnc, hcm, hfit, htk⟩
  · cases hv
  · cases hvv
    have hxl : xs.length ≤ cur.size := by rw [← htk, List.length_take, Array.length_toList]; omega
    refine Box.store ho hgd hp hx hb ⟨by cases hi : P.info? t with
      | none => rw [hi] at hs; cases hs
      | some i => rfl, by rw [hc, hv]; rfl⟩ (by rw [hv]; show q + 1 ≤ cur.size; omega) (fun u hu => by rw [hv] at hu; simp at hu; subst hu; exact h1) fun w' hb' hch => h w' ?_
    have hg : F1 g := (e1 g).2 rfl
    have hFg : F g := (e g).2 (.inl hg)
    have hset : cur.toList.take q ++ [v] ++ cur.toList.drop (q + 1) = cur.toList.set q v := by
      rw [List.set_eq_take_append_cons_drop, if_pos (by rw [Array.length_toList]; omega)]
      simp
    have hv1 : v.cells.toList = [v] := by rw [hv]
    rw [hv1] at hb'
    simp only [List.length_singleton] at hb'
    rw [hset] at hb'
    refine ⟨hm.mem.chg hch (fun k hk q => by have q : k = g := q; subst q; have := h2 _ hFg; omega) (fun b hb q => by have q : b.1 = g := q; rw [← q] at hFg; exact h3 b hb hFg), F, ⟨F1, F2, ⟨⟨by rw [List.length_set]; exact hlen, .inr ⟨g, c, _, rfl, hba, hb', hnc, hcm, by simpa using hfit, ?_⟩⟩, e1⟩, hA.frame ha hch (fun k hk q => by have q : k = g := q; subst q; exact ap _ hg hk), ap, e⟩, h2, h3⟩
    show List.take _ (cur.toList.set q v) = _
    rw [List.take_set, htk]
/-- A row that has become longer. -/
theorem Hold.rowFr {w0 w w' : World} {L : List MBox} {A B : Hp} {e sz : Nat} {v v' : Value} {n n' : Nat} {xs xs' : List Value} (h : Hold w0 w L (Sep A (Sep (RowF 0 e sz v n xs) B))) (hA : Foot A) (hB : Foot B) (ho : w'.ownsRow 0 e sz v' n' xs') (f : Fr.Fr w w' v v') : Hold w0 w' L (Sep A (Sep (RowF 0 e sz v' n' xs') B)) := by
  refine (h.rot.step (Sep.stepL (hA.sep hB) fun F ⟨hv, eF⟩ => ?_)).rot
  refine ⟨fun k => v'.ownBlock = some k, ⟨ho, fun k => Iff.rfl⟩, (Chg.ofFr f).sub (fun k hk => (eF k).2 hk), fun k hk => ?_⟩
  rcases f.o with q | ⟨g, q, hg⟩
  · exact .inl ((eF k).2 (q ▸ hk))
  · have e2 : g = k := Option.some.inj (q.symm.trans hk)
    exact .inr (by omega)
/-- One element more, from a block known whole. -/
theorem Hold.appRow {P : Program} {w0 w : World} {L : List MBox} {A B : Hp} {v : Value} {n : Nat} {xs : List Value} {x : Value} {ops : Array Oper} {rest : List Oper} {o : Oper} {a : Act} {Q : Exit → Act → World → Prop} (hgd : o.guard = none) (s y : Operand) (t : TypeId)
    (ho : o.op = .call { callee := .builtin .append, args := #[s, y], argTypes := #[t, t] }) (e : TypeId) (i : TypeInfo) (z : Value) (bytes : Nat) (ht : P.underlying t = some (.slice e)) (hi : P.info? e = some i) (hz : i.zero = some z) (hsize : i.size = 1) (hby : i.bytes = bytes) (hzs : z.cells.size = 1)
    (h : Hold w0 w L (Sep A (Sep (RowF 0 e 1 v n xs) B))) (hA : Foot A) (hB : Foot B) (hs : a.eval s = v) {ad : Option Addr} {c : Nat} (hx : a.eval y = .slice ad 1 c) (hsrc : Fr.Src w ad [x]) (h1 : x.oneCell' = true) (hl : n ≤ 100000) (hb : bytes ≤ 1000)
    (k : ∀ a' c' w', Hold w0 w' L (Sep A (Sep (RowF 0 e 1 (.slice a' (n + 1) c') (n + 1) (xs ++ [x])) B)) → Stay (wpList P ops Q rest (a.put o.dst (.slice a' (n + 1) c')) w')) : wpList P ops Q (o :: rest) a w := by
  have hr : w.ownsRow 0 e 1 v n xs := by
    obtain ⟨F, ⟨F1, F2, _, ⟨F3, F4, ho, _⟩, _⟩, _⟩ := h.st
    exact ho.1
  refine Fr.wpList_append_src w hgd s y t ho 0 e i z 1 bytes ht hi hz hsize hby hzs (by decide) v _ _ hs hr ad 1 c [x] hx rfl hsrc (fun u hu => by simp at hu; subst hu; exact h1) ?_ ?_ (Nat.zero_le _) ?_
  · unfold maxLen; omega
  · have := Nat.mul_le_mul (show n + 1 ≤ 100001 by omega) hb
    omega
  · intro v' w' hown hfr
    have H := h.rowFr hA hB hown hfr
    obtain ⟨a', c', rfl⟩ : ∃ a' c', v' = .slice a' (n + 1) c' := by
      rcases hown.2 with ⟨_, h2⟩ | ⟨g, cap, cur, hv, _⟩
      · omega
      · exact ⟨_, _, hv⟩
    exact k a' c' w' H
theorem blk_src1 {w : World} {g : Nat} {x : Value} {T : TypeId} (h : Blk w g #[x] T) : Fr.Src w (some ⟨g, 0, none⟩) [x] :=
  .inr ⟨_, rfl, fun j u hj => by
    have e : (⟨g, 0, none⟩ : Addr).add j = ⟨g, 0 + j, none⟩ := by unfold Addr.add; split <;> simp_all
    rw [e, Nat.zero_add, h.cell j]
    simpa using hj⟩
/-- A block and the row that it names, both changed. -/
theorem Hold.blkRow {w0 w w' : World} {L : List MBox} {B : Hp} {g : Nat} {cs cs' : List Value} {T e : TypeId} {sz n n' : Nat} {v v' : Value} {xs xs' : List Value} (h : Hold w0 w L (Sep (BlkF g cs T) (Sep (RowF 0 e sz v n xs) B))) (hB : Foot B)
    (hb : Blk w' g cs'.toArray T) (ho : w'.ownsRow 0 e sz v' n' xs') (hc : Chg (fun k => k = g ∨ v.ownBlock = some k) w w') (hf : ∀ b, v'.ownBlock = some b → v.ownBlock = some b ∨ w.heap.size ≤ b) (hne : v'.ownBlock ≠ some g) : Hold w0 w' L (Sep (BlkF g cs' T) (Sep (RowF 0 e sz v' n' xs') B)) := by
  have h1 : Hold w0 w L (Sep (Sep (BlkF g cs T) (RowF 0 e sz v n xs)) B) := h.map fun F h => Sep.assoc' h
  have h2 : Hold w0 w' L (Sep (Sep (BlkF g cs' T) (RowF 0 e sz v' n' xs')) B) := h1.step (Sep.stepL hB fun F ⟨F1, F2, ⟨_, e1⟩, ⟨_, e2⟩, ap, eF⟩ => by
    refine ⟨fun k => k = g ∨ v'.ownBlock = some k, ⟨fun k => k = g, fun k => v'.ownBlock = some k, ⟨hb, fun k => Iff.rfl⟩, ⟨ho, fun k => Iff.rfl⟩, fun k q1 q2 => hne (by rw [q2, show k = g from q1]), fun k => Iff.rfl⟩, hc.sub fun k hk => (eF k).2 (hk.imp (e1 k).2 (e2 k).2), fun k hk => ?_⟩
    rcases hk with hk | hk
    · exact .inl ((eF k).2 (.inl ((e1 k).2 hk)))
    · rcases hf k hk with q | q
      · exact .inl ((eF k).2 (.inr ((e2 k).2 q)))
      · exact .inr q)
  exact h2.map fun F h => Sep.assoc h
end Go

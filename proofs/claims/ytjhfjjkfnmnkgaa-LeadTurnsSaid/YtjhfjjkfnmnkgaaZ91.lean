/- My own texts RowSet, HoldG, laid in one file. -/
import Derived.Test.YtjhfjjkfnmnkgaaZ29
import Derived.Test.YtjhfjjkfnmnkgaaZ83
import Derived.Test.YtjhfjjkfnmnkgaaZ2

/- One element of a row of a call's own written, in a Hold. No program is named here. -/
namespace Go
set_option linter.unusedVariables false
open Go.RowKit
theorem Hold.setRow {P : Program} {w0 w : World} {L : List MBox} {A : Hp} {ops : Array Oper} {rest : List Oper} {o : Oper} {a : Act} {Q : Exit → Act → World → Prop} {t : TypeId} {p xo : Operand} (hA : Foot A) (ho : o.op = .store t p xo) (hgd : o.guard = none)
    {g q c n base : Nat} {e : TypeId} {xs : List Value} (hp : a.eval p = .pointer (some ⟨g, q, none⟩)) {v : Value} (hx : a.eval xo = v) (hv : v.cells = #[v]) (h1 : v.oneCell' = true) (hs : (P.info? t).map (·.size) = some 1)
    (hm : Hold w0 w L (Sep (RowF base e 1 (.slice (some ⟨g, 0, none⟩) n c) n xs) A)) (hq : q < xs.length)
    (h : ∀ w', Hold w0 w' L (Sep (RowF base e 1 (.slice (some ⟨g, 0, none⟩) n c) n (xs.set q v)) A) → Stay (wpList P ops Q rest (a.put o.dst undef) w')) : wpList P ops Q (o :: rest) a w := by
  have hc : P.cellsOf t = 1 := by
    unfold Program.cellsOf
    cases hi : P.info? t with
    | none => rw [hi] at hs; cases hs
    | some i => rw [hi] at hs; simpa using hs
  obtain ⟨F, ⟨F1, F2, ⟨⟨hlen, hr⟩, e1⟩, ha, ap, e⟩, h2, h3⟩ := hm.st
  rcases hr with ⟨hv, _⟩ | ⟨g', cap, cur, hvv, hba, hb, hnc, hcm, hfit, htk⟩
  · cases hv
  · cases hvv
    have hxl : xs.length ≤ cur.size := by rw [← htk, List.length_take, Array.length_toList]; omega
    refine Box.store ho hgd hp hx hb ⟨by cases hi : P.info? t with
      | none => rw [hi] at hs; cases hs
      | some i => rfl, by rw [hc, hv]; rfl⟩ (by rw [hv]; show q + 1 ≤ cur.size; omega) (fun u hu => by rw [hv] at hu; simp at hu; subst hu; exact h1) fun w' hb' hch => h w' ?_
    have hg : F1 g := (e1 g).2 rfl
    have hFg : F g := (e g).2 (.inl hg)
    have hset : cur.toList.take q ++ [v] ++ cur.toList.drop (q + 1) = cur.toList.set q v := by
      rw [List.set_eq_take_append_cons_drop, if_pos (by rw [Array.length_toList]; omega)]
      simp
    have hv1 : v.cells.toList = [v] := by rw [hv]
    rw [hv1] at hb'
    simp only [List.length_singleton] at hb'
    rw [hset] at hb'
    refine ⟨hm.mem.chg hch (fun k hk q => by have q : k = g := q; subst q; have := h2 _ hFg; omega) (fun b hb q => by have q : b.1 = g := q; rw [← q] at hFg; exact h3 b hb hFg), F, ⟨F1, F2, ⟨⟨by rw [List.length_set]; exact hlen, .inr ⟨g, c, _, rfl, hba, hb', hnc, hcm, by simpa using hfit, ?_⟩⟩, e1⟩, hA.frame ha hch (fun k hk q => by have q : k = g := q; subst q; exact ap _ hg hk), ap, e⟩, h2, h3⟩
    show List.take _ (cur.toList.set q v) = _
    rw [List.take_set, htk]

/-- All that lies apart from F, as it was. -/
def RestF (w : World) (F : Nat → Prop) : Hp := fun w' G => (∀ k, G k ↔ k < w.heap.size ∧ ¬ F k) ∧ w.heap.size ≤ w'.heap.size ∧ ∀ k, k < w.heap.size → ¬ F k → w'.heap[k]? = w.heap[k]?
theorem RestF.foot (w : World) (F : Nat → Prop) : Foot (RestF w F) where
  lt := fun ⟨h1, h2, _⟩ k hk => Nat.lt_of_lt_of_le ((h1 k).1 hk).1 h2
  frame := fun ⟨h1, h2, h3⟩ c hs => ⟨h1, Nat.le_trans h2 c.size, fun k hk hf => (c.block k (Nat.lt_of_lt_of_le hk h2) (hs k ((h1 k).2 ⟨hk, hf⟩))).trans (h3 k hk hf)⟩
end Go

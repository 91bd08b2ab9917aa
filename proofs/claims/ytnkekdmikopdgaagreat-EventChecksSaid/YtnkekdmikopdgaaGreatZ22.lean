/- My own texts ChecksD, laid in one file. -/
import Derived.Test.YtnkekdmikopdgaaGreatZ18
import Derived.Test.YtnkekdmikopdgaaGreatZ17
import Derived.Test.YtnkekdmikopdgaaGreatZ8
import Derived.Test.YtnkekdmikopdgaaGreatZ4
import Derived.Test.YtnkekdmikopdgaaGreatZ15
import Derived.Test.YtnkekdmikopdgaaGreatZ5
import Derived.Test.YtnkekdmikopdgaaGreatZ11
/- What EventChecks leans on: bounds, rows of targets copied. -/
namespace Go.Proofs.YtnkekdmikopdgaaGreat
set_option maxRecDepth 100000
set_option linter.unusedVariables false
set_option linter.unusedSimpArgs false
set_option linter.unnecessarySimpa false
open Go.RowKit

theorem rr_bd {e : EvD} (h : e.chk = 0) : 0 ≤ e.rr ∧ e.rr ≤ 255 := by
  obtain ⟨h1, h2, hk, hkept, h3⟩ := chk_ok h
  by_cases e2 : e.k = 2
  · rw [if_neg (by omega), if_pos e2] at h3
    have := h3.2.2.2.1
    unfold n1 at this
    omega
  · have q := congrArg EvD.rr hkept
    have : e.kept.rr = 0 := by
      unfold EvD.kept
      repeat' split
      all_goals first | rfl | (exfalso; omega)
    omega
theorem co_bd {e : EvD} (h : e.chk = 0) : 0 ≤ e.c.co ∧ e.c.co ≤ 255 := by
  obtain ⟨h1, h2, hk, hkept, h3⟩ := chk_ok h
  by_cases e1 : e.k = 1
  · rw [if_pos e1] at h3
    have := h3.2.2.2.1
    unfold n1 at this
    omega
  · have q := congrArg (fun x => x.c.co) hkept
    have : e.kept.c.co = 0 := by
      unfold EvD.kept
      repeat' split
      all_goals first | rfl | (exfalso; omega)
    have q : e.c.co = e.kept.c.co := q
    omega
theorem few3_bd {w : World} {e : EvD} {a : Option Addr} {c : Nat} (h : EvIn w e a c) (hf : few3B e = true) : EvBd w e a := by
  unfold few3B at hf
  simp only [Bool.and_eq_true, decide_eq_true_eq] at hf
  obtain ⟨⟨⟨f1, f2⟩, f3⟩, ⟨f4, f5⟩, f6⟩ := hf
  exact ⟨by omega, by omega, by omega, by omega, by omega, by omega, h.hr.ht, h.hr.hk⟩
theorem ev_ok {e : EvD} (h : e.chk = 0) : ∀ i, i < e.ts.length → (e.ts.getD i tg0).ok := fun i hi => by
  obtain ⟨h1, h2, h3, h4, h5, h6⟩ := ev_small h
  have := h6 (e.ts.getD i tg0) (by simp [List.getD, hi])
  unfold tgtOk at this
  exact ⟨by omega, by omega, by unfold wf64; omega⟩
theorem ev_bd_ts {e : EvD} (h : e.chk = 0) {ts2 : List Tgt} {a : Option Addr} {w : World} (ht : TgtSl w a ts2) (hl : ts2.length ≤ 1000) (hk : ∀ i, i < ts2.length → (ts2.getD i tg0).ok) : EvBd w { e with ts := ts2 } a := by
  obtain ⟨h1, h2, h3, h4, h5, h6⟩ := ev_small h
  refine ⟨?_, ?_, ?_, ?_, ?_, hl, ht, hk⟩
  · show e.nm.size ≤ _; omega
  · show e.tg.size ≤ _; omega
  · show e.c.nm.size ≤ _; omega
  · show e.rn.size ≤ _; omega
  · show e.rc.size ≤ _; omega
theorem src_tgts {w : World} {a : Option Addr} {ts : List Tgt} (h : TgtSl w a ts) : Fr.Src w a (flatT ts) := by
  rcases h with rfl | ⟨b, off, rfl, hc⟩
  · cases a with
    | none => exact .inl ⟨rfl, rfl⟩
    | some ad => exact .inr ⟨ad, rfl, fun j u hj => by cases hj⟩
  · refine .inr ⟨_, rfl, fun j u hj => ?_⟩
    have hj2 : j < ts.length * 3 := by
      have := (List.getElem?_eq_some_iff.1 hj).1
      rwa [flatT_len] at this
    have e : (⟨b, off, none⟩ : Addr).add j = ⟨b, off + j, none⟩ := by unfold Addr.add; split <;> simp_all
    rw [e]
    have hi : j / 3 < ts.length := by omega
    obtain ⟨f0, f1, f2⟩ := flatT_at ts (j / 3) hi
    have hcell := hc (j / 3) hi
    have h3 : j % 3 = 0 ∨ j % 3 = 1 ∨ j % 3 = 2 := by omega
    rcases h3 with h3 | h3 | h3
    · have q : j = j / 3 * 3 := by omega
      rw [q] at hj ⊢
      rw [f0] at hj
      cases hj
      exact hcell.c0
    · have q : j = j / 3 * 3 + 1 := by omega
      rw [q] at hj ⊢
      rw [f1] at hj
      cases hj
      exact hcell.c1
    · have q : j = j / 3 * 3 + 1 + 1 := by omega
      rw [q] at hj ⊢
      rw [f2] at hj
      cases hj
      exact hcell.c2
theorem flat_one {ts : List Tgt} : ∀ u ∈ flatT ts, u.oneCell' = true := flatT_one ts
/-- Targets copied by an append onto nothing. -/
theorem wpList_copyt {ops : Array Oper} {rest : List Oper} {o : Oper} {a : Act} {Q : Exit → Act → World → Prop} {W : World} (hgd : o.guard = none) (s x : Operand)
    (ho : o.op = .call { callee := .builtin .append, args := #[s, x], argTypes := #[24, 24] })
    {g0 : Nat} (hs : a.eval s = .slice (some ⟨g0, 0, none⟩) 0 0) (hg0 : g0 = W.heap.size) {ad : Option Addr} {m c : Nat} (ts : List Tgt) (hx : a.eval x = .slice ad m c) (hm : ts.length = m) (hsrc : TgtSl W ad ts) (hl : ts.length ≤ 1000)
    (h : ∀ sa c' w', OwnTs w' W.heap.size (.slice sa ts.length c') ts → Grow.G W w' → wpList Tryz.prog ops Q rest (a.put o.dst (.slice sa ts.length c')) w') : wpList Tryz.prog ops Q (o :: rest) a (W.alloc (.cells #[] 39)) := by
  subst hg0
  obtain ⟨i0, hi, hz0, hz1, hz2⟩ := info_parts infoT
  refine Fr.wpList_append_src _ hgd s x 24 ho W.heap.size 39 i0 (.agg #[.string ⟨#[]⟩, .string ⟨#[]⟩, .int .i64 0]) 3 40 Tryz.underlying24 hi hz0 hz1 hz2 rfl (by decide) _ 0 [] hs (own_empty W _ _) ad m c (flatT ts) hx (by rw [flatT_len, hm]) ((src_tgts hsrc).grow (Grow.G.alloc (Grow.G.refl _) _)) flat_one ?_ ?_ (by simp) ?_
  · unfold maxLen; omega
  · omega
  · intro v' w' hown hfr
    rw [List.nil_append, Nat.zero_add, ← hm] at hown
    obtain ⟨sa, c', rfl⟩ := own_shape hown
    exact h sa c' w' hown (own_grow (Grow.G.alloc (Grow.G.refl _) _) (own_empty W 39 3) (Nat.le_refl _) hfr.g)
/-- One more target behind a row of the call's own. -/
theorem wpList_moret {ops : Array Oper} {rest : List Oper} {o : Oper} {a : Act} {Q : Exit → Act → World → Prop} {W w : World} (hgd : o.guard = none) (s x : Operand)
    (ho : o.op = .call { callee := .builtin .append, args := #[s, x], argTypes := #[24, 24] })
    {ts : List Tgt} {sa : Option Addr} {n c : Nat} (hs : a.eval s = .slice sa n c) {b c2 : Nat} (t : Tgt) (hx : a.eval x = .slice (some ⟨b, 0, none⟩) 1 c2) (hb : Blk w b #[.string t.rv, .string t.tg, .int .i64 t.pc] 39)
    {base : Nat} (hown : OwnTs w base (.slice sa n c) ts) (hn : ts.length = n) (hg : Grow.G W w) (hb0 : W.heap.size ≤ base) (hb1 : base ≤ w.heap.size) (hl : ts.length ≤ 1000)
    (h : ∀ sa' c' w', OwnTs w' base (.slice sa' (n + 1) c') (ts ++ [t]) → Grow.G W w' → wpList Tryz.prog ops Q rest (a.put o.dst (.slice sa' (n + 1) c')) w') : wpList Tryz.prog ops Q (o :: rest) a w := by
  obtain ⟨i0, hi, hz0, hz1, hz2⟩ := info_parts infoT
  subst hn
  refine Fr.wpList_append_src _ hgd s x 24 ho base 39 i0 (.agg #[.string ⟨#[]⟩, .string ⟨#[]⟩, .int .i64 0]) 3 40 Tryz.underlying24 hi hz0 hz1 hz2 rfl (by decide) _ _ _ hs hown _ 1 c2 [.string t.rv, .string t.tg, .int .i64 t.pc] hx rfl (.inr ⟨_, rfl, news_blk hb⟩) (by intro u hu; simp at hu; rcases hu with rfl | rfl | rfl <;> rfl) ?_ ?_ hb1 ?_
  · unfold maxLen; omega
  · omega
  · intro v' w' hown' hfr
    obtain ⟨sa', c', rfl⟩ := own_shape hown'
    refine h sa' c' w' ?_ (own_grow hg hown hb0 hfr.g)
    unfold OwnTs
    rw [flatT_snoc, List.length_append]
    exact hown'
end Go.Proofs.YtnkekdmikopdgaaGreat

/- My own texts CopyB, TgtO, laid in one file. -/
import Derived.Test.YtlnffdkaleapbaaGreatZ2
import Derived.Test.YtlnffdkaleapbaaGreatZ8
import Derived.Test.YtlnffdkaleapbaaGreatZ4

/- Bytes copied by an append onto nothing; what is read of a row of bytes of the call's own. -/
namespace Go.Proofs.YtlnffdkaleapbaaGreat
set_option maxRecDepth 100000
set_option linter.unusedVariables false
set_option linter.unusedSimpArgs false
set_option linter.unnecessarySimpa false
open Go.RowKit


theorem src_tgts {w : World} {a : Option Addr} {ts : List Tgt} (h : TgtSl w a ts) : Fr.Src w a (flatT ts) := by
  rcases h with rfl | ⟨b, off, rfl, hc⟩
  · cases a with
    | none => exact .inl ⟨rfl, rfl⟩
    | some ad => exact .inr ⟨ad, rfl, fun j u hj => by cases hj⟩
  · refine .inr ⟨_, rfl, fun j u hj => ?_⟩
    have hj2 : j < ts.length * 3 := by
      have := (List.getElem?_eq_some_iff.1 hj).1
      rwa [flatT_len] at this
    have e : (⟨b, off, none⟩ : Addr).add j = ⟨b, off + j, none⟩ := by unfold Addr.add; split <;> simp_all
    rw [e]
    have hi : j / 3 < ts.length := by omega
    obtain ⟨f0, f1, f2⟩ := flatT_at ts (j / 3) hi
    have hcell := hc (j / 3) hi
    have h3 : j % 3 = 0 ∨ j % 3 = 1 ∨ j % 3 = 2 := by omega
    rcases h3 with h3 | h3 | h3
    · have q : j = j / 3 * 3 := by omega
      rw [q] at hj ⊢
      rw [f0] at hj
      cases hj
      exact hcell.c0
    · have q : j = j / 3 * 3 + 1 := by omega
      rw [q] at hj ⊢
      rw [f1] at hj
      cases hj
      exact hcell.c1
    · have q : j = j / 3 * 3 + 1 + 1 := by omega
      rw [q] at hj ⊢
      rw [f2] at hj
      cases hj
      exact hcell.c2
theorem flat_one {ts : List Tgt} : ∀ u ∈ flatT ts, u.oneCell' = true := flatT_one ts
/-- Targets copied by an append onto nothing. -/
theorem wpList_copyt {ops : Array Oper} {rest : List Oper} {o : Oper} {a : Act} {Q : Exit → Act → World → Prop} {W : World} (hgd : o.guard = none) (s x : Operand)
    (ho : o.op = .call { callee := .builtin .append, args := #[s, x], argTypes := #[43, 43] })
    {g0 : Nat} (hs : a.eval s = .slice (some ⟨g0, 0, none⟩) 0 0) (hg0 : g0 = W.heap.size) {ad : Option Addr} {m c : Nat} (ts : List Tgt) (hx : a.eval x = .slice ad m c) (hm : ts.length = m) (hsrc : TgtSl W ad ts) (hl : ts.length ≤ 1000)
    (h : ∀ sa c' w', OwnTs w' W.heap.size (.slice sa ts.length c') ts → Grow.G W w' → wpList Tryz.prog ops Q rest (a.put o.dst (.slice sa ts.length c')) w') : wpList Tryz.prog ops Q (o :: rest) a (W.alloc (.cells #[] 84)) := by
  subst hg0
  obtain ⟨i0, hi, hz0, hz1, hz2⟩ := info_parts infoT
  refine Fr.wpList_append_src _ hgd s x 43 ho W.heap.size 84 i0 (.agg #[.string ⟨#[]⟩, .string ⟨#[]⟩, .int .i64 0]) 3 40 Tryz.underlying43 hi hz0 hz1 hz2 rfl (by decide) _ 0 [] hs (own_empty W _ _) ad m c (flatT ts) hx (by rw [flatT_len, hm]) ((src_tgts hsrc).grow (Grow.G.alloc (Grow.G.refl _) _)) flat_one ?_ ?_ (by simp) ?_
  · unfold maxLen; omega
  · omega
  · intro v' w' hown hfr
    rw [List.nil_append, Nat.zero_add, ← hm] at hown
    obtain ⟨sa, c', rfl⟩ := own_shape hown
    exact h sa c' w' hown (own_grow (Grow.G.alloc (Grow.G.refl _) _) (own_empty W 84 3) (Nat.le_refl _) hfr.g)
end Go.Proofs.YtlnffdkaleapbaaGreat

/- My own texts CopyB, Past, laid in one file. -/
import Derived.Test.YtnkekdmikopdgaaGreatZ2
import Derived.Test.YtnkekdmikopdgaaGreatZ8
import Derived.Test.YtnkekdmikopdgaaGreatZ4

/- Bytes copied by an append onto nothing; what is read of a row of bytes of the call's own. -/
namespace Go.Proofs.YtnkekdmikopdgaaGreat
set_option maxRecDepth 100000
set_option linter.unusedVariables false
set_option linter.unusedSimpArgs false
set_option linter.unnecessarySimpa false
open Go.RowKit

theorem own_bysl {w : World} {base n c : Nat} {a : Option Addr} {z : List Int} (h : OwnB w base (.slice a n c) z) : n = z.length ∧ ∃ sb, BySl w sb a c z := by
  rcases h.2 with ⟨h0, h1⟩ | ⟨g, cap, cur, hv, hb, hg, hn, rest⟩
  · cases h0
    have : z = [] := List.eq_nil_of_length_eq_zero h1
    subst this
    exact ⟨rfl, 0, .inl ⟨rfl, rfl, rfl⟩⟩
  · injection hv with e1 e2 e3
    subst e1 e2 e3
    refine ⟨rfl, g, .inr ⟨0, rfl, hn, fun i hi => ?_⟩⟩
    have := h.cells (g := g) rfl i (.int .u8 (z.getD i 0)) (by simp [List.getD, hi])
    have e2 : (⟨g, 0, none⟩ : Addr).add i = ⟨g, 0 + i, none⟩ := by rw [Nat.zero_add]; unfold Addr.add; split <;> simp_all
    rwa [e2] at this
/-- As Parse, Cut want it. -/
theorem own_sb {w : World} {base n c : Nat} {a : Option Addr} {z : List Int} (h : OwnB w base (.slice a n c) z) (hw : 0 < w.heap.size) : n = z.length ∧ ∃ sb, sb < w.heap.size ∧ BySl w sb a c z ∧ (z = [] ∨ ∃ off, a = some ⟨sb, off, none⟩ ∧ z.length ≤ c ∧ sb < w.heap.size ∧ ∀ i, i < z.length → w.cell? ⟨sb, off + i, none⟩ = some (.int .u8 (z.getD i 0))) := by
  obtain ⟨h1, sb, h2⟩ := own_bysl h
  refine ⟨h1, ?_⟩
  rcases h2 with ⟨e1, e2, e3⟩ | ⟨off, e1, e2, e3⟩
  · exact ⟨0, hw, .inl ⟨e1, e2, e3⟩, .inl e2⟩
  · by_cases hz : z = []
    · subst hz
      subst e1
      rcases h.2 with ⟨h0, _⟩ | ⟨g, cap, cur, hv, hb, hg, hn, rest⟩
      · cases h0
      · injection hv with q1 q2 q3
        injection q1 with q1
        injection q1 with q1
        subst q1
        exact ⟨sb, Chg.lt_of hg, .inr ⟨off, rfl, e2, e3⟩, .inl rfl⟩
    · have hl : 0 < z.length := List.length_pos_iff.2 hz
      have hlt : sb < w.heap.size := by
        have := e3 0 hl
        rcases Nat.lt_or_ge sb w.heap.size with h' | h'
        · exact h'
        · simp [World.cell?, Array.getElem?_eq_none h'] at this
      exact ⟨sb, hlt, .inr ⟨off, e1, e2, e3⟩, .inr ⟨off, e1, e2, hlt, e3⟩⟩
theorem own_pz {w : World} {base n c : Nat} {a : Option Addr} {z : List Int} (h : OwnB w base (.slice a n c) z) : ∃ sb, (z = [] ∨ ∃ off, a = some ⟨sb, off, none⟩ ∧ z.length ≤ c ∧ sb < w.heap.size ∧ ∀ i, i < z.length → w.cell? ⟨sb, off + i, none⟩ = some (.int .u8 (z.getD i 0))) := by
  rcases Nat.eq_zero_or_pos w.heap.size with h0 | h0
  · rcases h.2 with ⟨h1, h2⟩ | ⟨g, cap, cur, hv, hb, hg, hn, rest⟩
    · exact ⟨0, .inl (List.eq_nil_of_length_eq_zero h2)⟩
    · have := Chg.lt_of hg; omega
  · obtain ⟨_, sb, _, _, h3⟩ := own_sb h h0
    exact ⟨sb, h3⟩
theorem bts_one {z : List Int} : ∀ u ∈ z.map (Value.int .u8), u.oneCell' = true := by
  intro u hu
  obtain ⟨x, _, rfl⟩ := List.mem_map.1 hu
  rfl
theorem wpList_copyb {ops : Array Oper} {rest : List Oper} {o : Oper} {a : Act} {Q : Exit → Act → World → Prop} {W : World} (hgd : o.guard = none) (s x : Operand)
    (ho : o.op = .call { callee := .builtin .append, args := #[s, x], argTypes := #[41, 41] })
    {g0 : Nat} (hs : a.eval s = .slice (some ⟨g0, 0, none⟩) 0 0) (hg0 : g0 = W.heap.size) {ad : Option Addr} {m c : Nat} (zs : List Int) (hx : a.eval x = .slice ad m c) (hm : zs.length = m) (hsrc : Fr.Src W ad (zs.map (Value.int .u8))) (hl : zs.length ≤ 140737488351232)
    (h : ∀ sa c' w', OwnB w' W.heap.size (.slice sa zs.length c') zs → Grow.G W w' → wpList Tryz.prog ops Q rest (a.put o.dst (.slice sa zs.length c')) w') : wpList Tryz.prog ops Q (o :: rest) a (W.alloc (.cells #[] 5)) := by
  subst hg0
  obtain ⟨i0, hi, hz0, hz1, hz2⟩ := info_parts infoB
  refine Fr.wpList_append_src _ hgd s x 41 ho W.heap.size 5 i0 (.int .u8 0) 1 1 Tryz.underlying41 hi hz0 hz1 hz2 rfl (by decide) _ 0 [] hs (own_empty W _ _) ad m c (zs.map (Value.int .u8)) hx (by simp [hm]) (hsrc.grow (Grow.G.alloc (Grow.G.refl _) _)) bts_one ?_ ?_ (by simp) ?_
  · unfold maxLen; omega
  · omega
  · intro v' w' hown hfr
    rw [List.nil_append, Nat.zero_add, ← hm] at hown
    obtain ⟨sa, c', rfl⟩ := own_shape hown
    exact h sa c' w' hown (own_grow (Grow.G.alloc (Grow.G.refl _) _) (own_empty W 5 1) (Nat.le_refl _) hfr.g)

theorem cv_own {w : World} {base n c : Nat} {a : Option Addr} {z : List Int} (h : OwnB w base (.slice a n c) z) : (convert 41 9 (.slice a n c)).run Tryz.prog w = .ok (.string (strOfNums z)) w := by
  obtain ⟨h1, sb, h2⟩ := own_bysl h
  subst h1
  exact cv_bytes h2
theorem chg_none {w w' : World} (h : Chg (fun _ => False) w w') : Grow.G w w' := h.toGrow (fun _ _ => id)
end Go.Proofs.YtnkekdmikopdgaaGreat

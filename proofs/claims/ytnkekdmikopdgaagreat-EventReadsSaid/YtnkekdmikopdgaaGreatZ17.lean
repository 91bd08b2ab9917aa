/- My own texts CopyB, Past, EvBd, laid in one file. -/
import Derived.Test.YtnkekdmikopdgaaGreatZ2
import Derived.Test.YtnkekdmikopdgaaGreatZ8
import Derived.Test.YtnkekdmikopdgaaGreatZ4
import Derived.Test.YtnkekdmikopdgaaGreatZ10

/- Bytes copied by an append onto nothing; what is read of a row of bytes of the call's own. -/
namespace Go.Proofs.YtnkekdmikopdgaaGreat
set_option maxRecDepth 100000
set_option linter.unusedVariables false
set_option linter.unusedSimpArgs false
set_option linter.unnecessarySimpa false
open Go.RowKit

theorem bytes_len {e : EvD} (h : e.chk = 0) : 1 ≤ e.bytes.length ∧ e.bytes.length ≤ 100000 := by
 obtain ⟨h1, h2, hk, hkept, h3⟩ := chk_ok h
 have hts := chk_len h
 refine ⟨by unfold EvD.bytes oneB; simp, ?_⟩
 unfold EvD.bytes bodyB
 rw [List.length_append]
 have ho : ∀ x, (oneB x).length = 1 := fun x => rfl
 have hf : ∀ x, (fourB x).length = 4 := fun x => rfl
 have ht : ∀ x : ByteArray, (txtB x).length = 1 + x.size := fun x => by unfold txtB oneB; simp [numsOf_len]; omega
 rw [ho]
 by_cases e1 : e.k = 1
 ·
  simp only [e1, if_true, List.length_append, ho, hf, ht] at h3 ⊢
  omega
 by_cases e2 : e.k = 2
 ·
  have hb := tgtsB_len e.ts (by rw [if_neg e1, if_pos e2] at h3; exact h3.2.2.2.2.2)
  have := hts e2
  rw [if_neg e1, if_pos e2] at h3 ⊢
  simp only [List.length_append, ho, hf, ht]
  have h4 := h3.2.1; have h5 := h3.2.2.1
  omega
 by_cases e3 : e.k = 3
 ·
  rw [if_neg e1, if_neg e2, if_pos e3] at h3 ⊢
  simp only [List.length_append, ho, hf, ht]
  have h4 := h3.2.1
  omega
 by_cases e4 : e.k = 4
 ·
  rw [if_neg e1, if_neg e2, if_neg e3, if_pos e4] at h3 ⊢
  simp only [List.length_append, ho, hf, ht]
  have h4 := h3.2.1; have h5 := h3.2.2.1
  omega
 by_cases e5 : 5 ≤ e.k ∧ e.k ≤ 8
 ·
  rw [if_neg e1, if_neg e2, if_neg e3, if_neg e4, if_pos e5]
  rw [hf]; omega
 by_cases e6 : 10 ≤ e.k ∧ e.k ≤ 13
 ·
  rw [if_neg e1, if_neg e2, if_neg e3, if_neg e4, if_neg e5, if_pos e6] at h3 ⊢
  rw [ht]; omega
 ·
  rw [if_neg e1, if_neg e2, if_neg e3, if_neg e4, if_neg e5, if_neg e6]
  simp
theorem own_bysl {w : World} {base n c : Nat} {a : Option Addr} {z : List Int} (h : OwnB w base (.slice a n c) z) : n = z.length ∧ ∃ sb, BySl w sb a c z := by
 rcases h.2 with ⟨h0, h1⟩ | ⟨g, cap, cur, hv, hb, hg, hn, rest⟩
 ·
  cases h0
  have : z = [] := List.eq_nil_of_length_eq_zero h1
  subst this
  exact ⟨rfl, 0, .inl ⟨rfl, rfl, rfl⟩⟩
 ·
  injection hv with e1 e2 e3
  subst e1 e2 e3
  refine ⟨rfl, g, .inr ⟨0, rfl, hn, fun i hi => ?_⟩⟩
  have := h.cells (g := g) rfl i (.int .u8 (z.getD i 0)) (by simp [List.getD, hi])
  have e2 : (⟨g, 0, none⟩ : Addr).add i = ⟨g, 0 + i, none⟩ := by rw [Nat.zero_add]; unfold Addr.add; split <;> simp_all
  rwa [e2] at this
theorem own_cap {w : World} {base n c : Nat} {a : Option Addr} {z : List Int} (h : OwnB w base (.slice a n c) z) (hz : 1 ≤ z.length) : ∃ b, a = some ⟨b, 0, none⟩ ∧ n = z.length ∧ z.length ≤ c ∧ base ≤ b := by
 rcases h.2 with ⟨h0, h1⟩ | ⟨g, cap, cur, hv, hb, hg, hn, rest⟩
 ·
  omega
 ·
  injection hv with e1 e2 e3
  subst e1 e2 e3
  exact ⟨g, rfl, rfl, hn, hb⟩
/-- As Parse, Cut want it. -/
theorem own_sb {w : World} {base n c : Nat} {a : Option Addr} {z : List Int} (h : OwnB w base (.slice a n c) z) (hw : 0 < w.heap.size) : n = z.length ∧ ∃ sb, sb < w.heap.size ∧ BySl w sb a c z ∧ (z = [] ∨ ∃ off, a = some ⟨sb, off, none⟩ ∧ z.length ≤ c ∧ sb < w.heap.size ∧ ∀ i, i < z.length → w.cell? ⟨sb, off + i, none⟩ = some (.int .u8 (z.getD i 0))) := by
 obtain ⟨h1, sb, h2⟩ := own_bysl h
 refine ⟨h1, ?_⟩
 rcases h2 with ⟨e1, e2, e3⟩ | ⟨off, e1, e2, e3⟩
 ·
  exact ⟨0, hw, .inl ⟨e1, e2, e3⟩, .inl e2⟩
 ·
  by_cases hz : z = []
  ·
   subst hz
   subst e1
   rcases h.2 with ⟨h0, _⟩ | ⟨g, cap, cur, hv, hb, hg, hn, rest⟩
   ·
    cases h0
   ·
    injection hv with q1 q2 q3
    injection q1 with q1
    injection q1 with q1
    subst q1
    exact ⟨sb, Chg.lt_of hg, .inr ⟨off, rfl, e2, e3⟩, .inl rfl⟩
  ·
   have hl : 0 < z.length := List.length_pos_iff.2 hz
   have hlt : sb < w.heap.size := by
    have := e3 0 hl
    rcases Nat.lt_or_ge sb w.heap.size with h' | h'
    ·
     exact h'
    ·
     simp [World.cell?, Array.getElem?_eq_none h'] at this
   exact ⟨sb, hlt, .inr ⟨off, e1, e2, e3⟩, .inr ⟨off, e1, e2, hlt, e3⟩⟩
theorem own_pz {w : World} {base n c : Nat} {a : Option Addr} {z : List Int} (h : OwnB w base (.slice a n c) z) : ∃ sb, (z = [] ∨ ∃ off, a = some ⟨sb, off, none⟩ ∧ z.length ≤ c ∧ sb < w.heap.size ∧ ∀ i, i < z.length → w.cell? ⟨sb, off + i, none⟩ = some (.int .u8 (z.getD i 0))) := by
 rcases Nat.eq_zero_or_pos w.heap.size with h0 | h0
 ·
  rcases h.2 with ⟨h1, h2⟩ | ⟨g, cap, cur, hv, hb, hg, hn, rest⟩
  ·
   exact ⟨0, .inl (List.eq_nil_of_length_eq_zero h2)⟩
  ·
   have := Chg.lt_of hg; omega
 ·
  obtain ⟨_, sb, _, _, h3⟩ := own_sb h h0
  exact ⟨sb, h3⟩
theorem src_by {w : World} {sb c : Nat} {a : Option Addr} {zs : List Int} (h : BySl w sb a c zs) : Fr.Src w a (zs.map (Value.int .u8)) := by
 rcases h with ⟨rfl, rfl, _⟩ | ⟨off, rfl, _, hc⟩
 ·
  exact .inl ⟨rfl, rfl⟩
 ·
  refine .inr ⟨_, rfl, fun j u hj => ?_⟩
  have hj2 : j < zs.length := by
   have := (List.getElem?_eq_some_iff.1 hj).1
   simpa using this
  have e : (⟨sb, off, none⟩ : Addr).add j = ⟨sb, off + j, none⟩ := by unfold Addr.add; split <;> simp_all
  rw [e, hc j hj2]
  simp [hj2] at hj
  simp [List.getD, hj2, hj]
theorem src_own {w : World} {base n c : Nat} {a : Option Addr} {z : List Int} (h : OwnB w base (.slice a n c) z) : Fr.Src w a (z.map (Value.int .u8)) := by
 obtain ⟨_, sb, h2⟩ := own_bysl h
 exact src_by h2
theorem bts_one {z : List Int} : ∀ u ∈ z.map (Value.int .u8), u.oneCell' = true := by
 intro u hu
 obtain ⟨x, _, rfl⟩ := List.mem_map.1 hu
 rfl
theorem wpList_copyb {ops : Array Oper} {rest : List Oper} {o : Oper} {a : Act} {Q : Exit → Act → World → Prop} {W : World} (hgd : o.guard = none) (s x : Operand)
  (ho : o.op = .call { callee := .builtin .append, args := #[s, x], argTypes := #[41, 41] })
  {g0 : Nat} (hs : a.eval s = .slice (some ⟨g0, 0, none⟩) 0 0) (hg0 : g0 = W.heap.size) {ad : Option Addr} {m c : Nat} (zs : List Int) (hx : a.eval x = .slice ad m c) (hm : zs.length = m) (hsrc : Fr.Src W ad (zs.map (Value.int .u8))) (hl : zs.length ≤ 140737488351232)
  (h : ∀ sa c' w', OwnB w' W.heap.size (.slice sa zs.length c') zs → Grow.G W w' → wpList Tryz.prog ops Q rest (a.put o.dst (.slice sa zs.length c')) w') : wpList Tryz.prog ops Q (o :: rest) a (W.alloc (.cells #[] 5)) := by
 subst hg0
 obtain ⟨i0, hi, hz0, hz1, hz2⟩ := info_parts infoB
 refine Fr.wpList_append_src _ hgd s x 41 ho W.heap.size 5 i0 (.int .u8 0) 1 1 Tryz.underlying41 hi hz0 hz1 hz2 rfl (by decide) _ 0 [] hs (own_empty W _ _) ad m c (zs.map (Value.int .u8)) hx (by simp [hm]) (hsrc.grow (Grow.G.alloc (Grow.G.refl _) _)) bts_one ?_ ?_ (by simp) ?_
 ·
  unfold maxLen; omega
 ·
  omega
 ·
  intro v' w' hown hfr
  rw [List.nil_append, Nat.zero_add, ← hm] at hown
  obtain ⟨sa, c', rfl⟩ := own_shape hown
  exact h sa c' w' hown (own_grow (Grow.G.alloc (Grow.G.refl _) _) (own_empty W 5 1) (Nat.le_refl _) hfr.g)

theorem TgtSl.past {w w1 w' : World} {a : Option Addr} {ts : List Tgt} {g : Nat} (h : TgtSl w a ts) (hw : Grow.G w w1) (c : Chg (fun k => k = g) w1 w') (hg : w.heap.size ≤ g) : TgtSl w' a ts := by
 rcases h with h | ⟨b, off, ha, hc⟩
 ·
  exact .inl h
 ·
  refine .inr ⟨b, off, ha, fun i hi => ?_⟩
  have hb : b < w.heap.size := by
   have := (hc i hi).c0
   rcases Nat.lt_or_ge b w.heap.size with h' | h'
   ·
    exact h'
   ·
    simp [World.cell?, Array.getElem?_eq_none h'] at this
  have ne : ¬ b = g := by omega
  have t := (hc i hi).later hw
  exact ⟨c.cell t.c0 ne, c.cell t.c1 ne, c.cell t.c2 ne⟩
theorem own_past {w w1 w' : World} {base e sz n g : Nat} {v : Value} {xs : List Value} (h : w.ownsRow base e sz v n xs) (hw : Grow.G w w1) (c : Chg (fun k => k = g) w1 w') (hg : w.heap.size ≤ g) : w'.ownsRow base e sz v n xs :=
 c.own (own_later h hw) (fun k hk q => by have := (h.lt k hk).2; have q : k = g := q; omega)
theorem chg_none {w w' : World} (h : Chg (fun _ => False) w w') : Grow.G w w' := h.toGrow (fun _ _ => id)

theorem ts_len {e : EvD} (h : e.chk = 0) : e.ts.length ≤ 6 := by
 by_cases e2 : e.k = 2
 ·
  exact chk_len h e2
 ·
  have h3 := (chk_ok h).2.2.2.1
  rw [h3]
  unfold EvD.kept
  repeat' split
  all_goals first | (exact Nat.zero_le _) | (exfalso; omega)
end Go.Proofs.YtnkekdmikopdgaaGreat

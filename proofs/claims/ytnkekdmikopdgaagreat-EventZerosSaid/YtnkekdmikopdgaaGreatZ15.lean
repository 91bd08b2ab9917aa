/- My own texts Same3, RBytes, RBytes2, RSmall, Few3, laid in one file. -/
import Derived.Test.YtnkekdmikopdgaaGreatZ5
import Derived.Test.YtnkekdmikopdgaaGreatZ4
import Derived.Test.YtnkekdmikopdgaaGreatZ2
/- What damperref3's Same tells of two events. -/
namespace Go.Proofs.YtnkekdmikopdgaaGreat
set_option maxRecDepth 100000
set_option linter.unusedVariables false
set_option linter.unusedSimpArgs false
set_option linter.unnecessarySimpa false
open Go.RowKit

def cfgB (c d : Cfg) : Bool := (c.nm.toList == d.nm.toList) && (c.im == d.im) && (c.co == d.co) && (c.mn == d.mn) && (c.mx == d.mx) && (c.gr == d.gr)
theorem tl_iff {a b : ByteArray} : a.toList = b.toList ↔ a = b := ⟨fun h => eqS_iff.1 (beq_iff_eq.2 h), congrArg _⟩
theorem cfgB_iff {c d : Cfg} : cfgB c d = true ↔ c = d := by
  obtain ⟨a1, a2, a3, a4, a5, a6⟩ := c
  obtain ⟨b1, b2, b3, b4, b5, b6⟩ := d
  unfold cfgB
  simp only [Bool.and_eq_true, beq_iff_eq, tl_iff, Cfg.mk.injEq, and_assoc]
theorem run_eql_cfg (c d : Cfg) (w : World) : (binOp .eql 23 c.v d.v).run Tryz.prog w = .ok (.bool (cfgB c d)) w := by
  obtain ⟨a1, a2, a3, a4, a5, a6⟩ := c
  obtain ⟨b1, b2, b3, b4, b5, b6⟩ := d
  unfold Cfg.v
  go_simp
  unfold cfgB
  by_cases h1 : a1.toList = b1.toList <;> by_cases h2 : a2 = b2 <;> by_cases h3 : a3 = b3 <;> by_cases h4 : a4 = b4 <;> by_cases h5 : a5 = b5 <;> by_cases h6 : a6 = b6 <;> simp [h1, h2, h3, h4, h5, h6]
def evB (e f : EvD) : Bool := (e.k == f.k) && (e.nm.toList == f.nm.toList) && (e.tg.toList == f.tg.toList) && (e.n == f.n) && (e.dr == f.dr) && cfgB e.c f.c && sameR e.rn e.rc e.ts e.rr f.rn f.rc f.ts f.rr
theorem evB_iff {e f : EvD} : evB e f = true ↔ e = f := by
  obtain ⟨k, nm, tg, n, dr, c, rn, rc, ts, rr⟩ := e
  obtain ⟨k', nm', tg', n', dr', c', rn', rc', ts', rr'⟩ := f
  unfold evB
  simp only [Bool.and_eq_true, beq_iff_eq, tl_iff, cfgB_iff, sameR_iff, EvD.mk.injEq, and_assoc]
  constructor
  · rintro ⟨h1, h2, h3, h4, h5, h6, h7, h8, h9, h10⟩; exact ⟨h1, h2, h3, h4, h5, h6, h7, h8, h10, h9⟩
  · rintro ⟨h1, h2, h3, h4, h5, h6, h7, h8, h9, h10⟩; exact ⟨h1, h2, h3, h4, h5, h6, h7, h8, h10, h9⟩

set_option maxHeartbeats 2000000 in
theorem rsame3_any (e f : EvD) (a : Option Addr) (c : Nat) (a' : Option Addr) (c' : Nat) (w : World) (ht : TgtSl w a e.ts) (ht' : TgtSl w a' f.ts) (hl : e.ts.length ≤ 1000) :
    Calls Tryz.prog 21 #[.agg (e.cells a c), .agg (f.cells a' c')] w fun x w' => x = .returned (.bool (evB e f)) ∧ Below w.heap.size w w' := by
  have RC := run_eql_cfg e.c f.c
  have S := Lib.hid (fun w h h' => rsame_at e.rn e.rc a e.ts e.ts.length c e.rr f.rn f.rc a' f.ts f.ts.length c' f.rr w _ rfl rfl hl h h' rfl)
  have HT := Lib.hid ht
  have HT' := Lib.hid ht'
  have EB : Hid (evB e f = ((e.k == f.k) && (e.nm.toList == f.nm.toList) && (e.tg.toList == f.tg.toList) && (e.n == f.n) && (e.dr == f.dr) && cfgB e.c f.c && sameR e.rn e.rc e.ts e.rr f.rn f.rc f.ts f.rr)) := Lib.hid rfl
  generalize evB e f = z at *
  obtain ⟨k, nm, tg, n, dr, ⟨cn, im, co, mn, mx, gr⟩, rn, rc, ts, rr⟩ := e
  obtain ⟨k', nm', tg', n', dr', ⟨cn', im', co', mn', mx', gr'⟩, rn', rc', ts', rr'⟩ := f
  unfold EvD.cells
  unfold Cfg.v at RC
  dsimp only at *
  generalize cfgB _ _ = cb at *
  generalize sameR rn rc ts rr rn' rc' ts' rr' = sb at *
  generalize ts.length = l at *
  generalize ts'.length = l' at *
  clear ht ht' hl
  go_enter Tryz.func21, Tryz.ntmps21
  go_wp2_with fail
  all_goals first
    | (refine (S.out _ (HT.out.later (by (repeat (first | with_reducible exact Grow.G.refl _ | with_reducible exact Below.refl _ _ | with_reducible refine Grow.G.alloc ?_ _ | with_reducible refine Grow.G.trans ?_ hb1 | ((with_reducible refine Below.setCell ?_ ?_ _); rotate_left; (focus (first | omega | (simp; done) | (simp; omega)))) | with_reducible assumption | with_reducible refine Grow.G.trans ?_ (by with_reducible assumption))))) (HT'.out.later (by (repeat (first | with_reducible exact Grow.G.refl _ | with_reducible exact Below.refl _ _ | with_reducible refine Grow.G.alloc ?_ _ | with_reducible refine Grow.G.trans ?_ hb1 | ((with_reducible refine Below.setCell ?_ ?_ _); rotate_left; (focus (first | omega | (simp; done) | (simp; omega)))) | with_reducible assumption | with_reducible refine Grow.G.trans ?_ (by with_reducible assumption)))))).mono ?_
       rintro e w1 ⟨rfl, hb1⟩
       go_wp2_with fail
       go_ret
       refine ⟨ret_bool ?_, by (repeat (first | with_reducible exact Grow.G.refl _ | with_reducible exact Below.refl _ _ | with_reducible refine Grow.G.alloc ?_ _ | with_reducible refine Grow.G.trans ?_ hb1 | ((with_reducible refine Below.setCell ?_ ?_ _); rotate_left; (focus (first | omega | (simp; done) | (simp; omega)))) | with_reducible assumption | with_reducible refine Grow.G.trans ?_ (by with_reducible assumption)))⟩
       rw [EB.out]
       simp_all
       done)
    | (go_ret
       refine ⟨ret_bool ?_, by (repeat (first | with_reducible exact Grow.G.refl _ | with_reducible exact Below.refl _ _ | with_reducible refine Grow.G.alloc ?_ _ | with_reducible refine Grow.G.trans ?_ hb1 | ((with_reducible refine Below.setCell ?_ ?_ _); rotate_left; (focus (first | omega | (simp; done) | (simp; omega)))) | with_reducible assumption | with_reducible refine Grow.G.trans ?_ (by with_reducible assumption)))⟩
       rw [EB.out]
       simp_all
       done)
end Go.Proofs.YtnkekdmikopdgaaGreat
/- What damper/damperref3.Bytes writes. -/
namespace Go.Proofs.YtnkekdmikopdgaaGreat
set_option maxRecDepth 100000
set_option linter.unusedVariables false
set_option linter.unusedSimpArgs false
set_option linter.unnecessarySimpa false
open Go.RowKit

set_option maxHeartbeats 4000000 in
theorem rbytes_1 (e : EvD) (a : Option Addr) (c : Nat) (w : World) (hk : e.chk = 0) (h1 : e.k = 1) (ht : TgtSl w a e.ts) :
    Calls Tryz.prog 20 #[.agg (e.cells a c)] w fun x w' => ∃ v, x = .returned v ∧ OwnB w' w.heap.size v e.bytes ∧ Below w.heap.size w w' := by
  obtain ⟨i0, hi, hz0, hz1, hz2⟩ := info_parts infoB
  have HI := Lib.hid hi; have HZ0 := Lib.hid hz0; have HZ1 := Lib.hid hz1; have HZ2 := Lib.hid hz2
  have HT := Lib.hid ht
  obtain ⟨-, -, -, -, hbo⟩ := chk_ok hk
  obtain ⟨k, nm, tg, n, dr, ⟨cn, im, co, mn, mx, gr⟩, rn, rc, ts, rr⟩ := e
  simp only at h1
  subst h1
  unfold n4 n1 at hbo
  dsimp only at hbo
  rw [if_pos rfl] at hbo
  obtain ⟨hn, hcn, him, hco, hmn, hmx, hgr⟩ := hbo
  have BY : Hid (EvD.bytes ⟨1, nm, tg, n, dr, ⟨cn, im, co, mn, mx, gr⟩, rn, rc, ts, rr⟩ = oneB 1 ++ bodyB 1 ⟨1, nm, tg, n, dr, ⟨cn, im, co, mn, mx, gr⟩, rn, rc, ts, rr⟩) := Lib.hid rfl
  unfold bodyB at BY
  dsimp only at BY
  rw [if_pos rfl] at BY
  clear hi hz0 hz1 hz2 hk ht
  unfold EvD.cells
  simp only
  go_enter Tryz.func20, Tryz.ntmps20
  go_wp2_with fail
  obtain ⟨W0, hW⟩ : ∃ W0, W0 = (w.alloc (.cells #[.int .i64 1, .string nm, .string tg, .int .i64 n, .int .i64 dr, .string cn, .int .i64 im, .int .i64 co, .int .i64 mn, .int .i64 mx, .int .i64 gr, .string rn, .string rc, .slice a ts.length c, .int .i64 rr] 28)).alloc (.cells #[.int .u8 1] 5) := ⟨_, rfl⟩
  rw [← hW]
  have OB : OwnB W0 (w.heap.size + 1) (.slice (some ⟨w.heap.size + 1, 0, none⟩) 1 1) [1] := by
    have := own_one (w.alloc (.cells #[.int .i64 1, .string nm, .string tg, .int .i64 n, .int .i64 dr, .string cn, .int .i64 im, .int .i64 co, .int .i64 mn, .int .i64 mx, .int .i64 gr, .string rn, .string rc, .slice a ts.length c, .int .i64 rr] 28)) 5 (.int .u8 1) (w.heap.size + 1) (by simp)
    rw [hW]
    simpa [OwnB] using this
  have EB : EvBox W0 w.heap.size #[.int .i64 1, .string nm, .string tg, .int .i64 n, .int .i64 dr, .string cn, .int .i64 im, .int .i64 co, .int .i64 mn, .int .i64 mx, .int .i64 gr, .string rn, .string rc, .slice a ts.length c, .int .i64 rr] := ⟨fun i => by rw [hW, World.cell?_alloc_old _ _ _ (by simp)]; exact World.cell?_alloc_new _ _ _ _⟩
  have HB : w.heap.size + 1 ≤ W0.heap.size := by rw [hW]; simp
  have G0 : Grow.G w W0 := by rw [hW]; exact Grow.G.alloc (Grow.G.alloc (Grow.G.refl _) _) _
  clear hW
  have NBX : ∃ x, (#[.int .i64 1, .string nm, .string tg, .int .i64 n, .int .i64 dr, .string cn, .int .i64 im, .int .i64 co, .int .i64 mn, .int .i64 mx, .int .i64 gr, .string rn, .string rc, .slice a ts.length c, .int .i64 rr] : Array Value)[0]? = some x ∧ ∀ z, x ≠ .int .u8 z := ⟨_, rfl, fun z e => by cases e⟩
  have KC := Lib.hid (fun (w' : World) (h : Evo2.SK (w.heap.size + 1) W0 w') => (⟨(EB.later NBX h).cell 0, (EB.later NBX h).cell 1, (EB.later NBX h).cell 2, (EB.later NBX h).cell 3, (EB.later NBX h).cell 4, (EB.later NBX h).cell 5, (EB.later NBX h).cell 6, (EB.later NBX h).cell 7, (EB.later NBX h).cell 8, (EB.later NBX h).cell 9, (EB.later NBX h).cell 10, (EB.later NBX h).cell 11, (EB.later NBX h).cell 12, (EB.later NBX h).cell 13, (EB.later NBX h).cell 14⟩ : w'.cell? ⟨w.heap.size, 0, none⟩ = some (.int .i64 1) ∧ w'.cell? ⟨w.heap.size, 1, none⟩ = some (.string nm) ∧ w'.cell? ⟨w.heap.size, 2, none⟩ = some (.string tg) ∧ w'.cell? ⟨w.heap.size, 3, none⟩ = some (.int .i64 n) ∧ w'.cell? ⟨w.heap.size, 4, none⟩ = some (.int .i64 dr) ∧ w'.cell? ⟨w.heap.size, 5, none⟩ = some (.string cn) ∧ w'.cell? ⟨w.heap.size, 6, none⟩ = some (.int .i64 im) ∧ w'.cell? ⟨w.heap.size, 7, none⟩ = some (.int .i64 co) ∧ w'.cell? ⟨w.heap.size, 8, none⟩ = some (.int .i64 mn) ∧ w'.cell? ⟨w.heap.size, 9, none⟩ = some (.int .i64 mx) ∧ w'.cell? ⟨w.heap.size, 10, none⟩ = some (.int .i64 gr) ∧ w'.cell? ⟨w.heap.size, 11, none⟩ = some (.string rn) ∧ w'.cell? ⟨w.heap.size, 12, none⟩ = some (.string rc) ∧ w'.cell? ⟨w.heap.size, 13, none⟩ = some (.slice a ts.length c) ∧ w'.cell? ⟨w.heap.size, 14, none⟩ = some (.int .i64 rr)))
  refine Evo2.start' (ℓ := none) (S := Evo2.SB (w.heap.size + 1)) (E := Evo2.EB (w.heap.size + 1)) (by kernel_rfl) ⟨Evo2.preB _, by decide +kernel, (by intro c a d v w h; cases d <;> exact h), by decide +kernel⟩ (fun ok => ?_)
  first | (refine Evo2.value ok 0 ?_ (by rfl) (by decide +kernel) (by rfl) ?_ ?_; rotate_left; (intro w' hg; go_simp <;> with_reducible rfl); simp only [Act.put, List.setIfInBounds_toArray, List.set_cons_zero, List.set_cons_succ])
  first | (refine Evo2.value ok 1 ?_ (by rfl) (by decide +kernel) (by rfl) ?_ ?_; rotate_left; (intro w' hg; go_simp <;> with_reducible rfl); simp only [Act.put, List.setIfInBounds_toArray, List.set_cons_zero, List.set_cons_succ])
  first | (refine Evo2.value ok 2 ?_ (by rfl) (by decide +kernel) (by rfl) ?_ ?_; rotate_left; (intro w' hg; obtain ⟨q1, q2, q3, q4, q5, q6, q7, q8, q9, q10, q11, q12, q13, q14, q15⟩ := KC.out w' (Evo2.SK.trans (Evo2.SK.refl _ _) hg); go_simp <;> with_reducible rfl); simp only [Act.put, List.setIfInBounds_toArray, List.set_cons_zero, List.set_cons_succ]) | (refine Evo2.value ok 2 ?_ (by rfl) (by decide +kernel) (by rfl) ?_ ?_; rotate_left; (intro w' hg; go_simp <;> with_reducible rfl); simp only [Act.put, List.setIfInBounds_toArray, List.set_cons_zero, List.set_cons_succ])
  first | (refine Evo2.value ok 4 ?_ (by rfl) (by decide +kernel) (by rfl) ?_ ?_; rotate_left; (intro w' hg; go_simp <;> with_reducible rfl); simp only [Act.put, List.setIfInBounds_toArray, List.set_cons_zero, List.set_cons_succ])
  first | (refine Evo2.value ok 5 ?_ (by rfl) (by decide +kernel) (by rfl) ?_ ?_; rotate_left; (intro w' hg; go_simp <;> with_reducible rfl); simp only [Act.put, List.setIfInBounds_toArray, List.set_cons_zero, List.set_cons_succ])
  first | (refine Evo2.value ok 6 ?_ (by rfl) (by decide +kernel) (by rfl) ?_ ?_; rotate_left; (intro w' hg; obtain ⟨q1, q2, q3, q4, q5, q6, q7, q8, q9, q10, q11, q12, q13, q14, q15⟩ := KC.out w' (Evo2.SK.trans (Evo2.SK.refl _ _) hg); go_simp <;> with_reducible rfl); simp only [Act.put, List.setIfInBounds_toArray, List.set_cons_zero, List.set_cons_succ]) | (refine Evo2.value ok 6 ?_ (by rfl) (by decide +kernel) (by rfl) ?_ ?_; rotate_left; (intro w' hg; go_simp <;> with_reducible rfl); simp only [Act.put, List.setIfInBounds_toArray, List.set_cons_zero, List.set_cons_succ])
  refine Evo2.all [3] (by decide +kernel) rfl ?_
  intro wp1 gp1 iq hq
  simp only [List.mem_cons, List.mem_nil_iff, or_false] at hq
  have AP1 := Evo2.SK.trans (Evo2.SK.refl _ _) (Evo2.sk_of gp1)
  have OP1 := own_later OB gp1.1
  have SP1 := Nat.le_trans HB AP1.size
  subst hq
  refine Evo2.enters 46 _ (by rfl) (by rfl) (by go_simp; exact ⟨rfl, rfl⟩) ?_
  refine (rfour_any (w.heap.size + 1) _ [1] n wp1 OP1 SP1 ⟨by decide, by decide⟩ ⟨hn.1, hn.2⟩).mono ?_
  rintro e wc1 ⟨vw1, rfl, OW1, fr1⟩
  have hb1 := fr1.sk OP1 SP1 ⟨_, _, rfl⟩
  have AC1 := Evo2.SK.trans AP1 hb1
  refine ⟨_, rfl, .inr hb1, ?_⟩
  simp only [Act.put, List.setIfInBounds_toArray, List.set_cons_zero, List.set_cons_succ]
  refine Evo2.all [7] (by decide +kernel) rfl ?_
  intro wp2 gp2 iq hq
  simp only [List.mem_cons, List.mem_nil_iff, or_false] at hq
  have AP2 := Evo2.SK.trans AC1 (Evo2.sk_of gp2)
  have OP2 := own_later OW1 gp2.1
  have SP2 := Nat.le_trans HB AP2.size
  subst hq
  refine Evo2.enters 45 _ (by rfl) (by rfl) (by go_simp; exact ⟨rfl, rfl⟩) ?_
  refine (rtext_any (w.heap.size + 1) _ ([1] ++ fourB n) cn wp2 OP2 SP2 ⟨by simp, by simp [fourB]⟩ (by omega)).mono ?_
  rintro e wc2 ⟨vw2, rfl, OW2, fr2⟩
  have hb2 := fr2.sk OP2 SP2 ⟨_, _, rfl⟩
  have AC2 := Evo2.SK.trans AP2 hb2
  refine ⟨_, rfl, .inr hb2, ?_⟩
  simp only [Act.put, List.setIfInBounds_toArray, List.set_cons_zero, List.set_cons_succ]
  first | (refine Evo2.value ok 8 ?_ (by rfl) (by decide +kernel) (by rfl) ?_ ?_; rotate_left; (intro w' hg; go_simp <;> with_reducible rfl); simp only [Act.put, List.setIfInBounds_toArray, List.set_cons_zero, List.set_cons_succ])
  refine Evo2.done (by decide +kernel) (fun wz gz => ?_)
  have AZ := Evo2.SK.trans AC2 (Evo2.sk_of gz)
  have OZ := own_later OW2 gz.1
  obtain ⟨q1, q2, q3, q4, q5, q6, q7, q8, q9, q10, q11, q12, q13, q14, q15⟩ := KC.out wz AZ
  have SZ := Nat.le_trans HB AZ.size
  have i1 := him.1; have i2 := him.2; have i3 := hco.1; have i4 := hco.2; have i5 := hmn.1; have i6 := hmn.2; have i7 := hmx.1; have i8 := hmx.2; have i9 := hgr.1; have i10 := hgr.2
  have OZH := Lib.hid OZ
  clear OZ him hco hmn hmx hgr OW1 OW2 OP1 OP2 OB ok
  go_wp2_with (at_builtin; refine Fr.wpList_append_fr _ rfl _ _ 41 rfl (w.heap.size + 1) 5 i0 (.int .u8 0) 1 1 Tryz.underlying41 HI.out HZ0.out HZ1.out HZ2.out rfl (by decide) _ _ _ rfl (own_later OZH.out ?_) _ 5 5 [_, _, _, _, _] rfl rfl (news_new _ [_, _, _, _, _] _ _ ?_) ?_ ?_ ?_ ?_ ?_)
  · (repeat (first | with_reducible exact Grow.G.refl _ | with_reducible exact Below.refl _ _ | with_reducible refine Grow.G.alloc ?_ _ | with_reducible refine Grow.G.trans ?_ hb1 | ((with_reducible refine Below.setCell ?_ ?_ _); rotate_left; (focus (first | omega | (simp; done) | (simp; omega)))) | with_reducible assumption | with_reducible refine Grow.G.trans ?_ (by with_reducible assumption)))
  · first | rfl | (simp; done)
  · intro u hu; simp at hu; rcases hu with rfl | rfl | rfl | rfl | rfl <;> rfl
  · simp [fourB, txtB, oneB, numsOf_len]; unfold maxLen; omega
  · simp [fourB, txtB, oneB, numsOf_len]; omega
  · simp; omega
  · intro v' w1 hown hgr'
    have AW := Evo2.SK.trans AZ (Evo2.SK.trans (Evo2.SK.alloc (Evo2.SK.refl _ _) SZ _) (hgr'.sk (own_later OZH.out (show Grow.G wz _ by (repeat (first | with_reducible exact Grow.G.refl _ | with_reducible exact Below.refl _ _ | with_reducible refine Grow.G.alloc ?_ _ | with_reducible refine Grow.G.trans ?_ hb1 | ((with_reducible refine Below.setCell ?_ ?_ _); rotate_left; (focus (first | omega | (simp; done) | (simp; omega)))) | with_reducible assumption | with_reducible refine Grow.G.trans ?_ (by with_reducible assumption))))) (by simp; omega) ⟨_, _, rfl⟩))
    have HO := Lib.hid hown
    clear hown hgr' q1 q2 q3 q4 q5 q6 q7 q8 q9 q10 q11 q12 q13 q14 q15
    go_wp2_with fail
    refine bodyPost_ret (v := v') (by simp [results, Tryz.results20, go_sem]) rfl ⟨v', rfl, own_fin (zs := [1] ++ fourB n ++ txtB cn ++ [im, co, mn, mx, gr]) HO.out ?_ ?_ (Nat.le_succ _) ?_, Below.trans G0 (Below.mono AW.1 (Nat.le_succ _))⟩
    · first | rfl | (simp; done) | (simp; omega)
    · first | rfl | (simp; done)
    · rw [BY.out]; first | rfl | (simp [oneB]; done) | (simp [oneB]; omega)

set_option maxHeartbeats 4000000 in
theorem rbytes_3 (e : EvD) (a : Option Addr) (c : Nat) (w : World) (hk : e.chk = 0) (h1 : e.k = 3) (ht : TgtSl w a e.ts) :
    Calls Tryz.prog 20 #[.agg (e.cells a c)] w fun x w' => ∃ v, x = .returned v ∧ OwnB w' w.heap.size v e.bytes ∧ Below w.heap.size w w' := by
  obtain ⟨i0, hi, hz0, hz1, hz2⟩ := info_parts infoB
  have HI := Lib.hid hi; have HZ0 := Lib.hid hz0; have HZ1 := Lib.hid hz1; have HZ2 := Lib.hid hz2
  have HT := Lib.hid ht
  obtain ⟨-, -, -, -, hbo⟩ := chk_ok hk
  obtain ⟨k, nm, tg, n, dr, ⟨cn, im, co, mn, mx, gr⟩, rn, rc, ts, rr⟩ := e
  simp only at h1
  subst h1
  unfold n4 n1 at hbo
  dsimp only at hbo
  rw [if_neg (by decide : ¬ (3 : Int) = 1), if_neg (by decide : ¬ (3 : Int) = 2), if_pos rfl] at hbo
  obtain ⟨hn, hnm, hdr⟩ := hbo
  have BY : Hid (EvD.bytes ⟨3, nm, tg, n, dr, ⟨cn, im, co, mn, mx, gr⟩, rn, rc, ts, rr⟩ = oneB 3 ++ bodyB 3 ⟨3, nm, tg, n, dr, ⟨cn, im, co, mn, mx, gr⟩, rn, rc, ts, rr⟩) := Lib.hid rfl
  unfold bodyB at BY
  dsimp only at BY
  rw [if_neg (by decide : ¬ (3 : Int) = 1), if_neg (by decide : ¬ (3 : Int) = 2), if_pos rfl] at BY
  clear hi hz0 hz1 hz2 hk ht
  unfold EvD.cells
  simp only
  go_enter Tryz.func20, Tryz.ntmps20
  go_wp2_with fail
  obtain ⟨W0, hW⟩ : ∃ W0, W0 = (w.alloc (.cells #[.int .i64 3, .string nm, .string tg, .int .i64 n, .int .i64 dr, .string cn, .int .i64 im, .int .i64 co, .int .i64 mn, .int .i64 mx, .int .i64 gr, .string rn, .string rc, .slice a ts.length c, .int .i64 rr] 28)).alloc (.cells #[.int .u8 3] 5) := ⟨_, rfl⟩
  rw [← hW]
  have OB : OwnB W0 (w.heap.size + 1) (.slice (some ⟨w.heap.size + 1, 0, none⟩) 1 1) [3] := by
    have := own_one (w.alloc (.cells #[.int .i64 3, .string nm, .string tg, .int .i64 n, .int .i64 dr, .string cn, .int .i64 im, .int .i64 co, .int .i64 mn, .int .i64 mx, .int .i64 gr, .string rn, .string rc, .slice a ts.length c, .int .i64 rr] 28)) 5 (.int .u8 3) (w.heap.size + 1) (by simp)
    rw [hW]
    simpa [OwnB] using this
  have EB : EvBox W0 w.heap.size #[.int .i64 3, .string nm, .string tg, .int .i64 n, .int .i64 dr, .string cn, .int .i64 im, .int .i64 co, .int .i64 mn, .int .i64 mx, .int .i64 gr, .string rn, .string rc, .slice a ts.length c, .int .i64 rr] := ⟨fun i => by rw [hW, World.cell?_alloc_old _ _ _ (by simp)]; exact World.cell?_alloc_new _ _ _ _⟩
  have HB : w.heap.size + 1 ≤ W0.heap.size := by rw [hW]; simp
  have G0 : Grow.G w W0 := by rw [hW]; exact Grow.G.alloc (Grow.G.alloc (Grow.G.refl _) _) _
  clear hW
  have NBX : ∃ x, (#[.int .i64 3, .string nm, .string tg, .int .i64 n, .int .i64 dr, .string cn, .int .i64 im, .int .i64 co, .int .i64 mn, .int .i64 mx, .int .i64 gr, .string rn, .string rc, .slice a ts.length c, .int .i64 rr] : Array Value)[0]? = some x ∧ ∀ z, x ≠ .int .u8 z := ⟨_, rfl, fun z e => by cases e⟩
  have KC := Lib.hid (fun (w' : World) (h : Evo2.SK (w.heap.size + 1) W0 w') => (⟨(EB.later NBX h).cell 0, (EB.later NBX h).cell 1, (EB.later NBX h).cell 2, (EB.later NBX h).cell 3, (EB.later NBX h).cell 4, (EB.later NBX h).cell 5, (EB.later NBX h).cell 6, (EB.later NBX h).cell 7, (EB.later NBX h).cell 8, (EB.later NBX h).cell 9, (EB.later NBX h).cell 10, (EB.later NBX h).cell 11, (EB.later NBX h).cell 12, (EB.later NBX h).cell 13, (EB.later NBX h).cell 14⟩ : w'.cell? ⟨w.heap.size, 0, none⟩ = some (.int .i64 3) ∧ w'.cell? ⟨w.heap.size, 1, none⟩ = some (.string nm) ∧ w'.cell? ⟨w.heap.size, 2, none⟩ = some (.string tg) ∧ w'.cell? ⟨w.heap.size, 3, none⟩ = some (.int .i64 n) ∧ w'.cell? ⟨w.heap.size, 4, none⟩ = some (.int .i64 dr) ∧ w'.cell? ⟨w.heap.size, 5, none⟩ = some (.string cn) ∧ w'.cell? ⟨w.heap.size, 6, none⟩ = some (.int .i64 im) ∧ w'.cell? ⟨w.heap.size, 7, none⟩ = some (.int .i64 co) ∧ w'.cell? ⟨w.heap.size, 8, none⟩ = some (.int .i64 mn) ∧ w'.cell? ⟨w.heap.size, 9, none⟩ = some (.int .i64 mx) ∧ w'.cell? ⟨w.heap.size, 10, none⟩ = some (.int .i64 gr) ∧ w'.cell? ⟨w.heap.size, 11, none⟩ = some (.string rn) ∧ w'.cell? ⟨w.heap.size, 12, none⟩ = some (.string rc) ∧ w'.cell? ⟨w.heap.size, 13, none⟩ = some (.slice a ts.length c) ∧ w'.cell? ⟨w.heap.size, 14, none⟩ = some (.int .i64 rr)))
  refine Evo2.start' (ℓ := none) (S := Evo2.SB (w.heap.size + 1)) (E := Evo2.EB (w.heap.size + 1)) (by kernel_rfl) ⟨Evo2.preB _, by decide +kernel, (by intro c a d v w h; cases d <;> exact h), by decide +kernel⟩ (fun ok => ?_)
  first | (refine Evo2.value ok 0 ?_ (by rfl) (by decide +kernel) (by rfl) ?_ ?_; rotate_left; (intro w' hg; go_simp <;> with_reducible rfl); simp only [Act.put, List.setIfInBounds_toArray, List.set_cons_zero, List.set_cons_succ])
  first | (refine Evo2.value ok 1 ?_ (by rfl) (by decide +kernel) (by rfl) ?_ ?_; rotate_left; (intro w' hg; go_simp <;> with_reducible rfl); simp only [Act.put, List.setIfInBounds_toArray, List.set_cons_zero, List.set_cons_succ])
  first | (refine Evo2.value ok 2 ?_ (by rfl) (by decide +kernel) (by rfl) ?_ ?_; rotate_left; (intro w' hg; obtain ⟨q1, q2, q3, q4, q5, q6, q7, q8, q9, q10, q11, q12, q13, q14, q15⟩ := KC.out w' (Evo2.SK.trans (Evo2.SK.refl _ _) hg); go_simp <;> with_reducible rfl); simp only [Act.put, List.setIfInBounds_toArray, List.set_cons_zero, List.set_cons_succ]) | (refine Evo2.value ok 2 ?_ (by rfl) (by decide +kernel) (by rfl) ?_ ?_; rotate_left; (intro w' hg; go_simp <;> with_reducible rfl); simp only [Act.put, List.setIfInBounds_toArray, List.set_cons_zero, List.set_cons_succ])
  first | (refine Evo2.value ok 4 ?_ (by rfl) (by decide +kernel) (by rfl) ?_ ?_; rotate_left; (intro w' hg; go_simp <;> with_reducible rfl); simp only [Act.put, List.setIfInBounds_toArray, List.set_cons_zero, List.set_cons_succ])
  first | (refine Evo2.value ok 5 ?_ (by rfl) (by decide +kernel) (by rfl) ?_ ?_; rotate_left; (intro w' hg; obtain ⟨q1, q2, q3, q4, q5, q6, q7, q8, q9, q10, q11, q12, q13, q14, q15⟩ := KC.out w' (Evo2.SK.trans (Evo2.SK.refl _ _) hg); go_simp <;> with_reducible rfl); simp only [Act.put, List.setIfInBounds_toArray, List.set_cons_zero, List.set_cons_succ]) | (refine Evo2.value ok 5 ?_ (by rfl) (by decide +kernel) (by rfl) ?_ ?_; rotate_left; (intro w' hg; go_simp <;> with_reducible rfl); simp only [Act.put, List.setIfInBounds_toArray, List.set_cons_zero, List.set_cons_succ])
  first | (refine Evo2.value ok 7 ?_ (by rfl) (by decide +kernel) (by rfl) ?_ ?_; rotate_left; (intro w' hg; go_simp <;> with_reducible rfl); simp only [Act.put, List.setIfInBounds_toArray, List.set_cons_zero, List.set_cons_succ])
  first | (refine Evo2.value ok 8 ?_ (by rfl) (by decide +kernel) (by rfl) ?_ ?_; rotate_left; (intro w' hg; obtain ⟨q1, q2, q3, q4, q5, q6, q7, q8, q9, q10, q11, q12, q13, q14, q15⟩ := KC.out w' (Evo2.SK.trans (Evo2.SK.refl _ _) hg); go_simp <;> with_reducible rfl); simp only [Act.put, List.setIfInBounds_toArray, List.set_cons_zero, List.set_cons_succ]) | (refine Evo2.value ok 8 ?_ (by rfl) (by decide +kernel) (by rfl) ?_ ?_; rotate_left; (intro w' hg; go_simp <;> with_reducible rfl); simp only [Act.put, List.setIfInBounds_toArray, List.set_cons_zero, List.set_cons_succ])
  refine Evo2.all [3] (by decide +kernel) rfl ?_
  intro wp1 gp1 iq hq
  simp only [List.mem_cons, List.mem_nil_iff, or_false] at hq
  have AP1 := Evo2.SK.trans (Evo2.SK.refl _ _) (Evo2.sk_of gp1)
  have OP1 := own_later OB gp1.1
  have SP1 := Nat.le_trans HB AP1.size
  subst hq
  refine Evo2.enters 46 _ (by rfl) (by rfl) (by go_simp; exact ⟨rfl, rfl⟩) ?_
  refine (rfour_any (w.heap.size + 1) _ [3] n wp1 OP1 SP1 ⟨by decide, by decide⟩ ⟨hn.1, hn.2⟩).mono ?_
  rintro e wc1 ⟨vw1, rfl, OW1, fr1⟩
  have hb1 := fr1.sk OP1 SP1 ⟨_, _, rfl⟩
  have AC1 := Evo2.SK.trans AP1 hb1
  refine ⟨_, rfl, .inr hb1, ?_⟩
  simp only [Act.put, List.setIfInBounds_toArray, List.set_cons_zero, List.set_cons_succ]
  refine Evo2.all [6] (by decide +kernel) rfl ?_
  intro wp2 gp2 iq hq
  simp only [List.mem_cons, List.mem_nil_iff, or_false] at hq
  have AP2 := Evo2.SK.trans AC1 (Evo2.sk_of gp2)
  have OP2 := own_later OW1 gp2.1
  have SP2 := Nat.le_trans HB AP2.size
  subst hq
  refine Evo2.enters 45 _ (by rfl) (by rfl) (by go_simp; exact ⟨rfl, rfl⟩) ?_
  refine (rtext_any (w.heap.size + 1) _ ([3] ++ fourB n) nm wp2 OP2 SP2 ⟨by simp, by simp [fourB]⟩ (by omega)).mono ?_
  rintro e wc2 ⟨vw2, rfl, OW2, fr2⟩
  have hb2 := fr2.sk OP2 SP2 ⟨_, _, rfl⟩
  have AC2 := Evo2.SK.trans AP2 hb2
  refine ⟨_, rfl, .inr hb2, ?_⟩
  simp only [Act.put, List.setIfInBounds_toArray, List.set_cons_zero, List.set_cons_succ]
  refine Evo2.all [9] (by decide +kernel) rfl ?_
  intro wp3 gp3 iq hq
  simp only [List.mem_cons, List.mem_nil_iff, or_false] at hq
  have AP3 := Evo2.SK.trans AC2 (Evo2.sk_of gp3)
  have OP3 := own_later OW2 gp3.1
  have SP3 := Nat.le_trans HB AP3.size
  subst hq
  refine Evo2.enters 46 _ (by rfl) (by rfl) (by go_simp; exact ⟨rfl, rfl⟩) ?_
  refine (rfour_any (w.heap.size + 1) _ ([3] ++ fourB n ++ txtB nm) dr wp3 OP3 SP3 ⟨by simp, by simp [fourB, txtB, oneB, numsOf_len]; omega⟩ ⟨hdr.1, hdr.2⟩).mono ?_
  rintro e wc3 ⟨vw3, rfl, OW3, fr3⟩
  have hb3 := fr3.sk OP3 SP3 ⟨_, _, rfl⟩
  have AC3 := Evo2.SK.trans AP3 hb3
  refine ⟨_, rfl, .inr hb3, ?_⟩
  simp only [Act.put, List.setIfInBounds_toArray, List.set_cons_zero, List.set_cons_succ]
  first | (refine Evo2.value ok 10 ?_ (by rfl) (by decide +kernel) (by rfl) ?_ ?_; rotate_left; (intro w' hg; go_simp <;> with_reducible rfl); simp only [Act.put, List.setIfInBounds_toArray, List.set_cons_zero, List.set_cons_succ])
  refine Evo2.done (by decide +kernel) (fun wz gz => ?_)
  have AZ := Evo2.SK.trans AC3 (Evo2.sk_of gz)
  have OZ := own_later OW3 gz.1
  go_wp2_with fail
  refine bodyPost_ret (v := vw3) (by simp [results, Tryz.results20, go_sem]) rfl ⟨vw3, rfl, own_fin (zs := [3] ++ fourB n ++ txtB nm ++ fourB dr) OZ ?_ ?_ (Nat.le_succ _) ?_, Below.trans G0 (Below.mono AZ.1 (Nat.le_succ _))⟩
  · first | rfl | (simp; done) | (simp; omega)
  · first | rfl | (simp; done)
  · rw [BY.out]; first | rfl | (simp [oneB]; done) | (simp [oneB]; omega)

set_option maxHeartbeats 4000000 in
theorem rbytes_4 (e : EvD) (a : Option Addr) (c : Nat) (w : World) (hk : e.chk = 0) (h1 : e.k = 4) (ht : TgtSl w a e.ts) :
    Calls Tryz.prog 20 #[.agg (e.cells a c)] w fun x w' => ∃ v, x = .returned v ∧ OwnB w' w.heap.size v e.bytes ∧ Below w.heap.size w w' := by
  obtain ⟨i0, hi, hz0, hz1, hz2⟩ := info_parts infoB
  have HI := Lib.hid hi; have HZ0 := Lib.hid hz0; have HZ1 := Lib.hid hz1; have HZ2 := Lib.hid hz2
  have HT := Lib.hid ht
  obtain ⟨-, -, -, -, hbo⟩ := chk_ok hk
  obtain ⟨k, nm, tg, n, dr, ⟨cn, im, co, mn, mx, gr⟩, rn, rc, ts, rr⟩ := e
  simp only at h1
  subst h1
  unfold n4 n1 at hbo
  dsimp only at hbo
  rw [if_neg (by decide : ¬ (4 : Int) = 1), if_neg (by decide : ¬ (4 : Int) = 2), if_neg (by decide : ¬ (4 : Int) = 3), if_pos rfl] at hbo
  obtain ⟨hn, hnm, htg, hdr⟩ := hbo
  have BY : Hid (EvD.bytes ⟨4, nm, tg, n, dr, ⟨cn, im, co, mn, mx, gr⟩, rn, rc, ts, rr⟩ = oneB 4 ++ bodyB 4 ⟨4, nm, tg, n, dr, ⟨cn, im, co, mn, mx, gr⟩, rn, rc, ts, rr⟩) := Lib.hid rfl
  unfold bodyB at BY
  dsimp only at BY
  rw [if_neg (by decide : ¬ (4 : Int) = 1), if_neg (by decide : ¬ (4 : Int) = 2), if_neg (by decide : ¬ (4 : Int) = 3), if_pos rfl] at BY
  clear hi hz0 hz1 hz2 hk ht
  unfold EvD.cells
  simp only
  go_enter Tryz.func20, Tryz.ntmps20
  go_wp2_with fail
  obtain ⟨W0, hW⟩ : ∃ W0, W0 = (w.alloc (.cells #[.int .i64 4, .string nm, .string tg, .int .i64 n, .int .i64 dr, .string cn, .int .i64 im, .int .i64 co, .int .i64 mn, .int .i64 mx, .int .i64 gr, .string rn, .string rc, .slice a ts.length c, .int .i64 rr] 28)).alloc (.cells #[.int .u8 4] 5) := ⟨_, rfl⟩
  rw [← hW]
  have OB : OwnB W0 (w.heap.size + 1) (.slice (some ⟨w.heap.size + 1, 0, none⟩) 1 1) [4] := by
    have := own_one (w.alloc (.cells #[.int .i64 4, .string nm, .string tg, .int .i64 n, .int .i64 dr, .string cn, .int .i64 im, .int .i64 co, .int .i64 mn, .int .i64 mx, .int .i64 gr, .string rn, .string rc, .slice a ts.length c, .int .i64 rr] 28)) 5 (.int .u8 4) (w.heap.size + 1) (by simp)
    rw [hW]
    simpa [OwnB] using this
  have EB : EvBox W0 w.heap.size #[.int .i64 4, .string nm, .string tg, .int .i64 n, .int .i64 dr, .string cn, .int .i64 im, .int .i64 co, .int .i64 mn, .int .i64 mx, .int .i64 gr, .string rn, .string rc, .slice a ts.length c, .int .i64 rr] := ⟨fun i => by rw [hW, World.cell?_alloc_old _ _ _ (by simp)]; exact World.cell?_alloc_new _ _ _ _⟩
  have HB : w.heap.size + 1 ≤ W0.heap.size := by rw [hW]; simp
  have G0 : Grow.G w W0 := by rw [hW]; exact Grow.G.alloc (Grow.G.alloc (Grow.G.refl _) _) _
  clear hW
  have NBX : ∃ x, (#[.int .i64 4, .string nm, .string tg, .int .i64 n, .int .i64 dr, .string cn, .int .i64 im, .int .i64 co, .int .i64 mn, .int .i64 mx, .int .i64 gr, .string rn, .string rc, .slice a ts.length c, .int .i64 rr] : Array Value)[0]? = some x ∧ ∀ z, x ≠ .int .u8 z := ⟨_, rfl, fun z e => by cases e⟩
  have KC := Lib.hid (fun (w' : World) (h : Evo2.SK (w.heap.size + 1) W0 w') => (⟨(EB.later NBX h).cell 0, (EB.later NBX h).cell 1, (EB.later NBX h).cell 2, (EB.later NBX h).cell 3, (EB.later NBX h).cell 4, (EB.later NBX h).cell 5, (EB.later NBX h).cell 6, (EB.later NBX h).cell 7, (EB.later NBX h).cell 8, (EB.later NBX h).cell 9, (EB.later NBX h).cell 10, (EB.later NBX h).cell 11, (EB.later NBX h).cell 12, (EB.later NBX h).cell 13, (EB.later NBX h).cell 14⟩ : w'.cell? ⟨w.heap.size, 0, none⟩ = some (.int .i64 4) ∧ w'.cell? ⟨w.heap.size, 1, none⟩ = some (.string nm) ∧ w'.cell? ⟨w.heap.size, 2, none⟩ = some (.string tg) ∧ w'.cell? ⟨w.heap.size, 3, none⟩ = some (.int .i64 n) ∧ w'.cell? ⟨w.heap.size, 4, none⟩ = some (.int .i64 dr) ∧ w'.cell? ⟨w.heap.size, 5, none⟩ = some (.string cn) ∧ w'.cell? ⟨w.heap.size, 6, none⟩ = some (.int .i64 im) ∧ w'.cell? ⟨w.heap.size, 7, none⟩ = some (.int .i64 co) ∧ w'.cell? ⟨w.heap.size, 8, none⟩ = some (.int .i64 mn) ∧ w'.cell? ⟨w.heap.size, 9, none⟩ = some (.int .i64 mx) ∧ w'.cell? ⟨w.heap.size, 10, none⟩ = some (.int .i64 gr) ∧ w'.cell? ⟨w.heap.size, 11, none⟩ = some (.string rn) ∧ w'.cell? ⟨w.heap.size, 12, none⟩ = some (.string rc) ∧ w'.cell? ⟨w.heap.size, 13, none⟩ = some (.slice a ts.length c) ∧ w'.cell? ⟨w.heap.size, 14, none⟩ = some (.int .i64 rr)))
  refine Evo2.start' (ℓ := none) (S := Evo2.SB (w.heap.size + 1)) (E := Evo2.EB (w.heap.size + 1)) (by kernel_rfl) ⟨Evo2.preB _, by decide +kernel, (by intro c a d v w h; cases d <;> exact h), by decide +kernel⟩ (fun ok => ?_)
  first | (refine Evo2.value ok 0 ?_ (by rfl) (by decide +kernel) (by rfl) ?_ ?_; rotate_left; (intro w' hg; go_simp <;> with_reducible rfl); simp only [Act.put, List.setIfInBounds_toArray, List.set_cons_zero, List.set_cons_succ])
  first | (refine Evo2.value ok 1 ?_ (by rfl) (by decide +kernel) (by rfl) ?_ ?_; rotate_left; (intro w' hg; go_simp <;> with_reducible rfl); simp only [Act.put, List.setIfInBounds_toArray, List.set_cons_zero, List.set_cons_succ])
  first | (refine Evo2.value ok 2 ?_ (by rfl) (by decide +kernel) (by rfl) ?_ ?_; rotate_left; (intro w' hg; obtain ⟨q1, q2, q3, q4, q5, q6, q7, q8, q9, q10, q11, q12, q13, q14, q15⟩ := KC.out w' (Evo2.SK.trans (Evo2.SK.refl _ _) hg); go_simp <;> with_reducible rfl); simp only [Act.put, List.setIfInBounds_toArray, List.set_cons_zero, List.set_cons_succ]) | (refine Evo2.value ok 2 ?_ (by rfl) (by decide +kernel) (by rfl) ?_ ?_; rotate_left; (intro w' hg; go_simp <;> with_reducible rfl); simp only [Act.put, List.setIfInBounds_toArray, List.set_cons_zero, List.set_cons_succ])
  first | (refine Evo2.value ok 4 ?_ (by rfl) (by decide +kernel) (by rfl) ?_ ?_; rotate_left; (intro w' hg; go_simp <;> with_reducible rfl); simp only [Act.put, List.setIfInBounds_toArray, List.set_cons_zero, List.set_cons_succ])
  first | (refine Evo2.value ok 5 ?_ (by rfl) (by decide +kernel) (by rfl) ?_ ?_; rotate_left; (intro w' hg; obtain ⟨q1, q2, q3, q4, q5, q6, q7, q8, q9, q10, q11, q12, q13, q14, q15⟩ := KC.out w' (Evo2.SK.trans (Evo2.SK.refl _ _) hg); go_simp <;> with_reducible rfl); simp only [Act.put, List.setIfInBounds_toArray, List.set_cons_zero, List.set_cons_succ]) | (refine Evo2.value ok 5 ?_ (by rfl) (by decide +kernel) (by rfl) ?_ ?_; rotate_left; (intro w' hg; go_simp <;> with_reducible rfl); simp only [Act.put, List.setIfInBounds_toArray, List.set_cons_zero, List.set_cons_succ])
  first | (refine Evo2.value ok 7 ?_ (by rfl) (by decide +kernel) (by rfl) ?_ ?_; rotate_left; (intro w' hg; go_simp <;> with_reducible rfl); simp only [Act.put, List.setIfInBounds_toArray, List.set_cons_zero, List.set_cons_succ])
  first | (refine Evo2.value ok 8 ?_ (by rfl) (by decide +kernel) (by rfl) ?_ ?_; rotate_left; (intro w' hg; obtain ⟨q1, q2, q3, q4, q5, q6, q7, q8, q9, q10, q11, q12, q13, q14, q15⟩ := KC.out w' (Evo2.SK.trans (Evo2.SK.refl _ _) hg); go_simp <;> with_reducible rfl); simp only [Act.put, List.setIfInBounds_toArray, List.set_cons_zero, List.set_cons_succ]) | (refine Evo2.value ok 8 ?_ (by rfl) (by decide +kernel) (by rfl) ?_ ?_; rotate_left; (intro w' hg; go_simp <;> with_reducible rfl); simp only [Act.put, List.setIfInBounds_toArray, List.set_cons_zero, List.set_cons_succ])
  first | (refine Evo2.value ok 10 ?_ (by rfl) (by decide +kernel) (by rfl) ?_ ?_; rotate_left; (intro w' hg; go_simp <;> with_reducible rfl); simp only [Act.put, List.setIfInBounds_toArray, List.set_cons_zero, List.set_cons_succ])
  first | (refine Evo2.value ok 11 ?_ (by rfl) (by decide +kernel) (by rfl) ?_ ?_; rotate_left; (intro w' hg; obtain ⟨q1, q2, q3, q4, q5, q6, q7, q8, q9, q10, q11, q12, q13, q14, q15⟩ := KC.out w' (Evo2.SK.trans (Evo2.SK.refl _ _) hg); go_simp <;> with_reducible rfl); simp only [Act.put, List.setIfInBounds_toArray, List.set_cons_zero, List.set_cons_succ]) | (refine Evo2.value ok 11 ?_ (by rfl) (by decide +kernel) (by rfl) ?_ ?_; rotate_left; (intro w' hg; go_simp <;> with_reducible rfl); simp only [Act.put, List.setIfInBounds_toArray, List.set_cons_zero, List.set_cons_succ])
  refine Evo2.all [3] (by decide +kernel) rfl ?_
  intro wp1 gp1 iq hq
  simp only [List.mem_cons, List.mem_nil_iff, or_false] at hq
  have AP1 := Evo2.SK.trans (Evo2.SK.refl _ _) (Evo2.sk_of gp1)
  have OP1 := own_later OB gp1.1
  have SP1 := Nat.le_trans HB AP1.size
  subst hq
  refine Evo2.enters 46 _ (by rfl) (by rfl) (by go_simp; exact ⟨rfl, rfl⟩) ?_
  refine (rfour_any (w.heap.size + 1) _ [4] n wp1 OP1 SP1 ⟨by decide, by decide⟩ ⟨hn.1, hn.2⟩).mono ?_
  rintro e wc1 ⟨vw1, rfl, OW1, fr1⟩
  have hb1 := fr1.sk OP1 SP1 ⟨_, _, rfl⟩
  have AC1 := Evo2.SK.trans AP1 hb1
  refine ⟨_, rfl, .inr hb1, ?_⟩
  simp only [Act.put, List.setIfInBounds_toArray, List.set_cons_zero, List.set_cons_succ]
  refine Evo2.all [6] (by decide +kernel) rfl ?_
  intro wp2 gp2 iq hq
  simp only [List.mem_cons, List.mem_nil_iff, or_false] at hq
  have AP2 := Evo2.SK.trans AC1 (Evo2.sk_of gp2)
  have OP2 := own_later OW1 gp2.1
  have SP2 := Nat.le_trans HB AP2.size
  subst hq
  refine Evo2.enters 45 _ (by rfl) (by rfl) (by go_simp; exact ⟨rfl, rfl⟩) ?_
  refine (rtext_any (w.heap.size + 1) _ ([4] ++ fourB n) nm wp2 OP2 SP2 ⟨by simp, by simp [fourB]⟩ (by omega)).mono ?_
  rintro e wc2 ⟨vw2, rfl, OW2, fr2⟩
  have hb2 := fr2.sk OP2 SP2 ⟨_, _, rfl⟩
  have AC2 := Evo2.SK.trans AP2 hb2
  refine ⟨_, rfl, .inr hb2, ?_⟩
  simp only [Act.put, List.setIfInBounds_toArray, List.set_cons_zero, List.set_cons_succ]
  refine Evo2.all [9] (by decide +kernel) rfl ?_
  intro wp3 gp3 iq hq
  simp only [List.mem_cons, List.mem_nil_iff, or_false] at hq
  have AP3 := Evo2.SK.trans AC2 (Evo2.sk_of gp3)
  have OP3 := own_later OW2 gp3.1
  have SP3 := Nat.le_trans HB AP3.size
  subst hq
  refine Evo2.enters 45 _ (by rfl) (by rfl) (by go_simp; exact ⟨rfl, rfl⟩) ?_
  refine (rtext_any (w.heap.size + 1) _ ([4] ++ fourB n ++ txtB nm) tg wp3 OP3 SP3 ⟨by simp, by simp [fourB, txtB, oneB, numsOf_len]; omega⟩ (by omega)).mono ?_
  rintro e wc3 ⟨vw3, rfl, OW3, fr3⟩
  have hb3 := fr3.sk OP3 SP3 ⟨_, _, rfl⟩
  have AC3 := Evo2.SK.trans AP3 hb3
  refine ⟨_, rfl, .inr hb3, ?_⟩
  simp only [Act.put, List.setIfInBounds_toArray, List.set_cons_zero, List.set_cons_succ]
  refine Evo2.all [12] (by decide +kernel) rfl ?_
  intro wp4 gp4 iq hq
  simp only [List.mem_cons, List.mem_nil_iff, or_false] at hq
  have AP4 := Evo2.SK.trans AC3 (Evo2.sk_of gp4)
  have OP4 := own_later OW3 gp4.1
  have SP4 := Nat.le_trans HB AP4.size
  subst hq
  refine Evo2.enters 46 _ (by rfl) (by rfl) (by go_simp; exact ⟨rfl, rfl⟩) ?_
  refine (rfour_any (w.heap.size + 1) _ ([4] ++ fourB n ++ txtB nm ++ txtB tg) dr wp4 OP4 SP4 ⟨by simp, by simp [fourB, txtB, oneB, numsOf_len]; omega⟩ ⟨hdr.1, hdr.2⟩).mono ?_
  rintro e wc4 ⟨vw4, rfl, OW4, fr4⟩
  have hb4 := fr4.sk OP4 SP4 ⟨_, _, rfl⟩
  have AC4 := Evo2.SK.trans AP4 hb4
  refine ⟨_, rfl, .inr hb4, ?_⟩
  simp only [Act.put, List.setIfInBounds_toArray, List.set_cons_zero, List.set_cons_succ]
  first | (refine Evo2.value ok 13 ?_ (by rfl) (by decide +kernel) (by rfl) ?_ ?_; rotate_left; (intro w' hg; go_simp <;> with_reducible rfl); simp only [Act.put, List.setIfInBounds_toArray, List.set_cons_zero, List.set_cons_succ])
  refine Evo2.done (by decide +kernel) (fun wz gz => ?_)
  have AZ := Evo2.SK.trans AC4 (Evo2.sk_of gz)
  have OZ := own_later OW4 gz.1
  go_wp2_with fail
  refine bodyPost_ret (v := vw4) (by simp [results, Tryz.results20, go_sem]) rfl ⟨vw4, rfl, own_fin (zs := [4] ++ fourB n ++ txtB nm ++ txtB tg ++ fourB dr) OZ ?_ ?_ (Nat.le_succ _) ?_, Below.trans G0 (Below.mono AZ.1 (Nat.le_succ _))⟩
  · first | rfl | (simp; done) | (simp; omega)
  · first | rfl | (simp; done)
  · rw [BY.out]; first | rfl | (simp [oneB]; done) | (simp [oneB]; omega)

set_option maxHeartbeats 4000000 in
theorem rbytes_5 (e : EvD) (a : Option Addr) (c : Nat) (w : World) (hk : e.chk = 0) (h1 : e.k = 5) (ht : TgtSl w a e.ts) :
    Calls Tryz.prog 20 #[.agg (e.cells a c)] w fun x w' => ∃ v, x = .returned v ∧ OwnB w' w.heap.size v e.bytes ∧ Below w.heap.size w w' := by
  obtain ⟨i0, hi, hz0, hz1, hz2⟩ := info_parts infoB
  have HI := Lib.hid hi; have HZ0 := Lib.hid hz0; have HZ1 := Lib.hid hz1; have HZ2 := Lib.hid hz2
  have HT := Lib.hid ht
  obtain ⟨-, -, -, -, hbo⟩ := chk_ok hk
  obtain ⟨k, nm, tg, n, dr, ⟨cn, im, co, mn, mx, gr⟩, rn, rc, ts, rr⟩ := e
  simp only at h1
  subst h1
  unfold n4 n1 at hbo
  dsimp only at hbo
  rw [if_neg (by decide : ¬ (5 : Int) = 1), if_neg (by decide : ¬ (5 : Int) = 2), if_neg (by decide : ¬ (5 : Int) = 3), if_neg (by decide : ¬ (5 : Int) = 4), if_pos (by decide : 5 ≤ (5 : Int) ∧ (5 : Int) ≤ 8)] at hbo
  have hn := hbo
  have BY : Hid (EvD.bytes ⟨5, nm, tg, n, dr, ⟨cn, im, co, mn, mx, gr⟩, rn, rc, ts, rr⟩ = oneB 5 ++ bodyB 5 ⟨5, nm, tg, n, dr, ⟨cn, im, co, mn, mx, gr⟩, rn, rc, ts, rr⟩) := Lib.hid rfl
  unfold bodyB at BY
  dsimp only at BY
  rw [if_neg (by decide : ¬ (5 : Int) = 1), if_neg (by decide : ¬ (5 : Int) = 2), if_neg (by decide : ¬ (5 : Int) = 3), if_neg (by decide : ¬ (5 : Int) = 4), if_pos (by decide : 5 ≤ (5 : Int) ∧ (5 : Int) ≤ 8)] at BY
  clear hi hz0 hz1 hz2 hk ht
  unfold EvD.cells
  simp only
  go_enter Tryz.func20, Tryz.ntmps20
  go_wp2_with fail
  obtain ⟨W0, hW⟩ : ∃ W0, W0 = (w.alloc (.cells #[.int .i64 5, .string nm, .string tg, .int .i64 n, .int .i64 dr, .string cn, .int .i64 im, .int .i64 co, .int .i64 mn, .int .i64 mx, .int .i64 gr, .string rn, .string rc, .slice a ts.length c, .int .i64 rr] 28)).alloc (.cells #[.int .u8 5] 5) := ⟨_, rfl⟩
  rw [← hW]
  have OB : OwnB W0 (w.heap.size + 1) (.slice (some ⟨w.heap.size + 1, 0, none⟩) 1 1) [5] := by
    have := own_one (w.alloc (.cells #[.int .i64 5, .string nm, .string tg, .int .i64 n, .int .i64 dr, .string cn, .int .i64 im, .int .i64 co, .int .i64 mn, .int .i64 mx, .int .i64 gr, .string rn, .string rc, .slice a ts.length c, .int .i64 rr] 28)) 5 (.int .u8 5) (w.heap.size + 1) (by simp)
    rw [hW]
    simpa [OwnB] using this
  have EB : EvBox W0 w.heap.size #[.int .i64 5, .string nm, .string tg, .int .i64 n, .int .i64 dr, .string cn, .int .i64 im, .int .i64 co, .int .i64 mn, .int .i64 mx, .int .i64 gr, .string rn, .string rc, .slice a ts.length c, .int .i64 rr] := ⟨fun i => by rw [hW, World.cell?_alloc_old _ _ _ (by simp)]; exact World.cell?_alloc_new _ _ _ _⟩
  have HB : w.heap.size + 1 ≤ W0.heap.size := by rw [hW]; simp
  have G0 : Grow.G w W0 := by rw [hW]; exact Grow.G.alloc (Grow.G.alloc (Grow.G.refl _) _) _
  clear hW
  have NBX : ∃ x, (#[.int .i64 5, .string nm, .string tg, .int .i64 n, .int .i64 dr, .string cn, .int .i64 im, .int .i64 co, .int .i64 mn, .int .i64 mx, .int .i64 gr, .string rn, .string rc, .slice a ts.length c, .int .i64 rr] : Array Value)[0]? = some x ∧ ∀ z, x ≠ .int .u8 z := ⟨_, rfl, fun z e => by cases e⟩
  have KC := Lib.hid (fun (w' : World) (h : Evo2.SK (w.heap.size + 1) W0 w') => (⟨(EB.later NBX h).cell 0, (EB.later NBX h).cell 1, (EB.later NBX h).cell 2, (EB.later NBX h).cell 3, (EB.later NBX h).cell 4, (EB.later NBX h).cell 5, (EB.later NBX h).cell 6, (EB.later NBX h).cell 7, (EB.later NBX h).cell 8, (EB.later NBX h).cell 9, (EB.later NBX h).cell 10, (EB.later NBX h).cell 11, (EB.later NBX h).cell 12, (EB.later NBX h).cell 13, (EB.later NBX h).cell 14⟩ : w'.cell? ⟨w.heap.size, 0, none⟩ = some (.int .i64 5) ∧ w'.cell? ⟨w.heap.size, 1, none⟩ = some (.string nm) ∧ w'.cell? ⟨w.heap.size, 2, none⟩ = some (.string tg) ∧ w'.cell? ⟨w.heap.size, 3, none⟩ = some (.int .i64 n) ∧ w'.cell? ⟨w.heap.size, 4, none⟩ = some (.int .i64 dr) ∧ w'.cell? ⟨w.heap.size, 5, none⟩ = some (.string cn) ∧ w'.cell? ⟨w.heap.size, 6, none⟩ = some (.int .i64 im) ∧ w'.cell? ⟨w.heap.size, 7, none⟩ = some (.int .i64 co) ∧ w'.cell? ⟨w.heap.size, 8, none⟩ = some (.int .i64 mn) ∧ w'.cell? ⟨w.heap.size, 9, none⟩ = some (.int .i64 mx) ∧ w'.cell? ⟨w.heap.size, 10, none⟩ = some (.int .i64 gr) ∧ w'.cell? ⟨w.heap.size, 11, none⟩ = some (.string rn) ∧ w'.cell? ⟨w.heap.size, 12, none⟩ = some (.string rc) ∧ w'.cell? ⟨w.heap.size, 13, none⟩ = some (.slice a ts.length c) ∧ w'.cell? ⟨w.heap.size, 14, none⟩ = some (.int .i64 rr)))
  obtain ⟨q1, q2, q3, q4, q5, q6, q7, q8, q9, q10, q11, q12, q13, q14, q15⟩ := KC.out W0 (Evo2.SK.refl _ _)
  refine (rfour_any (w.heap.size + 1) _ [5] n _ OB HB ⟨by decide, by decide⟩ ⟨hn.1, hn.2⟩).mono ?_
  rintro e wz ⟨vw, rfl, OZ, fr⟩
  have AZ := fr.sk OB HB ⟨_, _, rfl⟩
  go_wp2_with fail
  refine bodyPost_ret (v := vw) (by simp [results, Tryz.results20, go_sem]) rfl ⟨vw, rfl, own_fin (zs := [5] ++ fourB n) OZ ?_ ?_ (Nat.le_succ _) ?_, Below.trans G0 (Below.mono AZ.1 (Nat.le_succ _))⟩
  · first | rfl | (simp; done) | (simp; omega)
  · first | rfl | (simp; done)
  · rw [BY.out]; first | rfl | (simp [oneB]; done) | (simp [oneB]; omega)

set_option maxHeartbeats 4000000 in
theorem rbytes_6 (e : EvD) (a : Option Addr) (c : Nat) (w : World) (hk : e.chk = 0) (h1 : e.k = 6) (ht : TgtSl w a e.ts) :
    Calls Tryz.prog 20 #[.agg (e.cells a c)] w fun x w' => ∃ v, x = .returned v ∧ OwnB w' w.heap.size v e.bytes ∧ Below w.heap.size w w' := by
  obtain ⟨i0, hi, hz0, hz1, hz2⟩ := info_parts infoB
  have HI := Lib.hid hi; have HZ0 := Lib.hid hz0; have HZ1 := Lib.hid hz1; have HZ2 := Lib.hid hz2
  have HT := Lib.hid ht
  obtain ⟨-, -, -, -, hbo⟩ := chk_ok hk
  obtain ⟨k, nm, tg, n, dr, ⟨cn, im, co, mn, mx, gr⟩, rn, rc, ts, rr⟩ := e
  simp only at h1
  subst h1
  unfold n4 n1 at hbo
  dsimp only at hbo
  rw [if_neg (by decide : ¬ (6 : Int) = 1), if_neg (by decide : ¬ (6 : Int) = 2), if_neg (by decide : ¬ (6 : Int) = 3), if_neg (by decide : ¬ (6 : Int) = 4), if_pos (by decide : 5 ≤ (6 : Int) ∧ (6 : Int) ≤ 8)] at hbo
  have hn := hbo
  have BY : Hid (EvD.bytes ⟨6, nm, tg, n, dr, ⟨cn, im, co, mn, mx, gr⟩, rn, rc, ts, rr⟩ = oneB 6 ++ bodyB 6 ⟨6, nm, tg, n, dr, ⟨cn, im, co, mn, mx, gr⟩, rn, rc, ts, rr⟩) := Lib.hid rfl
  unfold bodyB at BY
  dsimp only at BY
  rw [if_neg (by decide : ¬ (6 : Int) = 1), if_neg (by decide : ¬ (6 : Int) = 2), if_neg (by decide : ¬ (6 : Int) = 3), if_neg (by decide : ¬ (6 : Int) = 4), if_pos (by decide : 5 ≤ (6 : Int) ∧ (6 : Int) ≤ 8)] at BY
  clear hi hz0 hz1 hz2 hk ht
  unfold EvD.cells
  simp only
  go_enter Tryz.func20, Tryz.ntmps20
  go_wp2_with fail
  obtain ⟨W0, hW⟩ : ∃ W0, W0 = (w.alloc (.cells #[.int .i64 6, .string nm, .string tg, .int .i64 n, .int .i64 dr, .string cn, .int .i64 im, .int .i64 co, .int .i64 mn, .int .i64 mx, .int .i64 gr, .string rn, .string rc, .slice a ts.length c, .int .i64 rr] 28)).alloc (.cells #[.int .u8 6] 5) := ⟨_, rfl⟩
  rw [← hW]
  have OB : OwnB W0 (w.heap.size + 1) (.slice (some ⟨w.heap.size + 1, 0, none⟩) 1 1) [6] := by
    have := own_one (w.alloc (.cells #[.int .i64 6, .string nm, .string tg, .int .i64 n, .int .i64 dr, .string cn, .int .i64 im, .int .i64 co, .int .i64 mn, .int .i64 mx, .int .i64 gr, .string rn, .string rc, .slice a ts.length c, .int .i64 rr] 28)) 5 (.int .u8 6) (w.heap.size + 1) (by simp)
    rw [hW]
    simpa [OwnB] using this
  have EB : EvBox W0 w.heap.size #[.int .i64 6, .string nm, .string tg, .int .i64 n, .int .i64 dr, .string cn, .int .i64 im, .int .i64 co, .int .i64 mn, .int .i64 mx, .int .i64 gr, .string rn, .string rc, .slice a ts.length c, .int .i64 rr] := ⟨fun i => by rw [hW, World.cell?_alloc_old _ _ _ (by simp)]; exact World.cell?_alloc_new _ _ _ _⟩
  have HB : w.heap.size + 1 ≤ W0.heap.size := by rw [hW]; simp
  have G0 : Grow.G w W0 := by rw [hW]; exact Grow.G.alloc (Grow.G.alloc (Grow.G.refl _) _) _
  clear hW
  have NBX : ∃ x, (#[.int .i64 6, .string nm, .string tg, .int .i64 n, .int .i64 dr, .string cn, .int .i64 im, .int .i64 co, .int .i64 mn, .int .i64 mx, .int .i64 gr, .string rn, .string rc, .slice a ts.length c, .int .i64 rr] : Array Value)[0]? = some x ∧ ∀ z, x ≠ .int .u8 z := ⟨_, rfl, fun z e => by cases e⟩
  have KC := Lib.hid (fun (w' : World) (h : Evo2.SK (w.heap.size + 1) W0 w') => (⟨(EB.later NBX h).cell 0, (EB.later NBX h).cell 1, (EB.later NBX h).cell 2, (EB.later NBX h).cell 3, (EB.later NBX h).cell 4, (EB.later NBX h).cell 5, (EB.later NBX h).cell 6, (EB.later NBX h).cell 7, (EB.later NBX h).cell 8, (EB.later NBX h).cell 9, (EB.later NBX h).cell 10, (EB.later NBX h).cell 11, (EB.later NBX h).cell 12, (EB.later NBX h).cell 13, (EB.later NBX h).cell 14⟩ : w'.cell? ⟨w.heap.size, 0, none⟩ = some (.int .i64 6) ∧ w'.cell? ⟨w.heap.size, 1, none⟩ = some (.string nm) ∧ w'.cell? ⟨w.heap.size, 2, none⟩ = some (.string tg) ∧ w'.cell? ⟨w.heap.size, 3, none⟩ = some (.int .i64 n) ∧ w'.cell? ⟨w.heap.size, 4, none⟩ = some (.int .i64 dr) ∧ w'.cell? ⟨w.heap.size, 5, none⟩ = some (.string cn) ∧ w'.cell? ⟨w.heap.size, 6, none⟩ = some (.int .i64 im) ∧ w'.cell? ⟨w.heap.size, 7, none⟩ = some (.int .i64 co) ∧ w'.cell? ⟨w.heap.size, 8, none⟩ = some (.int .i64 mn) ∧ w'.cell? ⟨w.heap.size, 9, none⟩ = some (.int .i64 mx) ∧ w'.cell? ⟨w.heap.size, 10, none⟩ = some (.int .i64 gr) ∧ w'.cell? ⟨w.heap.size, 11, none⟩ = some (.string rn) ∧ w'.cell? ⟨w.heap.size, 12, none⟩ = some (.string rc) ∧ w'.cell? ⟨w.heap.size, 13, none⟩ = some (.slice a ts.length c) ∧ w'.cell? ⟨w.heap.size, 14, none⟩ = some (.int .i64 rr)))
  obtain ⟨q1, q2, q3, q4, q5, q6, q7, q8, q9, q10, q11, q12, q13, q14, q15⟩ := KC.out W0 (Evo2.SK.refl _ _)
  refine (rfour_any (w.heap.size + 1) _ [6] n _ OB HB ⟨by decide, by decide⟩ ⟨hn.1, hn.2⟩).mono ?_
  rintro e wz ⟨vw, rfl, OZ, fr⟩
  have AZ := fr.sk OB HB ⟨_, _, rfl⟩
  go_wp2_with fail
  refine bodyPost_ret (v := vw) (by simp [results, Tryz.results20, go_sem]) rfl ⟨vw, rfl, own_fin (zs := [6] ++ fourB n) OZ ?_ ?_ (Nat.le_succ _) ?_, Below.trans G0 (Below.mono AZ.1 (Nat.le_succ _))⟩
  · first | rfl | (simp; done) | (simp; omega)
  · first | rfl | (simp; done)
  · rw [BY.out]; first | rfl | (simp [oneB]; done) | (simp [oneB]; omega)

set_option maxHeartbeats 4000000 in
theorem rbytes_7 (e : EvD) (a : Option Addr) (c : Nat) (w : World) (hk : e.chk = 0) (h1 : e.k = 7) (ht : TgtSl w a e.ts) :
    Calls Tryz.prog 20 #[.agg (e.cells a c)] w fun x w' => ∃ v, x = .returned v ∧ OwnB w' w.heap.size v e.bytes ∧ Below w.heap.size w w' := by
  obtain ⟨i0, hi, hz0, hz1, hz2⟩ := info_parts infoB
  have HI := Lib.hid hi; have HZ0 := Lib.hid hz0; have HZ1 := Lib.hid hz1; have HZ2 := Lib.hid hz2
  have HT := Lib.hid ht
  obtain ⟨-, -, -, -, hbo⟩ := chk_ok hk
  obtain ⟨k, nm, tg, n, dr, ⟨cn, im, co, mn, mx, gr⟩, rn, rc, ts, rr⟩ := e
  simp only at h1
  subst h1
  unfold n4 n1 at hbo
  dsimp only at hbo
  rw [if_neg (by decide : ¬ (7 : Int) = 1), if_neg (by decide : ¬ (7 : Int) = 2), if_neg (by decide : ¬ (7 : Int) = 3), if_neg (by decide : ¬ (7 : Int) = 4), if_pos (by decide : 5 ≤ (7 : Int) ∧ (7 : Int) ≤ 8)] at hbo
  have hn := hbo
  have BY : Hid (EvD.bytes ⟨7, nm, tg, n, dr, ⟨cn, im, co, mn, mx, gr⟩, rn, rc, ts, rr⟩ = oneB 7 ++ bodyB 7 ⟨7, nm, tg, n, dr, ⟨cn, im, co, mn, mx, gr⟩, rn, rc, ts, rr⟩) := Lib.hid rfl
  unfold bodyB at BY
  dsimp only at BY
  rw [if_neg (by decide : ¬ (7 : Int) = 1), if_neg (by decide : ¬ (7 : Int) = 2), if_neg (by decide : ¬ (7 : Int) = 3), if_neg (by decide : ¬ (7 : Int) = 4), if_pos (by decide : 5 ≤ (7 : Int) ∧ (7 : Int) ≤ 8)] at BY
  clear hi hz0 hz1 hz2 hk ht
  unfold EvD.cells
  simp only
  go_enter Tryz.func20, Tryz.ntmps20
  go_wp2_with fail
  obtain ⟨W0, hW⟩ : ∃ W0, W0 = (w.alloc (.cells #[.int .i64 7, .string nm, .string tg, .int .i64 n, .int .i64 dr, .string cn, .int .i64 im, .int .i64 co, .int .i64 mn, .int .i64 mx, .int .i64 gr, .string rn, .string rc, .slice a ts.length c, .int .i64 rr] 28)).alloc (.cells #[.int .u8 7] 5) := ⟨_, rfl⟩
  rw [← hW]
  have OB : OwnB W0 (w.heap.size + 1) (.slice (some ⟨w.heap.size + 1, 0, none⟩) 1 1) [7] := by
    have := own_one (w.alloc (.cells #[.int .i64 7, .string nm, .string tg, .int .i64 n, .int .i64 dr, .string cn, .int .i64 im, .int .i64 co, .int .i64 mn, .int .i64 mx, .int .i64 gr, .string rn, .string rc, .slice a ts.length c, .int .i64 rr] 28)) 5 (.int .u8 7) (w.heap.size + 1) (by simp)
    rw [hW]
    simpa [OwnB] using this
  have EB : EvBox W0 w.heap.size #[.int .i64 7, .string nm, .string tg, .int .i64 n, .int .i64 dr, .string cn, .int .i64 im, .int .i64 co, .int .i64 mn, .int .i64 mx, .int .i64 gr, .string rn, .string rc, .slice a ts.length c, .int .i64 rr] := ⟨fun i => by rw [hW, World.cell?_alloc_old _ _ _ (by simp)]; exact World.cell?_alloc_new _ _ _ _⟩
  have HB : w.heap.size + 1 ≤ W0.heap.size := by rw [hW]; simp
  have G0 : Grow.G w W0 := by rw [hW]; exact Grow.G.alloc (Grow.G.alloc (Grow.G.refl _) _) _
  clear hW
  have NBX : ∃ x, (#[.int .i64 7, .string nm, .string tg, .int .i64 n, .int .i64 dr, .string cn, .int .i64 im, .int .i64 co, .int .i64 mn, .int .i64 mx, .int .i64 gr, .string rn, .string rc, .slice a ts.length c, .int .i64 rr] : Array Value)[0]? = some x ∧ ∀ z, x ≠ .int .u8 z := ⟨_, rfl, fun z e => by cases e⟩
  have KC := Lib.hid (fun (w' : World) (h : Evo2.SK (w.heap.size + 1) W0 w') => (⟨(EB.later NBX h).cell 0, (EB.later NBX h).cell 1, (EB.later NBX h).cell 2, (EB.later NBX h).cell 3, (EB.later NBX h).cell 4, (EB.later NBX h).cell 5, (EB.later NBX h).cell 6, (EB.later NBX h).cell 7, (EB.later NBX h).cell 8, (EB.later NBX h).cell 9, (EB.later NBX h).cell 10, (EB.later NBX h).cell 11, (EB.later NBX h).cell 12, (EB.later NBX h).cell 13, (EB.later NBX h).cell 14⟩ : w'.cell? ⟨w.heap.size, 0, none⟩ = some (.int .i64 7) ∧ w'.cell? ⟨w.heap.size, 1, none⟩ = some (.string nm) ∧ w'.cell? ⟨w.heap.size, 2, none⟩ = some (.string tg) ∧ w'.cell? ⟨w.heap.size, 3, none⟩ = some (.int .i64 n) ∧ w'.cell? ⟨w.heap.size, 4, none⟩ = some (.int .i64 dr) ∧ w'.cell? ⟨w.heap.size, 5, none⟩ = some (.string cn) ∧ w'.cell? ⟨w.heap.size, 6, none⟩ = some (.int .i64 im) ∧ w'.cell? ⟨w.heap.size, 7, none⟩ = some (.int .i64 co) ∧ w'.cell? ⟨w.heap.size, 8, none⟩ = some (.int .i64 mn) ∧ w'.cell? ⟨w.heap.size, 9, none⟩ = some (.int .i64 mx) ∧ w'.cell? ⟨w.heap.size, 10, none⟩ = some (.int .i64 gr) ∧ w'.cell? ⟨w.heap.size, 11, none⟩ = some (.string rn) ∧ w'.cell? ⟨w.heap.size, 12, none⟩ = some (.string rc) ∧ w'.cell? ⟨w.heap.size, 13, none⟩ = some (.slice a ts.length c) ∧ w'.cell? ⟨w.heap.size, 14, none⟩ = some (.int .i64 rr)))
  obtain ⟨q1, q2, q3, q4, q5, q6, q7, q8, q9, q10, q11, q12, q13, q14, q15⟩ := KC.out W0 (Evo2.SK.refl _ _)
  refine (rfour_any (w.heap.size + 1) _ [7] n _ OB HB ⟨by decide, by decide⟩ ⟨hn.1, hn.2⟩).mono ?_
  rintro e wz ⟨vw, rfl, OZ, fr⟩
  have AZ := fr.sk OB HB ⟨_, _, rfl⟩
  go_wp2_with fail
  refine bodyPost_ret (v := vw) (by simp [results, Tryz.results20, go_sem]) rfl ⟨vw, rfl, own_fin (zs := [7] ++ fourB n) OZ ?_ ?_ (Nat.le_succ _) ?_, Below.trans G0 (Below.mono AZ.1 (Nat.le_succ _))⟩
  · first | rfl | (simp; done) | (simp; omega)
  · first | rfl | (simp; done)
  · rw [BY.out]; first | rfl | (simp [oneB]; done) | (simp [oneB]; omega)

set_option maxHeartbeats 4000000 in
theorem rbytes_8 (e : EvD) (a : Option Addr) (c : Nat) (w : World) (hk : e.chk = 0) (h1 : e.k = 8) (ht : TgtSl w a e.ts) :
    Calls Tryz.prog 20 #[.agg (e.cells a c)] w fun x w' => ∃ v, x = .returned v ∧ OwnB w' w.heap.size v e.bytes ∧ Below w.heap.size w w' := by
  obtain ⟨i0, hi, hz0, hz1, hz2⟩ := info_parts infoB
  have HI := Lib.hid hi; have HZ0 := Lib.hid hz0; have HZ1 := Lib.hid hz1; have HZ2 := Lib.hid hz2
  have HT := Lib.hid ht
  obtain ⟨-, -, -, -, hbo⟩ := chk_ok hk
  obtain ⟨k, nm, tg, n, dr, ⟨cn, im, co, mn, mx, gr⟩, rn, rc, ts, rr⟩ := e
  simp only at h1
  subst h1
  unfold n4 n1 at hbo
  dsimp only at hbo
  rw [if_neg (by decide : ¬ (8 : Int) = 1), if_neg (by decide : ¬ (8 : Int) = 2), if_neg (by decide : ¬ (8 : Int) = 3), if_neg (by decide : ¬ (8 : Int) = 4), if_pos (by decide : 5 ≤ (8 : Int) ∧ (8 : Int) ≤ 8)] at hbo
  have hn := hbo
  have BY : Hid (EvD.bytes ⟨8, nm, tg, n, dr, ⟨cn, im, co, mn, mx, gr⟩, rn, rc, ts, rr⟩ = oneB 8 ++ bodyB 8 ⟨8, nm, tg, n, dr, ⟨cn, im, co, mn, mx, gr⟩, rn, rc, ts, rr⟩) := Lib.hid rfl
  unfold bodyB at BY
  dsimp only at BY
  rw [if_neg (by decide : ¬ (8 : Int) = 1), if_neg (by decide : ¬ (8 : Int) = 2), if_neg (by decide : ¬ (8 : Int) = 3), if_neg (by decide : ¬ (8 : Int) = 4), if_pos (by decide : 5 ≤ (8 : Int) ∧ (8 : Int) ≤ 8)] at BY
  clear hi hz0 hz1 hz2 hk ht
  unfold EvD.cells
  simp only
  go_enter Tryz.func20, Tryz.ntmps20
  go_wp2_with fail
  obtain ⟨W0, hW⟩ : ∃ W0, W0 = (w.alloc (.cells #[.int .i64 8, .string nm, .string tg, .int .i64 n, .int .i64 dr, .string cn, .int .i64 im, .int .i64 co, .int .i64 mn, .int .i64 mx, .int .i64 gr, .string rn, .string rc, .slice a ts.length c, .int .i64 rr] 28)).alloc (.cells #[.int .u8 8] 5) := ⟨_, rfl⟩
  rw [← hW]
  have OB : OwnB W0 (w.heap.size + 1) (.slice (some ⟨w.heap.size + 1, 0, none⟩) 1 1) [8] := by
    have := own_one (w.alloc (.cells #[.int .i64 8, .string nm, .string tg, .int .i64 n, .int .i64 dr, .string cn, .int .i64 im, .int .i64 co, .int .i64 mn, .int .i64 mx, .int .i64 gr, .string rn, .string rc, .slice a ts.length c, .int .i64 rr] 28)) 5 (.int .u8 8) (w.heap.size + 1) (by simp)
    rw [hW]
    simpa [OwnB] using this
  have EB : EvBox W0 w.heap.size #[.int .i64 8, .string nm, .string tg, .int .i64 n, .int .i64 dr, .string cn, .int .i64 im, .int .i64 co, .int .i64 mn, .int .i64 mx, .int .i64 gr, .string rn, .string rc, .slice a ts.length c, .int .i64 rr] := ⟨fun i => by rw [hW, World.cell?_alloc_old _ _ _ (by simp)]; exact World.cell?_alloc_new _ _ _ _⟩
  have HB : w.heap.size + 1 ≤ W0.heap.size := by rw [hW]; simp
  have G0 : Grow.G w W0 := by rw [hW]; exact Grow.G.alloc (Grow.G.alloc (Grow.G.refl _) _) _
  clear hW
  have NBX : ∃ x, (#[.int .i64 8, .string nm, .string tg, .int .i64 n, .int .i64 dr, .string cn, .int .i64 im, .int .i64 co, .int .i64 mn, .int .i64 mx, .int .i64 gr, .string rn, .string rc, .slice a ts.length c, .int .i64 rr] : Array Value)[0]? = some x ∧ ∀ z, x ≠ .int .u8 z := ⟨_, rfl, fun z e => by cases e⟩
  have KC := Lib.hid (fun (w' : World) (h : Evo2.SK (w.heap.size + 1) W0 w') => (⟨(EB.later NBX h).cell 0, (EB.later NBX h).cell 1, (EB.later NBX h).cell 2, (EB.later NBX h).cell 3, (EB.later NBX h).cell 4, (EB.later NBX h).cell 5, (EB.later NBX h).cell 6, (EB.later NBX h).cell 7, (EB.later NBX h).cell 8, (EB.later NBX h).cell 9, (EB.later NBX h).cell 10, (EB.later NBX h).cell 11, (EB.later NBX h).cell 12, (EB.later NBX h).cell 13, (EB.later NBX h).cell 14⟩ : w'.cell? ⟨w.heap.size, 0, none⟩ = some (.int .i64 8) ∧ w'.cell? ⟨w.heap.size, 1, none⟩ = some (.string nm) ∧ w'.cell? ⟨w.heap.size, 2, none⟩ = some (.string tg) ∧ w'.cell? ⟨w.heap.size, 3, none⟩ = some (.int .i64 n) ∧ w'.cell? ⟨w.heap.size, 4, none⟩ = some (.int .i64 dr) ∧ w'.cell? ⟨w.heap.size, 5, none⟩ = some (.string cn) ∧ w'.cell? ⟨w.heap.size, 6, none⟩ = some (.int .i64 im) ∧ w'.cell? ⟨w.heap.size, 7, none⟩ = some (.int .i64 co) ∧ w'.cell? ⟨w.heap.size, 8, none⟩ = some (.int .i64 mn) ∧ w'.cell? ⟨w.heap.size, 9, none⟩ = some (.int .i64 mx) ∧ w'.cell? ⟨w.heap.size, 10, none⟩ = some (.int .i64 gr) ∧ w'.cell? ⟨w.heap.size, 11, none⟩ = some (.string rn) ∧ w'.cell? ⟨w.heap.size, 12, none⟩ = some (.string rc) ∧ w'.cell? ⟨w.heap.size, 13, none⟩ = some (.slice a ts.length c) ∧ w'.cell? ⟨w.heap.size, 14, none⟩ = some (.int .i64 rr)))
  obtain ⟨q1, q2, q3, q4, q5, q6, q7, q8, q9, q10, q11, q12, q13, q14, q15⟩ := KC.out W0 (Evo2.SK.refl _ _)
  refine (rfour_any (w.heap.size + 1) _ [8] n _ OB HB ⟨by decide, by decide⟩ ⟨hn.1, hn.2⟩).mono ?_
  rintro e wz ⟨vw, rfl, OZ, fr⟩
  have AZ := fr.sk OB HB ⟨_, _, rfl⟩
  go_wp2_with fail
  refine bodyPost_ret (v := vw) (by simp [results, Tryz.results20, go_sem]) rfl ⟨vw, rfl, own_fin (zs := [8] ++ fourB n) OZ ?_ ?_ (Nat.le_succ _) ?_, Below.trans G0 (Below.mono AZ.1 (Nat.le_succ _))⟩
  · first | rfl | (simp; done) | (simp; omega)
  · first | rfl | (simp; done)
  · rw [BY.out]; first | rfl | (simp [oneB]; done) | (simp [oneB]; omega)

set_option maxHeartbeats 4000000 in
theorem rbytes_10 (e : EvD) (a : Option Addr) (c : Nat) (w : World) (hk : e.chk = 0) (h1 : e.k = 10) (ht : TgtSl w a e.ts) :
    Calls Tryz.prog 20 #[.agg (e.cells a c)] w fun x w' => ∃ v, x = .returned v ∧ OwnB w' w.heap.size v e.bytes ∧ Below w.heap.size w w' := by
  obtain ⟨i0, hi, hz0, hz1, hz2⟩ := info_parts infoB
  have HI := Lib.hid hi; have HZ0 := Lib.hid hz0; have HZ1 := Lib.hid hz1; have HZ2 := Lib.hid hz2
  have HT := Lib.hid ht
  obtain ⟨-, -, -, -, hbo⟩ := chk_ok hk
  obtain ⟨k, nm, tg, n, dr, ⟨cn, im, co, mn, mx, gr⟩, rn, rc, ts, rr⟩ := e
  simp only at h1
  subst h1
  unfold n4 n1 at hbo
  dsimp only at hbo
  rw [if_neg (by decide : ¬ (10 : Int) = 1), if_neg (by decide : ¬ (10 : Int) = 2), if_neg (by decide : ¬ (10 : Int) = 3), if_neg (by decide : ¬ (10 : Int) = 4), if_neg (by decide : ¬ (5 ≤ (10 : Int) ∧ (10 : Int) ≤ 8)), if_pos (by decide : 10 ≤ (10 : Int) ∧ (10 : Int) ≤ 13)] at hbo
  have hnm := hbo
  have BY : Hid (EvD.bytes ⟨10, nm, tg, n, dr, ⟨cn, im, co, mn, mx, gr⟩, rn, rc, ts, rr⟩ = oneB 10 ++ bodyB 10 ⟨10, nm, tg, n, dr, ⟨cn, im, co, mn, mx, gr⟩, rn, rc, ts, rr⟩) := Lib.hid rfl
  unfold bodyB at BY
  dsimp only at BY
  rw [if_neg (by decide : ¬ (10 : Int) = 1), if_neg (by decide : ¬ (10 : Int) = 2), if_neg (by decide : ¬ (10 : Int) = 3), if_neg (by decide : ¬ (10 : Int) = 4), if_neg (by decide : ¬ (5 ≤ (10 : Int) ∧ (10 : Int) ≤ 8)), if_pos (by decide : 10 ≤ (10 : Int) ∧ (10 : Int) ≤ 13)] at BY
  clear hi hz0 hz1 hz2 hk ht
  unfold EvD.cells
  simp only
  go_enter Tryz.func20, Tryz.ntmps20
  go_wp2_with fail
  obtain ⟨W0, hW⟩ : ∃ W0, W0 = (w.alloc (.cells #[.int .i64 10, .string nm, .string tg, .int .i64 n, .int .i64 dr, .string cn, .int .i64 im, .int .i64 co, .int .i64 mn, .int .i64 mx, .int .i64 gr, .string rn, .string rc, .slice a ts.length c, .int .i64 rr] 28)).alloc (.cells #[.int .u8 10] 5) := ⟨_, rfl⟩
  rw [← hW]
  have OB : OwnB W0 (w.heap.size + 1) (.slice (some ⟨w.heap.size + 1, 0, none⟩) 1 1) [10] := by
    have := own_one (w.alloc (.cells #[.int .i64 10, .string nm, .string tg, .int .i64 n, .int .i64 dr, .string cn, .int .i64 im, .int .i64 co, .int .i64 mn, .int .i64 mx, .int .i64 gr, .string rn, .string rc, .slice a ts.length c, .int .i64 rr] 28)) 5 (.int .u8 10) (w.heap.size + 1) (by simp)
    rw [hW]
    simpa [OwnB] using this
  have EB : EvBox W0 w.heap.size #[.int .i64 10, .string nm, .string tg, .int .i64 n, .int .i64 dr, .string cn, .int .i64 im, .int .i64 co, .int .i64 mn, .int .i64 mx, .int .i64 gr, .string rn, .string rc, .slice a ts.length c, .int .i64 rr] := ⟨fun i => by rw [hW, World.cell?_alloc_old _ _ _ (by simp)]; exact World.cell?_alloc_new _ _ _ _⟩
  have HB : w.heap.size + 1 ≤ W0.heap.size := by rw [hW]; simp
  have G0 : Grow.G w W0 := by rw [hW]; exact Grow.G.alloc (Grow.G.alloc (Grow.G.refl _) _) _
  clear hW
  have NBX : ∃ x, (#[.int .i64 10, .string nm, .string tg, .int .i64 n, .int .i64 dr, .string cn, .int .i64 im, .int .i64 co, .int .i64 mn, .int .i64 mx, .int .i64 gr, .string rn, .string rc, .slice a ts.length c, .int .i64 rr] : Array Value)[0]? = some x ∧ ∀ z, x ≠ .int .u8 z := ⟨_, rfl, fun z e => by cases e⟩
  have KC := Lib.hid (fun (w' : World) (h : Evo2.SK (w.heap.size + 1) W0 w') => (⟨(EB.later NBX h).cell 0, (EB.later NBX h).cell 1, (EB.later NBX h).cell 2, (EB.later NBX h).cell 3, (EB.later NBX h).cell 4, (EB.later NBX h).cell 5, (EB.later NBX h).cell 6, (EB.later NBX h).cell 7, (EB.later NBX h).cell 8, (EB.later NBX h).cell 9, (EB.later NBX h).cell 10, (EB.later NBX h).cell 11, (EB.later NBX h).cell 12, (EB.later NBX h).cell 13, (EB.later NBX h).cell 14⟩ : w'.cell? ⟨w.heap.size, 0, none⟩ = some (.int .i64 10) ∧ w'.cell? ⟨w.heap.size, 1, none⟩ = some (.string nm) ∧ w'.cell? ⟨w.heap.size, 2, none⟩ = some (.string tg) ∧ w'.cell? ⟨w.heap.size, 3, none⟩ = some (.int .i64 n) ∧ w'.cell? ⟨w.heap.size, 4, none⟩ = some (.int .i64 dr) ∧ w'.cell? ⟨w.heap.size, 5, none⟩ = some (.string cn) ∧ w'.cell? ⟨w.heap.size, 6, none⟩ = some (.int .i64 im) ∧ w'.cell? ⟨w.heap.size, 7, none⟩ = some (.int .i64 co) ∧ w'.cell? ⟨w.heap.size, 8, none⟩ = some (.int .i64 mn) ∧ w'.cell? ⟨w.heap.size, 9, none⟩ = some (.int .i64 mx) ∧ w'.cell? ⟨w.heap.size, 10, none⟩ = some (.int .i64 gr) ∧ w'.cell? ⟨w.heap.size, 11, none⟩ = some (.string rn) ∧ w'.cell? ⟨w.heap.size, 12, none⟩ = some (.string rc) ∧ w'.cell? ⟨w.heap.size, 13, none⟩ = some (.slice a ts.length c) ∧ w'.cell? ⟨w.heap.size, 14, none⟩ = some (.int .i64 rr)))
  refine (rtext_any (w.heap.size + 1) _ [10] nm _ OB HB ⟨by decide, by decide⟩ (by omega)).mono ?_
  rintro e wz ⟨vw, rfl, OZ, fr⟩
  have AZ := fr.sk OB HB ⟨_, _, rfl⟩
  go_wp2_with fail
  refine bodyPost_ret (v := vw) (by simp [results, Tryz.results20, go_sem]) rfl ⟨vw, rfl, own_fin (zs := [10] ++ txtB nm) OZ ?_ ?_ (Nat.le_succ _) ?_, Below.trans G0 (Below.mono AZ.1 (Nat.le_succ _))⟩
  · first | rfl | (simp; done) | (simp; omega)
  · first | rfl | (simp; done)
  · rw [BY.out]; first | rfl | (simp [oneB]; done) | (simp [oneB]; omega)

set_option maxHeartbeats 4000000 in
theorem rbytes_11 (e : EvD) (a : Option Addr) (c : Nat) (w : World) (hk : e.chk = 0) (h1 : e.k = 11) (ht : TgtSl w a e.ts) :
    Calls Tryz.prog 20 #[.agg (e.cells a c)] w fun x w' => ∃ v, x = .returned v ∧ OwnB w' w.heap.size v e.bytes ∧ Below w.heap.size w w' := by
  obtain ⟨i0, hi, hz0, hz1, hz2⟩ := info_parts infoB
  have HI := Lib.hid hi; have HZ0 := Lib.hid hz0; have HZ1 := Lib.hid hz1; have HZ2 := Lib.hid hz2
  have HT := Lib.hid ht
  obtain ⟨-, -, -, -, hbo⟩ := chk_ok hk
  obtain ⟨k, nm, tg, n, dr, ⟨cn, im, co, mn, mx, gr⟩, rn, rc, ts, rr⟩ := e
  simp only at h1
  subst h1
  unfold n4 n1 at hbo
  dsimp only at hbo
  rw [if_neg (by decide : ¬ (11 : Int) = 1), if_neg (by decide : ¬ (11 : Int) = 2), if_neg (by decide : ¬ (11 : Int) = 3), if_neg (by decide : ¬ (11 : Int) = 4), if_neg (by decide : ¬ (5 ≤ (11 : Int) ∧ (11 : Int) ≤ 8)), if_pos (by decide : 10 ≤ (11 : Int) ∧ (11 : Int) ≤ 13)] at hbo
  have hnm := hbo
  have BY : Hid (EvD.bytes ⟨11, nm, tg, n, dr, ⟨cn, im, co, mn, mx, gr⟩, rn, rc, ts, rr⟩ = oneB 11 ++ bodyB 11 ⟨11, nm, tg, n, dr, ⟨cn, im, co, mn, mx, gr⟩, rn, rc, ts, rr⟩) := Lib.hid rfl
  unfold bodyB at BY
  dsimp only at BY
  rw [if_neg (by decide : ¬ (11 : Int) = 1), if_neg (by decide : ¬ (11 : Int) = 2), if_neg (by decide : ¬ (11 : Int) = 3), if_neg (by decide : ¬ (11 : Int) = 4), if_neg (by decide : ¬ (5 ≤ (11 : Int) ∧ (11 : Int) ≤ 8)), if_pos (by decide : 10 ≤ (11 : Int) ∧ (11 : Int) ≤ 13)] at BY
  clear hi hz0 hz1 hz2 hk ht
  unfold EvD.cells
  simp only
  go_enter Tryz.func20, Tryz.ntmps20
  go_wp2_with fail
  obtain ⟨W0, hW⟩ : ∃ W0, W0 = (w.alloc (.cells #[.int .i64 11, .string nm, .string tg, .int .i64 n, .int .i64 dr, .string cn, .int .i64 im, .int .i64 co, .int .i64 mn, .int .i64 mx, .int .i64 gr, .string rn, .string rc, .slice a ts.length c, .int .i64 rr] 28)).alloc (.cells #[.int .u8 11] 5) := ⟨_, rfl⟩
  rw [← hW]
  have OB : OwnB W0 (w.heap.size + 1) (.slice (some ⟨w.heap.size + 1, 0, none⟩) 1 1) [11] := by
    have := own_one (w.alloc (.cells #[.int .i64 11, .string nm, .string tg, .int .i64 n, .int .i64 dr, .string cn, .int .i64 im, .int .i64 co, .int .i64 mn, .int .i64 mx, .int .i64 gr, .string rn, .string rc, .slice a ts.length c, .int .i64 rr] 28)) 5 (.int .u8 11) (w.heap.size + 1) (by simp)
    rw [hW]
    simpa [OwnB] using this
  have EB : EvBox W0 w.heap.size #[.int .i64 11, .string nm, .string tg, .int .i64 n, .int .i64 dr, .string cn, .int .i64 im, .int .i64 co, .int .i64 mn, .int .i64 mx, .int .i64 gr, .string rn, .string rc, .slice a ts.length c, .int .i64 rr] := ⟨fun i => by rw [hW, World.cell?_alloc_old _ _ _ (by simp)]; exact World.cell?_alloc_new _ _ _ _⟩
  have HB : w.heap.size + 1 ≤ W0.heap.size := by rw [hW]; simp
  have G0 : Grow.G w W0 := by rw [hW]; exact Grow.G.alloc (Grow.G.alloc (Grow.G.refl _) _) _
  clear hW
  have NBX : ∃ x, (#[.int .i64 11, .string nm, .string tg, .int .i64 n, .int .i64 dr, .string cn, .int .i64 im, .int .i64 co, .int .i64 mn, .int .i64 mx, .int .i64 gr, .string rn, .string rc, .slice a ts.length c, .int .i64 rr] : Array Value)[0]? = some x ∧ ∀ z, x ≠ .int .u8 z := ⟨_, rfl, fun z e => by cases e⟩
  have KC := Lib.hid (fun (w' : World) (h : Evo2.SK (w.heap.size + 1) W0 w') => (⟨(EB.later NBX h).cell 0, (EB.later NBX h).cell 1, (EB.later NBX h).cell 2, (EB.later NBX h).cell 3, (EB.later NBX h).cell 4, (EB.later NBX h).cell 5, (EB.later NBX h).cell 6, (EB.later NBX h).cell 7, (EB.later NBX h).cell 8, (EB.later NBX h).cell 9, (EB.later NBX h).cell 10, (EB.later NBX h).cell 11, (EB.later NBX h).cell 12, (EB.later NBX h).cell 13, (EB.later NBX h).cell 14⟩ : w'.cell? ⟨w.heap.size, 0, none⟩ = some (.int .i64 11) ∧ w'.cell? ⟨w.heap.size, 1, none⟩ = some (.string nm) ∧ w'.cell? ⟨w.heap.size, 2, none⟩ = some (.string tg) ∧ w'.cell? ⟨w.heap.size, 3, none⟩ = some (.int .i64 n) ∧ w'.cell? ⟨w.heap.size, 4, none⟩ = some (.int .i64 dr) ∧ w'.cell? ⟨w.heap.size, 5, none⟩ = some (.string cn) ∧ w'.cell? ⟨w.heap.size, 6, none⟩ = some (.int .i64 im) ∧ w'.cell? ⟨w.heap.size, 7, none⟩ = some (.int .i64 co) ∧ w'.cell? ⟨w.heap.size, 8, none⟩ = some (.int .i64 mn) ∧ w'.cell? ⟨w.heap.size, 9, none⟩ = some (.int .i64 mx) ∧ w'.cell? ⟨w.heap.size, 10, none⟩ = some (.int .i64 gr) ∧ w'.cell? ⟨w.heap.size, 11, none⟩ = some (.string rn) ∧ w'.cell? ⟨w.heap.size, 12, none⟩ = some (.string rc) ∧ w'.cell? ⟨w.heap.size, 13, none⟩ = some (.slice a ts.length c) ∧ w'.cell? ⟨w.heap.size, 14, none⟩ = some (.int .i64 rr)))
  refine (rtext_any (w.heap.size + 1) _ [11] nm _ OB HB ⟨by decide, by decide⟩ (by omega)).mono ?_
  rintro e wz ⟨vw, rfl, OZ, fr⟩
  have AZ := fr.sk OB HB ⟨_, _, rfl⟩
  go_wp2_with fail
  refine bodyPost_ret (v := vw) (by simp [results, Tryz.results20, go_sem]) rfl ⟨vw, rfl, own_fin (zs := [11] ++ txtB nm) OZ ?_ ?_ (Nat.le_succ _) ?_, Below.trans G0 (Below.mono AZ.1 (Nat.le_succ _))⟩
  · first | rfl | (simp; done) | (simp; omega)
  · first | rfl | (simp; done)
  · rw [BY.out]; first | rfl | (simp [oneB]; done) | (simp [oneB]; omega)

set_option maxHeartbeats 4000000 in
theorem rbytes_12 (e : EvD) (a : Option Addr) (c : Nat) (w : World) (hk : e.chk = 0) (h1 : e.k = 12) (ht : TgtSl w a e.ts) :
    Calls Tryz.prog 20 #[.agg (e.cells a c)] w fun x w' => ∃ v, x = .returned v ∧ OwnB w' w.heap.size v e.bytes ∧ Below w.heap.size w w' := by
  obtain ⟨i0, hi, hz0, hz1, hz2⟩ := info_parts infoB
  have HI := Lib.hid hi; have HZ0 := Lib.hid hz0; have HZ1 := Lib.hid hz1; have HZ2 := Lib.hid hz2
  have HT := Lib.hid ht
  obtain ⟨-, -, -, -, hbo⟩ := chk_ok hk
  obtain ⟨k, nm, tg, n, dr, ⟨cn, im, co, mn, mx, gr⟩, rn, rc, ts, rr⟩ := e
  simp only at h1
  subst h1
  unfold n4 n1 at hbo
  dsimp only at hbo
  rw [if_neg (by decide : ¬ (12 : Int) = 1), if_neg (by decide : ¬ (12 : Int) = 2), if_neg (by decide : ¬ (12 : Int) = 3), if_neg (by decide : ¬ (12 : Int) = 4), if_neg (by decide : ¬ (5 ≤ (12 : Int) ∧ (12 : Int) ≤ 8)), if_pos (by decide : 10 ≤ (12 : Int) ∧ (12 : Int) ≤ 13)] at hbo
  have hnm := hbo
  have BY : Hid (EvD.bytes ⟨12, nm, tg, n, dr, ⟨cn, im, co, mn, mx, gr⟩, rn, rc, ts, rr⟩ = oneB 12 ++ bodyB 12 ⟨12, nm, tg, n, dr, ⟨cn, im, co, mn, mx, gr⟩, rn, rc, ts, rr⟩) := Lib.hid rfl
  unfold bodyB at BY
  dsimp only at BY
  rw [if_neg (by decide : ¬ (12 : Int) = 1), if_neg (by decide : ¬ (12 : Int) = 2), if_neg (by decide : ¬ (12 : Int) = 3), if_neg (by decide : ¬ (12 : Int) = 4), if_neg (by decide : ¬ (5 ≤ (12 : Int) ∧ (12 : Int) ≤ 8)), if_pos (by decide : 10 ≤ (12 : Int) ∧ (12 : Int) ≤ 13)] at BY
  clear hi hz0 hz1 hz2 hk ht
  unfold EvD.cells
  simp only
  go_enter Tryz.func20, Tryz.ntmps20
  go_wp2_with fail
  obtain ⟨W0, hW⟩ : ∃ W0, W0 = (w.alloc (.cells #[.int .i64 12, .string nm, .string tg, .int .i64 n, .int .i64 dr, .string cn, .int .i64 im, .int .i64 co, .int .i64 mn, .int .i64 mx, .int .i64 gr, .string rn, .string rc, .slice a ts.length c, .int .i64 rr] 28)).alloc (.cells #[.int .u8 12] 5) := ⟨_, rfl⟩
  rw [← hW]
  have OB : OwnB W0 (w.heap.size + 1) (.slice (some ⟨w.heap.size + 1, 0, none⟩) 1 1) [12] := by
    have := own_one (w.alloc (.cells #[.int .i64 12, .string nm, .string tg, .int .i64 n, .int .i64 dr, .string cn, .int .i64 im, .int .i64 co, .int .i64 mn, .int .i64 mx, .int .i64 gr, .string rn, .string rc, .slice a ts.length c, .int .i64 rr] 28)) 5 (.int .u8 12) (w.heap.size + 1) (by simp)
    rw [hW]
    simpa [OwnB] using this
  have EB : EvBox W0 w.heap.size #[.int .i64 12, .string nm, .string tg, .int .i64 n, .int .i64 dr, .string cn, .int .i64 im, .int .i64 co, .int .i64 mn, .int .i64 mx, .int .i64 gr, .string rn, .string rc, .slice a ts.length c, .int .i64 rr] := ⟨fun i => by rw [hW, World.cell?_alloc_old _ _ _ (by simp)]; exact World.cell?_alloc_new _ _ _ _⟩
  have HB : w.heap.size + 1 ≤ W0.heap.size := by rw [hW]; simp
  have G0 : Grow.G w W0 := by rw [hW]; exact Grow.G.alloc (Grow.G.alloc (Grow.G.refl _) _) _
  clear hW
  have NBX : ∃ x, (#[.int .i64 12, .string nm, .string tg, .int .i64 n, .int .i64 dr, .string cn, .int .i64 im, .int .i64 co, .int .i64 mn, .int .i64 mx, .int .i64 gr, .string rn, .string rc, .slice a ts.length c, .int .i64 rr] : Array Value)[0]? = some x ∧ ∀ z, x ≠ .int .u8 z := ⟨_, rfl, fun z e => by cases e⟩
  have KC := Lib.hid (fun (w' : World) (h : Evo2.SK (w.heap.size + 1) W0 w') => (⟨(EB.later NBX h).cell 0, (EB.later NBX h).cell 1, (EB.later NBX h).cell 2, (EB.later NBX h).cell 3, (EB.later NBX h).cell 4, (EB.later NBX h).cell 5, (EB.later NBX h).cell 6, (EB.later NBX h).cell 7, (EB.later NBX h).cell 8, (EB.later NBX h).cell 9, (EB.later NBX h).cell 10, (EB.later NBX h).cell 11, (EB.later NBX h).cell 12, (EB.later NBX h).cell 13, (EB.later NBX h).cell 14⟩ : w'.cell? ⟨w.heap.size, 0, none⟩ = some (.int .i64 12) ∧ w'.cell? ⟨w.heap.size, 1, none⟩ = some (.string nm) ∧ w'.cell? ⟨w.heap.size, 2, none⟩ = some (.string tg) ∧ w'.cell? ⟨w.heap.size, 3, none⟩ = some (.int .i64 n) ∧ w'.cell? ⟨w.heap.size, 4, none⟩ = some (.int .i64 dr) ∧ w'.cell? ⟨w.heap.size, 5, none⟩ = some (.string cn) ∧ w'.cell? ⟨w.heap.size, 6, none⟩ = some (.int .i64 im) ∧ w'.cell? ⟨w.heap.size, 7, none⟩ = some (.int .i64 co) ∧ w'.cell? ⟨w.heap.size, 8, none⟩ = some (.int .i64 mn) ∧ w'.cell? ⟨w.heap.size, 9, none⟩ = some (.int .i64 mx) ∧ w'.cell? ⟨w.heap.size, 10, none⟩ = some (.int .i64 gr) ∧ w'.cell? ⟨w.heap.size, 11, none⟩ = some (.string rn) ∧ w'.cell? ⟨w.heap.size, 12, none⟩ = some (.string rc) ∧ w'.cell? ⟨w.heap.size, 13, none⟩ = some (.slice a ts.length c) ∧ w'.cell? ⟨w.heap.size, 14, none⟩ = some (.int .i64 rr)))
  refine (rtext_any (w.heap.size + 1) _ [12] nm _ OB HB ⟨by decide, by decide⟩ (by omega)).mono ?_
  rintro e wz ⟨vw, rfl, OZ, fr⟩
  have AZ := fr.sk OB HB ⟨_, _, rfl⟩
  go_wp2_with fail
  refine bodyPost_ret (v := vw) (by simp [results, Tryz.results20, go_sem]) rfl ⟨vw, rfl, own_fin (zs := [12] ++ txtB nm) OZ ?_ ?_ (Nat.le_succ _) ?_, Below.trans G0 (Below.mono AZ.1 (Nat.le_succ _))⟩
  · first | rfl | (simp; done) | (simp; omega)
  · first | rfl | (simp; done)
  · rw [BY.out]; first | rfl | (simp [oneB]; done) | (simp [oneB]; omega)

set_option maxHeartbeats 4000000 in
theorem rbytes_13 (e : EvD) (a : Option Addr) (c : Nat) (w : World) (hk : e.chk = 0) (h1 : e.k = 13) (ht : TgtSl w a e.ts) :
    Calls Tryz.prog 20 #[.agg (e.cells a c)] w fun x w' => ∃ v, x = .returned v ∧ OwnB w' w.heap.size v e.bytes ∧ Below w.heap.size w w' := by
  obtain ⟨i0, hi, hz0, hz1, hz2⟩ := info_parts infoB
  have HI := Lib.hid hi; have HZ0 := Lib.hid hz0; have HZ1 := Lib.hid hz1; have HZ2 := Lib.hid hz2
  have HT := Lib.hid ht
  obtain ⟨-, -, -, -, hbo⟩ := chk_ok hk
  obtain ⟨k, nm, tg, n, dr, ⟨cn, im, co, mn, mx, gr⟩, rn, rc, ts, rr⟩ := e
  simp only at h1
  subst h1
  unfold n4 n1 at hbo
  dsimp only at hbo
  rw [if_neg (by decide : ¬ (13 : Int) = 1), if_neg (by decide : ¬ (13 : Int) = 2), if_neg (by decide : ¬ (13 : Int) = 3), if_neg (by decide : ¬ (13 : Int) = 4), if_neg (by decide : ¬ (5 ≤ (13 : Int) ∧ (13 : Int) ≤ 8)), if_pos (by decide : 10 ≤ (13 : Int) ∧ (13 : Int) ≤ 13)] at hbo
  have hnm := hbo
  have BY : Hid (EvD.bytes ⟨13, nm, tg, n, dr, ⟨cn, im, co, mn, mx, gr⟩, rn, rc, ts, rr⟩ = oneB 13 ++ bodyB 13 ⟨13, nm, tg, n, dr, ⟨cn, im, co, mn, mx, gr⟩, rn, rc, ts, rr⟩) := Lib.hid rfl
  unfold bodyB at BY
  dsimp only at BY
  rw [if_neg (by decide : ¬ (13 : Int) = 1), if_neg (by decide : ¬ (13 : Int) = 2), if_neg (by decide : ¬ (13 : Int) = 3), if_neg (by decide : ¬ (13 : Int) = 4), if_neg (by decide : ¬ (5 ≤ (13 : Int) ∧ (13 : Int) ≤ 8)), if_pos (by decide : 10 ≤ (13 : Int) ∧ (13 : Int) ≤ 13)] at BY
  clear hi hz0 hz1 hz2 hk ht
  unfold EvD.cells
  simp only
  go_enter Tryz.func20, Tryz.ntmps20
  go_wp2_with fail
  obtain ⟨W0, hW⟩ : ∃ W0, W0 = (w.alloc (.cells #[.int .i64 13, .string nm, .string tg, .int .i64 n, .int .i64 dr, .string cn, .int .i64 im, .int .i64 co, .int .i64 mn, .int .i64 mx, .int .i64 gr, .string rn, .string rc, .slice a ts.length c, .int .i64 rr] 28)).alloc (.cells #[.int .u8 13] 5) := ⟨_, rfl⟩
  rw [← hW]
  have OB : OwnB W0 (w.heap.size + 1) (.slice (some ⟨w.heap.size + 1, 0, none⟩) 1 1) [13] := by
    have := own_one (w.alloc (.cells #[.int .i64 13, .string nm, .string tg, .int .i64 n, .int .i64 dr, .string cn, .int .i64 im, .int .i64 co, .int .i64 mn, .int .i64 mx, .int .i64 gr, .string rn, .string rc, .slice a ts.length c, .int .i64 rr] 28)) 5 (.int .u8 13) (w.heap.size + 1) (by simp)
    rw [hW]
    simpa [OwnB] using this
  have EB : EvBox W0 w.heap.size #[.int .i64 13, .string nm, .string tg, .int .i64 n, .int .i64 dr, .string cn, .int .i64 im, .int .i64 co, .int .i64 mn, .int .i64 mx, .int .i64 gr, .string rn, .string rc, .slice a ts.length c, .int .i64 rr] := ⟨fun i => by rw [hW, World.cell?_alloc_old _ _ _ (by simp)]; exact World.cell?_alloc_new _ _ _ _⟩
  have HB : w.heap.size + 1 ≤ W0.heap.size := by rw [hW]; simp
  have G0 : Grow.G w W0 := by rw [hW]; exact Grow.G.alloc (Grow.G.alloc (Grow.G.refl _) _) _
  clear hW
  have NBX : ∃ x, (#[.int .i64 13, .string nm, .string tg, .int .i64 n, .int .i64 dr, .string cn, .int .i64 im, .int .i64 co, .int .i64 mn, .int .i64 mx, .int .i64 gr, .string rn, .string rc, .slice a ts.length c, .int .i64 rr] : Array Value)[0]? = some x ∧ ∀ z, x ≠ .int .u8 z := ⟨_, rfl, fun z e => by cases e⟩
  have KC := Lib.hid (fun (w' : World) (h : Evo2.SK (w.heap.size + 1) W0 w') => (⟨(EB.later NBX h).cell 0, (EB.later NBX h).cell 1, (EB.later NBX h).cell 2, (EB.later NBX h).cell 3, (EB.later NBX h).cell 4, (EB.later NBX h).cell 5, (EB.later NBX h).cell 6, (EB.later NBX h).cell 7, (EB.later NBX h).cell 8, (EB.later NBX h).cell 9, (EB.later NBX h).cell 10, (EB.later NBX h).cell 11, (EB.later NBX h).cell 12, (EB.later NBX h).cell 13, (EB.later NBX h).cell 14⟩ : w'.cell? ⟨w.heap.size, 0, none⟩ = some (.int .i64 13) ∧ w'.cell? ⟨w.heap.size, 1, none⟩ = some (.string nm) ∧ w'.cell? ⟨w.heap.size, 2, none⟩ = some (.string tg) ∧ w'.cell? ⟨w.heap.size, 3, none⟩ = some (.int .i64 n) ∧ w'.cell? ⟨w.heap.size, 4, none⟩ = some (.int .i64 dr) ∧ w'.cell? ⟨w.heap.size, 5, none⟩ = some (.string cn) ∧ w'.cell? ⟨w.heap.size, 6, none⟩ = some (.int .i64 im) ∧ w'.cell? ⟨w.heap.size, 7, none⟩ = some (.int .i64 co) ∧ w'.cell? ⟨w.heap.size, 8, none⟩ = some (.int .i64 mn) ∧ w'.cell? ⟨w.heap.size, 9, none⟩ = some (.int .i64 mx) ∧ w'.cell? ⟨w.heap.size, 10, none⟩ = some (.int .i64 gr) ∧ w'.cell? ⟨w.heap.size, 11, none⟩ = some (.string rn) ∧ w'.cell? ⟨w.heap.size, 12, none⟩ = some (.string rc) ∧ w'.cell? ⟨w.heap.size, 13, none⟩ = some (.slice a ts.length c) ∧ w'.cell? ⟨w.heap.size, 14, none⟩ = some (.int .i64 rr)))
  refine (rtext_any (w.heap.size + 1) _ [13] nm _ OB HB ⟨by decide, by decide⟩ (by omega)).mono ?_
  rintro e wz ⟨vw, rfl, OZ, fr⟩
  have AZ := fr.sk OB HB ⟨_, _, rfl⟩
  go_wp2_with fail
  refine bodyPost_ret (v := vw) (by simp [results, Tryz.results20, go_sem]) rfl ⟨vw, rfl, own_fin (zs := [13] ++ txtB nm) OZ ?_ ?_ (Nat.le_succ _) ?_, Below.trans G0 (Below.mono AZ.1 (Nat.le_succ _))⟩
  · first | rfl | (simp; done) | (simp; omega)
  · first | rfl | (simp; done)
  · rw [BY.out]; first | rfl | (simp [oneB]; done) | (simp [oneB]; omega)

set_option maxHeartbeats 4000000 in
theorem rbytes_9 (e : EvD) (a : Option Addr) (c : Nat) (w : World) (hk : e.chk = 0) (h1 : e.k = 9) (ht : TgtSl w a e.ts) :
    Calls Tryz.prog 20 #[.agg (e.cells a c)] w fun x w' => ∃ v, x = .returned v ∧ OwnB w' w.heap.size v e.bytes ∧ Below w.heap.size w w' := by
  obtain ⟨i0, hi, hz0, hz1, hz2⟩ := info_parts infoB
  have HI := Lib.hid hi; have HZ0 := Lib.hid hz0; have HZ1 := Lib.hid hz1; have HZ2 := Lib.hid hz2
  have HT := Lib.hid ht
  obtain ⟨-, -, -, -, hbo⟩ := chk_ok hk
  obtain ⟨k, nm, tg, n, dr, ⟨cn, im, co, mn, mx, gr⟩, rn, rc, ts, rr⟩ := e
  simp only at h1
  subst h1
  unfold n4 n1 at hbo
  dsimp only at hbo
  rw [if_neg (by decide : ¬ (9 : Int) = 1), if_neg (by decide : ¬ (9 : Int) = 2), if_neg (by decide : ¬ (9 : Int) = 3), if_neg (by decide : ¬ (9 : Int) = 4), if_neg (by decide : ¬ (5 ≤ (9 : Int) ∧ (9 : Int) ≤ 8)), if_neg (by decide : ¬ (10 ≤ (9 : Int) ∧ (9 : Int) ≤ 13))] at hbo
  have BY : Hid (EvD.bytes ⟨9, nm, tg, n, dr, ⟨cn, im, co, mn, mx, gr⟩, rn, rc, ts, rr⟩ = oneB 9 ++ bodyB 9 ⟨9, nm, tg, n, dr, ⟨cn, im, co, mn, mx, gr⟩, rn, rc, ts, rr⟩) := Lib.hid rfl
  unfold bodyB at BY
  dsimp only at BY
  rw [if_neg (by decide : ¬ (9 : Int) = 1), if_neg (by decide : ¬ (9 : Int) = 2), if_neg (by decide : ¬ (9 : Int) = 3), if_neg (by decide : ¬ (9 : Int) = 4), if_neg (by decide : ¬ (5 ≤ (9 : Int) ∧ (9 : Int) ≤ 8)), if_neg (by decide : ¬ (10 ≤ (9 : Int) ∧ (9 : Int) ≤ 13))] at BY
  clear hi hz0 hz1 hz2 hk ht
  unfold EvD.cells
  simp only
  go_enter Tryz.func20, Tryz.ntmps20
  go_wp2_with fail
  obtain ⟨W0, hW⟩ : ∃ W0, W0 = (w.alloc (.cells #[.int .i64 9, .string nm, .string tg, .int .i64 n, .int .i64 dr, .string cn, .int .i64 im, .int .i64 co, .int .i64 mn, .int .i64 mx, .int .i64 gr, .string rn, .string rc, .slice a ts.length c, .int .i64 rr] 28)).alloc (.cells #[.int .u8 9] 5) := ⟨_, rfl⟩
  rw [← hW]
  have OB : OwnB W0 (w.heap.size + 1) (.slice (some ⟨w.heap.size + 1, 0, none⟩) 1 1) [9] := by
    have := own_one (w.alloc (.cells #[.int .i64 9, .string nm, .string tg, .int .i64 n, .int .i64 dr, .string cn, .int .i64 im, .int .i64 co, .int .i64 mn, .int .i64 mx, .int .i64 gr, .string rn, .string rc, .slice a ts.length c, .int .i64 rr] 28)) 5 (.int .u8 9) (w.heap.size + 1) (by simp)
    rw [hW]
    simpa [OwnB] using this
  have EB : EvBox W0 w.heap.size #[.int .i64 9, .string nm, .string tg, .int .i64 n, .int .i64 dr, .string cn, .int .i64 im, .int .i64 co, .int .i64 mn, .int .i64 mx, .int .i64 gr, .string rn, .string rc, .slice a ts.length c, .int .i64 rr] := ⟨fun i => by rw [hW, World.cell?_alloc_old _ _ _ (by simp)]; exact World.cell?_alloc_new _ _ _ _⟩
  have HB : w.heap.size + 1 ≤ W0.heap.size := by rw [hW]; simp
  have G0 : Grow.G w W0 := by rw [hW]; exact Grow.G.alloc (Grow.G.alloc (Grow.G.refl _) _) _
  clear hW
  have NBX : ∃ x, (#[.int .i64 9, .string nm, .string tg, .int .i64 n, .int .i64 dr, .string cn, .int .i64 im, .int .i64 co, .int .i64 mn, .int .i64 mx, .int .i64 gr, .string rn, .string rc, .slice a ts.length c, .int .i64 rr] : Array Value)[0]? = some x ∧ ∀ z, x ≠ .int .u8 z := ⟨_, rfl, fun z e => by cases e⟩
  have KC := Lib.hid (fun (w' : World) (h : Evo2.SK (w.heap.size + 1) W0 w') => (⟨(EB.later NBX h).cell 0, (EB.later NBX h).cell 1, (EB.later NBX h).cell 2, (EB.later NBX h).cell 3, (EB.later NBX h).cell 4, (EB.later NBX h).cell 5, (EB.later NBX h).cell 6, (EB.later NBX h).cell 7, (EB.later NBX h).cell 8, (EB.later NBX h).cell 9, (EB.later NBX h).cell 10, (EB.later NBX h).cell 11, (EB.later NBX h).cell 12, (EB.later NBX h).cell 13, (EB.later NBX h).cell 14⟩ : w'.cell? ⟨w.heap.size, 0, none⟩ = some (.int .i64 9) ∧ w'.cell? ⟨w.heap.size, 1, none⟩ = some (.string nm) ∧ w'.cell? ⟨w.heap.size, 2, none⟩ = some (.string tg) ∧ w'.cell? ⟨w.heap.size, 3, none⟩ = some (.int .i64 n) ∧ w'.cell? ⟨w.heap.size, 4, none⟩ = some (.int .i64 dr) ∧ w'.cell? ⟨w.heap.size, 5, none⟩ = some (.string cn) ∧ w'.cell? ⟨w.heap.size, 6, none⟩ = some (.int .i64 im) ∧ w'.cell? ⟨w.heap.size, 7, none⟩ = some (.int .i64 co) ∧ w'.cell? ⟨w.heap.size, 8, none⟩ = some (.int .i64 mn) ∧ w'.cell? ⟨w.heap.size, 9, none⟩ = some (.int .i64 mx) ∧ w'.cell? ⟨w.heap.size, 10, none⟩ = some (.int .i64 gr) ∧ w'.cell? ⟨w.heap.size, 11, none⟩ = some (.string rn) ∧ w'.cell? ⟨w.heap.size, 12, none⟩ = some (.string rc) ∧ w'.cell? ⟨w.heap.size, 13, none⟩ = some (.slice a ts.length c) ∧ w'.cell? ⟨w.heap.size, 14, none⟩ = some (.int .i64 rr)))
  refine bodyPost_ret (v := (.slice (some ⟨w.heap.size + 1, 0, none⟩) 1 1)) (by simp [results, Tryz.results20, go_sem]) rfl ⟨(.slice (some ⟨w.heap.size + 1, 0, none⟩) 1 1), rfl, own_fin (zs := [9]) OB ?_ ?_ (Nat.le_succ _) ?_, Below.trans G0 (Below.mono (Evo2.SK.refl _ _).1 (Nat.le_succ _))⟩
  · first | rfl | (simp; done) | (simp; omega)
  · first | rfl | (simp; done)
  · rw [BY.out]; first | rfl | (simp [oneB]; done) | (simp [oneB]; omega)

end Go.Proofs.YtnkekdmikopdgaaGreat
/- What damper/damperref3.Bytes writes. -/
namespace Go.Proofs.YtnkekdmikopdgaaGreat
set_option maxRecDepth 100000
set_option linter.unusedVariables false
set_option linter.unusedSimpArgs false
set_option linter.unnecessarySimpa false
open Go.RowKit

set_option maxHeartbeats 4000000 in
theorem rbytes_2 (e : EvD) (a : Option Addr) (c : Nat) (w : World) (hk : e.chk = 0) (h1 : e.k = 2) (ht : TgtSl w a e.ts) :
    Calls Tryz.prog 20 #[.agg (e.cells a c)] w fun x w' => ∃ v, x = .returned v ∧ OwnB w' w.heap.size v e.bytes ∧ Below w.heap.size w w' := by
  obtain ⟨i0, hi, hz0, hz1, hz2⟩ := info_parts infoB
  have HI := Lib.hid hi; have HZ0 := Lib.hid hz0; have HZ1 := Lib.hid hz1; have HZ2 := Lib.hid hz2
  have HT := Lib.hid ht
  obtain ⟨-, -, -, -, hbo⟩ := chk_ok hk
  obtain ⟨k, nm, tg, n, dr, ⟨cn, im, co, mn, mx, gr⟩, rn, rc, ts, rr⟩ := e
  simp only at h1
  subst h1
  unfold n4 n1 at hbo
  dsimp only at hbo
  rw [if_neg (by decide : ¬ (2 : Int) = 1), if_pos rfl] at hbo
  obtain ⟨hn, hrn, hrc, hrr, hts, htk⟩ := hbo
  have h6 := chk_len hk rfl
  simp only at h6
  have BY : Hid (EvD.bytes ⟨2, nm, tg, n, dr, ⟨cn, im, co, mn, mx, gr⟩, rn, rc, ts, rr⟩ = oneB 2 ++ bodyB 2 ⟨2, nm, tg, n, dr, ⟨cn, im, co, mn, mx, gr⟩, rn, rc, ts, rr⟩) := Lib.hid rfl
  unfold bodyB at BY
  dsimp only at BY
  rw [if_neg (by decide : ¬ (2 : Int) = 1), if_pos rfl] at BY
  clear hi hz0 hz1 hz2 hk ht
  unfold EvD.cells
  simp only
  go_enter Tryz.func20, Tryz.ntmps20
  go_wp2_with fail
  obtain ⟨W0, hW⟩ : ∃ W0, W0 = (w.alloc (.cells #[.int .i64 2, .string nm, .string tg, .int .i64 n, .int .i64 dr, .string cn, .int .i64 im, .int .i64 co, .int .i64 mn, .int .i64 mx, .int .i64 gr, .string rn, .string rc, .slice a ts.length c, .int .i64 rr] 28)).alloc (.cells #[.int .u8 2] 5) := ⟨_, rfl⟩
  rw [← hW]
  have OB : OwnB W0 (w.heap.size + 1) (.slice (some ⟨w.heap.size + 1, 0, none⟩) 1 1) [2] := by
    have := own_one (w.alloc (.cells #[.int .i64 2, .string nm, .string tg, .int .i64 n, .int .i64 dr, .string cn, .int .i64 im, .int .i64 co, .int .i64 mn, .int .i64 mx, .int .i64 gr, .string rn, .string rc, .slice a ts.length c, .int .i64 rr] 28)) 5 (.int .u8 2) (w.heap.size + 1) (by simp)
    rw [hW]
    simpa [OwnB] using this
  have EB : EvBox W0 w.heap.size #[.int .i64 2, .string nm, .string tg, .int .i64 n, .int .i64 dr, .string cn, .int .i64 im, .int .i64 co, .int .i64 mn, .int .i64 mx, .int .i64 gr, .string rn, .string rc, .slice a ts.length c, .int .i64 rr] := ⟨fun i => by rw [hW, World.cell?_alloc_old _ _ _ (by simp)]; exact World.cell?_alloc_new _ _ _ _⟩
  have HB : w.heap.size + 1 ≤ W0.heap.size := by rw [hW]; simp
  have G0 : Grow.G w W0 := by rw [hW]; exact Grow.G.alloc (Grow.G.alloc (Grow.G.refl _) _) _
  clear hW
  have NBX : ∃ x, (#[.int .i64 2, .string nm, .string tg, .int .i64 n, .int .i64 dr, .string cn, .int .i64 im, .int .i64 co, .int .i64 mn, .int .i64 mx, .int .i64 gr, .string rn, .string rc, .slice a ts.length c, .int .i64 rr] : Array Value)[0]? = some x ∧ ∀ z, x ≠ .int .u8 z := ⟨_, rfl, fun z e => by cases e⟩
  have KC := Lib.hid (fun (w' : World) (h : Evo2.SK (w.heap.size + 1) W0 w') => (⟨(EB.later NBX h).cell 0, (EB.later NBX h).cell 1, (EB.later NBX h).cell 2, (EB.later NBX h).cell 3, (EB.later NBX h).cell 4, (EB.later NBX h).cell 5, (EB.later NBX h).cell 6, (EB.later NBX h).cell 7, (EB.later NBX h).cell 8, (EB.later NBX h).cell 9, (EB.later NBX h).cell 10, (EB.later NBX h).cell 11, (EB.later NBX h).cell 12, (EB.later NBX h).cell 13, (EB.later NBX h).cell 14⟩ : w'.cell? ⟨w.heap.size, 0, none⟩ = some (.int .i64 2) ∧ w'.cell? ⟨w.heap.size, 1, none⟩ = some (.string nm) ∧ w'.cell? ⟨w.heap.size, 2, none⟩ = some (.string tg) ∧ w'.cell? ⟨w.heap.size, 3, none⟩ = some (.int .i64 n) ∧ w'.cell? ⟨w.heap.size, 4, none⟩ = some (.int .i64 dr) ∧ w'.cell? ⟨w.heap.size, 5, none⟩ = some (.string cn) ∧ w'.cell? ⟨w.heap.size, 6, none⟩ = some (.int .i64 im) ∧ w'.cell? ⟨w.heap.size, 7, none⟩ = some (.int .i64 co) ∧ w'.cell? ⟨w.heap.size, 8, none⟩ = some (.int .i64 mn) ∧ w'.cell? ⟨w.heap.size, 9, none⟩ = some (.int .i64 mx) ∧ w'.cell? ⟨w.heap.size, 10, none⟩ = some (.int .i64 gr) ∧ w'.cell? ⟨w.heap.size, 11, none⟩ = some (.string rn) ∧ w'.cell? ⟨w.heap.size, 12, none⟩ = some (.string rc) ∧ w'.cell? ⟨w.heap.size, 13, none⟩ = some (.slice a ts.length c) ∧ w'.cell? ⟨w.heap.size, 14, none⟩ = some (.int .i64 rr)))
  refine Evo2.start' (ℓ := none) (S := Evo2.SB (w.heap.size + 1)) (E := Evo2.EB (w.heap.size + 1)) (by kernel_rfl) ⟨Evo2.preB _, by decide +kernel, (by intro c a d v w h; cases d <;> exact h), by decide +kernel⟩ (fun ok => ?_)
  first | (refine Evo2.value ok 0 ?_ (by rfl) (by decide +kernel) (by rfl) ?_ ?_; rotate_left; (intro w' hg; go_simp <;> with_reducible rfl); simp only [Act.put, List.setIfInBounds_toArray, List.set_cons_zero, List.set_cons_succ])
  first | (refine Evo2.value ok 1 ?_ (by rfl) (by decide +kernel) (by rfl) ?_ ?_; rotate_left; (intro w' hg; go_simp <;> with_reducible rfl); simp only [Act.put, List.setIfInBounds_toArray, List.set_cons_zero, List.set_cons_succ])
  first | (refine Evo2.value ok 2 ?_ (by rfl) (by decide +kernel) (by rfl) ?_ ?_; rotate_left; (intro w' hg; obtain ⟨q1, q2, q3, q4, q5, q6, q7, q8, q9, q10, q11, q12, q13, q14, q15⟩ := KC.out w' (Evo2.SK.trans (Evo2.SK.refl _ _) hg); go_simp <;> with_reducible rfl); simp only [Act.put, List.setIfInBounds_toArray, List.set_cons_zero, List.set_cons_succ]) | (refine Evo2.value ok 2 ?_ (by rfl) (by decide +kernel) (by rfl) ?_ ?_; rotate_left; (intro w' hg; go_simp <;> with_reducible rfl); simp only [Act.put, List.setIfInBounds_toArray, List.set_cons_zero, List.set_cons_succ])
  first | (refine Evo2.value ok 4 ?_ (by rfl) (by decide +kernel) (by rfl) ?_ ?_; rotate_left; (intro w' hg; go_simp <;> with_reducible rfl); simp only [Act.put, List.setIfInBounds_toArray, List.set_cons_zero, List.set_cons_succ])
  first | (refine Evo2.value ok 5 ?_ (by rfl) (by decide +kernel) (by rfl) ?_ ?_; rotate_left; (intro w' hg; go_simp <;> with_reducible rfl); simp only [Act.put, List.setIfInBounds_toArray, List.set_cons_zero, List.set_cons_succ])
  first | (refine Evo2.value ok 6 ?_ (by rfl) (by decide +kernel) (by rfl) ?_ ?_; rotate_left; (intro w' hg; obtain ⟨q1, q2, q3, q4, q5, q6, q7, q8, q9, q10, q11, q12, q13, q14, q15⟩ := KC.out w' (Evo2.SK.trans (Evo2.SK.refl _ _) hg); go_simp <;> with_reducible rfl); simp only [Act.put, List.setIfInBounds_toArray, List.set_cons_zero, List.set_cons_succ]) | (refine Evo2.value ok 6 ?_ (by rfl) (by decide +kernel) (by rfl) ?_ ?_; rotate_left; (intro w' hg; go_simp <;> with_reducible rfl); simp only [Act.put, List.setIfInBounds_toArray, List.set_cons_zero, List.set_cons_succ])
  first | (refine Evo2.value ok 8 ?_ (by rfl) (by decide +kernel) (by rfl) ?_ ?_; rotate_left; (intro w' hg; go_simp <;> with_reducible rfl); simp only [Act.put, List.setIfInBounds_toArray, List.set_cons_zero, List.set_cons_succ])
  first | (refine Evo2.value ok 9 ?_ (by rfl) (by decide +kernel) (by rfl) ?_ ?_; rotate_left; (intro w' hg; go_simp <;> with_reducible rfl); simp only [Act.put, List.setIfInBounds_toArray, List.set_cons_zero, List.set_cons_succ])
  first | (refine Evo2.value ok 10 ?_ (by rfl) (by decide +kernel) (by rfl) ?_ ?_; rotate_left; (intro w' hg; obtain ⟨q1, q2, q3, q4, q5, q6, q7, q8, q9, q10, q11, q12, q13, q14, q15⟩ := KC.out w' (Evo2.SK.trans (Evo2.SK.refl _ _) hg); go_simp <;> with_reducible rfl); simp only [Act.put, List.setIfInBounds_toArray, List.set_cons_zero, List.set_cons_succ]) | (refine Evo2.value ok 10 ?_ (by rfl) (by decide +kernel) (by rfl) ?_ ?_; rotate_left; (intro w' hg; go_simp <;> with_reducible rfl); simp only [Act.put, List.setIfInBounds_toArray, List.set_cons_zero, List.set_cons_succ])
  refine Evo2.all [3] (by decide +kernel) rfl ?_
  intro wp1 gp1 iq hq
  simp only [List.mem_cons, List.mem_nil_iff, or_false] at hq
  have AP1 := Evo2.SK.trans (Evo2.SK.refl _ _) (Evo2.sk_of gp1)
  have OP1 := own_later OB gp1.1
  have SP1 := Nat.le_trans HB AP1.size
  subst hq
  refine Evo2.enters 46 _ (by rfl) (by rfl) (by go_simp; exact ⟨rfl, rfl⟩) ?_
  refine (rfour_any (w.heap.size + 1) _ [2] n wp1 OP1 SP1 ⟨by decide, by decide⟩ ⟨hn.1, hn.2⟩).mono ?_
  rintro e wc1 ⟨vw1, rfl, OW1, fr1⟩
  have hb1 := fr1.sk OP1 SP1 ⟨_, _, rfl⟩
  have AC1 := Evo2.SK.trans AP1 hb1
  refine ⟨_, rfl, .inr hb1, ?_⟩
  simp only [Act.put, List.setIfInBounds_toArray, List.set_cons_zero, List.set_cons_succ]
  refine Evo2.all [7] (by decide +kernel) rfl ?_
  intro wp2 gp2 iq hq
  simp only [List.mem_cons, List.mem_nil_iff, or_false] at hq
  have AP2 := Evo2.SK.trans AC1 (Evo2.sk_of gp2)
  have OP2 := own_later OW1 gp2.1
  have SP2 := Nat.le_trans HB AP2.size
  subst hq
  refine Evo2.enters 45 _ (by rfl) (by rfl) (by go_simp; exact ⟨rfl, rfl⟩) ?_
  refine (rtext_any (w.heap.size + 1) _ ([2] ++ fourB n) rn wp2 OP2 SP2 ⟨by simp, by simp [fourB]⟩ (by omega)).mono ?_
  rintro e wc2 ⟨vw2, rfl, OW2, fr2⟩
  have hb2 := fr2.sk OP2 SP2 ⟨_, _, rfl⟩
  have AC2 := Evo2.SK.trans AP2 hb2
  refine ⟨_, rfl, .inr hb2, ?_⟩
  simp only [Act.put, List.setIfInBounds_toArray, List.set_cons_zero, List.set_cons_succ]
  refine Evo2.all [11] (by decide +kernel) rfl ?_
  intro wp3 gp3 iq hq
  simp only [List.mem_cons, List.mem_nil_iff, or_false] at hq
  have AP3 := Evo2.SK.trans AC2 (Evo2.sk_of gp3)
  have OP3 := own_later OW2 gp3.1
  have SP3 := Nat.le_trans HB AP3.size
  subst hq
  refine Evo2.enters 45 _ (by rfl) (by rfl) (by go_simp; exact ⟨rfl, rfl⟩) ?_
  refine (rtext_any (w.heap.size + 1) _ ([2] ++ fourB n ++ txtB rn) rc wp3 OP3 SP3 ⟨by simp, by simp [fourB, txtB, oneB, numsOf_len]; omega⟩ (by omega)).mono ?_
  rintro e wc3 ⟨vw3, rfl, OW3, fr3⟩
  have hb3 := fr3.sk OP3 SP3 ⟨_, _, rfl⟩
  have AC3 := Evo2.SK.trans AP3 hb3
  refine ⟨_, rfl, .inr hb3, ?_⟩
  simp only [Act.put, List.setIfInBounds_toArray, List.set_cons_zero, List.set_cons_succ]
  first | (refine Evo2.value ok 12 ?_ (by rfl) (by decide +kernel) (by rfl) ?_ ?_; rotate_left; (intro w' hg; go_simp <;> with_reducible rfl); simp only [Act.put, List.setIfInBounds_toArray, List.set_cons_zero, List.set_cons_succ])
  refine Evo2.done (by decide +kernel) (fun wz gz => ?_)
  have AZ := Evo2.SK.trans AC3 (Evo2.sk_of gz)
  have OZ := own_later OW3 gz.1
  obtain ⟨q1, q2, q3, q4, q5, q6, q7, q8, q9, q10, q11, q12, q13, q14, q15⟩ := KC.out wz AZ
  have SZ := Nat.le_trans HB AZ.size
  have i1 := hrr.1; have i2 := hrr.2
  have OZH := Lib.hid OZ
  have TK := Lib.hid htk
  clear OZ hrr htk OW1 OW2 OW3 OP1 OP2 OP3 OB ok
  go_wp2_with (at_builtin; refine Fr.wpList_append_fr _ rfl _ _ 41 rfl (w.heap.size + 1) 5 i0 (.int .u8 0) 1 1 Tryz.underlying41 HI.out HZ0.out HZ1.out HZ2.out rfl (by decide) _ _ _ rfl (own_later OZH.out ?_) _ 2 2 [_, _] rfl rfl (news_new _ [_, _] _ _ ?_) ?_ ?_ ?_ ?_ ?_)
  · (repeat (first | with_reducible exact Grow.G.refl _ | with_reducible exact Below.refl _ _ | with_reducible refine Grow.G.alloc ?_ _ | with_reducible refine Grow.G.trans ?_ hb1 | ((with_reducible refine Below.setCell ?_ ?_ _); rotate_left; (focus (first | omega | (simp; done) | (simp; omega)))) | with_reducible assumption | with_reducible refine Grow.G.trans ?_ (by with_reducible assumption)))
  · first | rfl | (simp; done)
  · intro u hu; simp at hu; rcases hu with rfl | rfl <;> rfl
  · simp [fourB, txtB, oneB, numsOf_len]; unfold maxLen; omega
  · simp [fourB, txtB, oneB, numsOf_len]; omega
  · simp; omega
  · intro v' w1 hown hgr'
    have AW := Lib.hid (Evo2.SK.trans AZ (Evo2.SK.trans (Evo2.SK.alloc (Evo2.SK.refl _ _) SZ _) (hgr'.sk (own_later OZH.out (show Grow.G wz _ by (repeat (first | with_reducible exact Grow.G.refl _ | with_reducible exact Below.refl _ _ | with_reducible refine Grow.G.alloc ?_ _ | with_reducible refine Grow.G.trans ?_ hb1 | ((with_reducible refine Below.setCell ?_ ?_ _); rotate_left; (focus (first | omega | (simp; done) | (simp; omega)))) | with_reducible assumption | with_reducible refine Grow.G.trans ?_ (by with_reducible assumption))))) (by simp; omega) ⟨_, _, rfl⟩)))
    have HO : Hid (OwnB w1 (w.heap.size + 1) v' ([2] ++ fourB n ++ txtB rn ++ txtB rc ++ [rr, (ts.length : Int)])) := Lib.hid (own_fin hown (by simp [fourB, txtB, oneB, numsOf_len]; omega) (by simp) (Nat.le_refl _) rfl)
    clear hown hgr' q1 q2 q3 q4 q5 q6 q7 q8 q9 q10 q11 q12 q13 q14 q15 AZ SZ OZH
    have q10 := True.intro
    obtain ⟨q1, q2, q3, q4, q5, q6, q7, q8, q9, q10, q11, q12, q13, q14, q15⟩ := KC.out w1 AW.out
    go_wp2_with fail
    clear q1 q2 q3 q4 q5 q6 q7 q8 q9 q10 q11 q12 q13 q14 q15
    go_loopw [3, 4] (fun s3 s4 wr => ∃ i : Nat, i ≤ ts.length ∧ s4 = .int .i64 i ∧ Hid (OwnB wr (w.heap.size + 1) s3 (([2] ++ fourB n ++ txtB rn ++ txtB rc ++ [rr, (ts.length : Int)]) ++ tgtsB (ts.take i))) ∧ Hid (Evo2.SK (w.heap.size + 1) W0 wr)) (fun _ s4 _ => ts.length - (intOf s4).toNat)
    case atStart => exact ⟨0, by omega, rfl, Lib.hid (by simpa [tgtsB] using HO.out), AW⟩
    case round =>
      obtain ⟨i, hi, rfl, OI, AI⟩ := hrel
      obtain ⟨q1, q2, q3, q4, q5, q6, q7, q8, q9, q10, q11, q12, q13, q14, q15⟩ := KC.out wr AI.out
      by_cases hlt : i < ts.length
      · have GR : Grow.G w wr := Below.trans G0 (Below.mono AI.out.1 (Nat.le_succ _))
        obtain ⟨b, off, rfl, hat⟩ := (HT.out.later GR).at hlt
        have SN := Lib.hid (tgtsB_snoc ts i hlt)
        have TO : tgtOk (ts.getD i tg0) := TK.out _ (by simp [List.getD, hlt])
        have TL := tgtsB_len (ts.take i) (fun t ht => TK.out t (List.mem_of_mem_take ht))
        rw [List.length_take] at TL
        generalize ts.getD i tg0 = t at *
        obtain ⟨rv, tgx, pc⟩ := t
        obtain ⟨t1, t2, t3, t4⟩ := TO
        have ⟨c0, c1, c2⟩ := hat
        simp only at c0 c1 c2 t1 t2 t3 t4
        have TL6 : (tgtsB (ts.take i)).length ≤ 3600 := by omega
        have WS : (w.heap.size + 1) ≤ wr.heap.size := Nat.le_trans HB AI.out.size
        have WPC : Hid (IntKind.u8.wrap pc = pc) := Lib.hid (by rw [IntKind.wrap_u8]; omega)
        clear hat TL GR
        go_wp2_with fail
        obtain ⟨W1, hW1⟩ : ∃ W1, W1 = wr.alloc (.cells #[.string rv, .string tgx, .int .i64 pc] 39) := ⟨_, rfl⟩
        rw [← hW1]
        have OW1 : OwnB W1 (w.heap.size + 1) u3 (([2] ++ fourB n ++ txtB rn ++ txtB rc ++ [rr, (ts.length : Int)]) ++ tgtsB (ts.take i)) := by rw [hW1]; exact own_later OI.out (Grow.G.alloc (Grow.G.refl _) _)
        have XB : EvBox W1 wr.heap.size #[.string rv, .string tgx, .int .i64 pc] := ⟨fun i => by rw [hW1]; exact World.cell?_alloc_new _ _ _ _⟩
        have NBT : ∃ x, (#[.string rv, .string tgx, .int .i64 pc] : Array Value)[0]? = some x ∧ ∀ z, x ≠ .int .u8 z := ⟨_, rfl, fun z e => by cases e⟩
        have HB : (w.heap.size + 1) ≤ W1.heap.size := by rw [hW1]; simp; omega
        have AW1 : Evo2.SK (w.heap.size + 1) wr W1 := by rw [hW1]; exact Evo2.SK.alloc (Evo2.SK.refl _ _) WS _
        have KT := Lib.hid (fun (w' : World) (h : Evo2.SK (w.heap.size + 1) W1 w') => (⟨(XB.later NBT h).cell 0, (XB.later NBT h).cell 1, (XB.later NBT h).cell 2⟩ : w'.cell? ⟨wr.heap.size, 0, none⟩ = some (.string rv) ∧ w'.cell? ⟨wr.heap.size, 1, none⟩ = some (.string tgx) ∧ w'.cell? ⟨wr.heap.size, 2, none⟩ = some (.int .i64 pc)))
        clear hW1 c0 c1 c2 XB NBT WS q1 q2 q3 q4 q5 q6 q7 q8 q9 q10 q11 q12 q13 q14 q15
        refine Evo2.start' (ℓ := none) (S := Evo2.SB (w.heap.size + 1)) (E := Evo2.EB (w.heap.size + 1)) (by kernel_rfl) ⟨Evo2.preB _, by decide +kernel, (by intro c a d v w h; cases d <;> exact h), by decide +kernel⟩ (fun ok => ?_)
        first | (refine Evo2.value ok 0 ?_ (by rfl) (by decide +kernel) (by rfl) ?_ ?_; rotate_left; (intro w' hg; go_simp <;> with_reducible rfl); simp only [Act.put, List.setIfInBounds_toArray, List.set_cons_zero, List.set_cons_succ])
        first | (refine Evo2.value ok 1 ?_ (by rfl) (by decide +kernel) (by rfl) ?_ ?_; rotate_left; (intro w' hg; go_simp <;> with_reducible rfl); simp only [Act.put, List.setIfInBounds_toArray, List.set_cons_zero, List.set_cons_succ])
        first | (refine Evo2.value ok 2 ?_ (by rfl) (by decide +kernel) (by rfl) ?_ ?_; rotate_left; (intro w' hg; obtain ⟨q1, q2, q3⟩ := KT.out w' (Evo2.SK.trans (Evo2.SK.refl _ _) hg); go_simp <;> with_reducible rfl); simp only [Act.put, List.setIfInBounds_toArray, List.set_cons_zero, List.set_cons_succ]) | (refine Evo2.value ok 2 ?_ (by rfl) (by decide +kernel) (by rfl) ?_ ?_; rotate_left; (intro w' hg; go_simp <;> with_reducible rfl); simp only [Act.put, List.setIfInBounds_toArray, List.set_cons_zero, List.set_cons_succ])
        first | (refine Evo2.value ok 4 ?_ (by rfl) (by decide +kernel) (by rfl) ?_ ?_; rotate_left; (intro w' hg; go_simp <;> with_reducible rfl); simp only [Act.put, List.setIfInBounds_toArray, List.set_cons_zero, List.set_cons_succ])
        first | (refine Evo2.value ok 5 ?_ (by rfl) (by decide +kernel) (by rfl) ?_ ?_; rotate_left; (intro w' hg; obtain ⟨q1, q2, q3⟩ := KT.out w' (Evo2.SK.trans (Evo2.SK.refl _ _) hg); go_simp <;> with_reducible rfl); simp only [Act.put, List.setIfInBounds_toArray, List.set_cons_zero, List.set_cons_succ]) | (refine Evo2.value ok 5 ?_ (by rfl) (by decide +kernel) (by rfl) ?_ ?_; rotate_left; (intro w' hg; go_simp <;> with_reducible rfl); simp only [Act.put, List.setIfInBounds_toArray, List.set_cons_zero, List.set_cons_succ])
        first | (refine Evo2.value ok 7 ?_ (by rfl) (by decide +kernel) (by rfl) ?_ ?_; rotate_left; (intro w' hg; go_simp <;> with_reducible rfl); simp only [Act.put, List.setIfInBounds_toArray, List.set_cons_zero, List.set_cons_succ])
        first | (refine Evo2.value ok 8 ?_ (by rfl) (by decide +kernel) (by rfl) ?_ ?_; rotate_left; (intro w' hg; obtain ⟨q1, q2, q3⟩ := KT.out w' (Evo2.SK.trans (Evo2.SK.refl _ _) hg); go_simp <;> with_reducible rfl); simp only [Act.put, List.setIfInBounds_toArray, List.set_cons_zero, List.set_cons_succ]) | (refine Evo2.value ok 8 ?_ (by rfl) (by decide +kernel) (by rfl) ?_ ?_; rotate_left; (intro w' hg; go_simp <;> with_reducible rfl); simp only [Act.put, List.setIfInBounds_toArray, List.set_cons_zero, List.set_cons_succ])
        first | (refine Evo2.value ok 9 ?_ (by rfl) (by decide +kernel) (by rfl) ?_ ?_; rotate_left; (intro w' hg; go_simp <;> with_reducible rfl); simp only [Act.put, List.setIfInBounds_toArray, List.set_cons_zero, List.set_cons_succ])
        refine Evo2.all [3, 10] (by decide +kernel) rfl ?_
        intro wp1 gp1 iq hq
        simp only [List.mem_cons, List.mem_nil_iff, or_false] at hq
        have AP1 := Evo2.SK.trans (Evo2.SK.refl _ _) (Evo2.sk_of gp1)
        have OP1 := own_later OW1 gp1.1
        have SP1 := Nat.le_trans HB AP1.size
        rcases hq with rfl | rfl
        ·
          refine Evo2.enters 45 _ (by rfl) (by rfl) (by go_simp; exact ⟨rfl, rfl⟩) ?_
          refine (rtext_any (w.heap.size + 1) _ (([2] ++ fourB n ++ txtB rn ++ txtB rc ++ [rr, (ts.length : Int)]) ++ tgtsB (ts.take i)) rv wp1 OP1 SP1 ⟨by simp, by simp [fourB, txtB, oneB, numsOf_len]; omega⟩ (by omega)).mono ?_
          rintro e wc1 ⟨vw1, rfl, OW1, fr1⟩
          have hb1 := fr1.sk OP1 SP1 ⟨_, _, rfl⟩
          have AC1 := Evo2.SK.trans AP1 hb1
          refine ⟨_, rfl, .inr hb1, ?_⟩
          simp only [Act.put, List.setIfInBounds_toArray, List.set_cons_zero, List.set_cons_succ]
          refine Evo2.all [6, 10] (by decide +kernel) rfl ?_
          intro wp2 gp2 iq hq
          simp only [List.mem_cons, List.mem_nil_iff, or_false] at hq
          have AP2 := Evo2.SK.trans AC1 (Evo2.sk_of gp2)
          have OP2 := own_later OW1 gp2.1
          have SP2 := Nat.le_trans HB AP2.size
          rcases hq with rfl | rfl
          ·
            refine Evo2.enters 45 _ (by rfl) (by rfl) (by go_simp; exact ⟨rfl, rfl⟩) ?_
            refine (rtext_any (w.heap.size + 1) _ ((([2] ++ fourB n ++ txtB rn ++ txtB rc ++ [rr, (ts.length : Int)]) ++ tgtsB (ts.take i)) ++ txtB rv) tgx wp2 OP2 SP2 ⟨by simp, by simp [fourB, txtB, oneB, numsOf_len]; omega⟩ (by omega)).mono ?_
            rintro e wc2 ⟨vw2, rfl, OW2, fr2⟩
            have hb2 := fr2.sk OP2 SP2 ⟨_, _, rfl⟩
            have AC2 := Evo2.SK.trans AP2 hb2
            refine ⟨_, rfl, .inr hb2, ?_⟩
            simp only [Act.put, List.setIfInBounds_toArray, List.set_cons_zero, List.set_cons_succ]
            refine Evo2.all [10] (by decide +kernel) rfl ?_
            intro wp3 gp3 iq hq
            simp only [List.mem_cons, List.mem_nil_iff, or_false] at hq
            have AP3 := Evo2.SK.trans AC2 (Evo2.sk_of gp3)
            have OP3 := own_later OW2 gp3.1
            have SP3 := Nat.le_trans HB AP3.size
            subst hq
            refine Evo2.runs (by rfl) (by rfl) (fun K' hK' => ?_)
            go_simp
            (try (simp only [Evo.after_value, Evo.after_skip]))
            refine hK'.out _ _ ?_
            clear hK'
            simp only [Act.put, List.setIfInBounds_toArray, List.set_cons_zero, List.set_cons_succ]
            refine ⟨.inr (Evo2.SK.alloc (Evo2.SK.refl _ _) SP3 _), ?_⟩
            generalize hG3 : World.alloc wp3 _ = wg3
            have GG3 : Grow.G wp3 wg3 := hG3 ▸ Grow.G.alloc (Grow.G.refl _) _
            have NC3 := (congrArg (fun W : World => W.heap[wp3.heap.size]?) hG3).symm.trans (MapKept.heap_alloc wp3 _).1
            have NK3 := Fr.own_ne OP3
            have NL3 : wp3.heap.size < wg3.heap.size := by rw [← hG3]; simp
            clear hG3
            refine Evo2.all [11] (by decide +kernel) rfl ?_
            intro wp4 gp4 iq hq
            simp only [List.mem_cons, List.mem_nil_iff, or_false] at hq
            have AP4 := Evo2.SK.trans (Evo2.SK.trans AP3 (Evo2.SK.grow GG3 (Below.mono GG3 SP3))) (Evo2.sk_of gp4)
            have OP4 := own_later (own_later OP3 GG3) gp4.1
            have SP4 := Nat.le_trans HB AP4.size
            have NC3 := (gp4.1.block _ NL3).trans NC3
            have NL3 := Nat.lt_of_lt_of_le NL3 gp4.1.size
            subst hq
            refine Fr.own_fr (by rfl) (by rfl) (Operand.tmp 91) (Operand.tmp 95) 41 (by rfl) (w.heap.size + 1) 5 i0 (.int .u8 0) 1 1 Tryz.underlying41 HI.out HZ0.out HZ1.out HZ2.out rfl (by decide) _ _ _ (by rfl) OP4 _ 1 1 [_] (by rfl) rfl (news_blk NC3) ?_ ?_ ?_ ?_ ?_ 
            · exact one1 rfl 
            · simp [fourB, txtB, oneB, numsOf_len]; unfold maxLen; omega 
            · simp [fourB, txtB, oneB, numsOf_len]; omega 
            · exact SP4
            intro vw4 wc4 OW4 fr4
            have hb4 := fr4.sk OP4 SP4 ⟨_, _, rfl⟩
            have AC4 := Evo2.SK.trans AP4 hb4
            have ⟨eq3, NK3⟩ := fr4.keep NL3 NK3
            have NC3 := eq3.trans NC3
            have NL3 := Nat.lt_of_lt_of_le NL3 fr4.g.size
            refine ⟨.inr hb4, ?_⟩
            simp only [Act.put, List.setIfInBounds_toArray, List.set_cons_zero, List.set_cons_succ]
            first | (refine Evo2.value ok 12 ?_ (by rfl) (by decide +kernel) (by rfl) ?_ ?_; rotate_left; (intro w' hg; go_simp <;> with_reducible rfl); simp only [Act.put, List.setIfInBounds_toArray, List.set_cons_zero, List.set_cons_succ])
            refine Evo2.done (by decide +kernel) (fun wz gz => ?_)
            have AZ := Evo2.SK.trans AC4 (Evo2.sk_of gz)
            have OZ := own_later OW4 gz.1
            go_wp2_with fail 
            go_roundw 
            case rel => exact ⟨i + 1, by omega, by go_num, Lib.hid (own_fin (zs := (([2] ++ fourB n ++ txtB rn ++ txtB rc ++ [rr, (ts.length : Int)]) ++ tgtsB (ts.take i)) ++ txtB rv ++ txtB tgx ++ [pc]) OZ (by first | rfl | (simp [fourB, txtB, oneB, numsOf_len]; done) | (simp [fourB, txtB, oneB, numsOf_len]; omega)) (by simp [WPC.out]) (Nat.le_refl _) (by rw [SN.out]; simp [tgtB', oneB]; omega)), Lib.hid (Evo2.SK.trans AI.out (Evo2.SK.trans AW1 AZ))⟩ 
            case measure => simp [intOf]; omega
          ·
            refine Evo2.runs (by rfl) (by rfl) (fun K' hK' => ?_)
            go_simp
            (try (simp only [Evo.after_value, Evo.after_skip]))
            refine hK'.out _ _ ?_
            clear hK'
            simp only [Act.put, List.setIfInBounds_toArray, List.set_cons_zero, List.set_cons_succ]
            refine ⟨.inr (Evo2.SK.alloc (Evo2.SK.refl _ _) SP2 _), ?_⟩
            generalize hG2 : World.alloc wp2 _ = wg2
            have GG2 : Grow.G wp2 wg2 := hG2 ▸ Grow.G.alloc (Grow.G.refl _) _
            have NC2 := (congrArg (fun W : World => W.heap[wp2.heap.size]?) hG2).symm.trans (MapKept.heap_alloc wp2 _).1
            have NK2 := Fr.own_ne OP2
            have NL2 : wp2.heap.size < wg2.heap.size := by rw [← hG2]; simp
            clear hG2
            refine Evo2.all [6] (by decide +kernel) rfl ?_
            intro wp3 gp3 iq hq
            simp only [List.mem_cons, List.mem_nil_iff, or_false] at hq
            have AP3 := Evo2.SK.trans (Evo2.SK.trans AP2 (Evo2.SK.grow GG2 (Below.mono GG2 SP2))) (Evo2.sk_of gp3)
            have OP3 := own_later (own_later OP2 GG2) gp3.1
            have SP3 := Nat.le_trans HB AP3.size
            have NC2 := (gp3.1.block _ NL2).trans NC2
            have NL2 := Nat.lt_of_lt_of_le NL2 gp3.1.size
            subst hq
            refine Evo2.enters 45 _ (by rfl) (by rfl) (by go_simp; exact ⟨rfl, rfl⟩) ?_
            refine (rtext_any (w.heap.size + 1) _ ((([2] ++ fourB n ++ txtB rn ++ txtB rc ++ [rr, (ts.length : Int)]) ++ tgtsB (ts.take i)) ++ txtB rv) tgx wp3 OP3 SP3 ⟨by simp, by simp [fourB, txtB, oneB, numsOf_len]; omega⟩ (by omega)).mono ?_
            rintro e wc3 ⟨vw3, rfl, OW3, fr3⟩
            have hb3 := fr3.sk OP3 SP3 ⟨_, _, rfl⟩
            have AC3 := Evo2.SK.trans AP3 hb3
            have ⟨eq2, NK2⟩ := fr3.keep NL2 NK2
            have NC2 := eq2.trans NC2
            have NL2 := Nat.lt_of_lt_of_le NL2 fr3.g.size
            refine ⟨_, rfl, .inr hb3, ?_⟩
            simp only [Act.put, List.setIfInBounds_toArray, List.set_cons_zero, List.set_cons_succ]
            refine Evo2.all [11] (by decide +kernel) rfl ?_
            intro wp4 gp4 iq hq
            simp only [List.mem_cons, List.mem_nil_iff, or_false] at hq
            have AP4 := Evo2.SK.trans AC3 (Evo2.sk_of gp4)
            have OP4 := own_later OW3 gp4.1
            have SP4 := Nat.le_trans HB AP4.size
            have NC2 := (gp4.1.block _ NL2).trans NC2
            have NL2 := Nat.lt_of_lt_of_le NL2 gp4.1.size
            subst hq
            refine Fr.own_fr (by rfl) (by rfl) (Operand.tmp 91) (Operand.tmp 95) 41 (by rfl) (w.heap.size + 1) 5 i0 (.int .u8 0) 1 1 Tryz.underlying41 HI.out HZ0.out HZ1.out HZ2.out rfl (by decide) _ _ _ (by rfl) OP4 _ 1 1 [_] (by rfl) rfl (news_blk NC2) ?_ ?_ ?_ ?_ ?_ 
            · exact one1 rfl 
            · simp [fourB, txtB, oneB, numsOf_len]; unfold maxLen; omega 
            · simp [fourB, txtB, oneB, numsOf_len]; omega 
            · exact SP4
            intro vw4 wc4 OW4 fr4
            have hb4 := fr4.sk OP4 SP4 ⟨_, _, rfl⟩
            have AC4 := Evo2.SK.trans AP4 hb4
            have ⟨eq2, NK2⟩ := fr4.keep NL2 NK2
            have NC2 := eq2.trans NC2
            have NL2 := Nat.lt_of_lt_of_le NL2 fr4.g.size
            refine ⟨.inr hb4, ?_⟩
            simp only [Act.put, List.setIfInBounds_toArray, List.set_cons_zero, List.set_cons_succ]
            first | (refine Evo2.value ok 12 ?_ (by rfl) (by decide +kernel) (by rfl) ?_ ?_; rotate_left; (intro w' hg; go_simp <;> with_reducible rfl); simp only [Act.put, List.setIfInBounds_toArray, List.set_cons_zero, List.set_cons_succ])
            refine Evo2.done (by decide +kernel) (fun wz gz => ?_)
            have AZ := Evo2.SK.trans AC4 (Evo2.sk_of gz)
            have OZ := own_later OW4 gz.1
            go_wp2_with fail 
            go_roundw 
            case rel => exact ⟨i + 1, by omega, by go_num, Lib.hid (own_fin (zs := (([2] ++ fourB n ++ txtB rn ++ txtB rc ++ [rr, (ts.length : Int)]) ++ tgtsB (ts.take i)) ++ txtB rv ++ txtB tgx ++ [pc]) OZ (by first | rfl | (simp [fourB, txtB, oneB, numsOf_len]; done) | (simp [fourB, txtB, oneB, numsOf_len]; omega)) (by simp [WPC.out]) (Nat.le_refl _) (by rw [SN.out]; simp [tgtB', oneB]; omega)), Lib.hid (Evo2.SK.trans AI.out (Evo2.SK.trans AW1 AZ))⟩ 
            case measure => simp [intOf]; omega
        ·
          refine Evo2.runs (by rfl) (by rfl) (fun K' hK' => ?_)
          go_simp
          (try (simp only [Evo.after_value, Evo.after_skip]))
          refine hK'.out _ _ ?_
          clear hK'
          simp only [Act.put, List.setIfInBounds_toArray, List.set_cons_zero, List.set_cons_succ]
          refine ⟨.inr (Evo2.SK.alloc (Evo2.SK.refl _ _) SP1 _), ?_⟩
          generalize hG1 : World.alloc wp1 _ = wg1
          have GG1 : Grow.G wp1 wg1 := hG1 ▸ Grow.G.alloc (Grow.G.refl _) _
          have NC1 := (congrArg (fun W : World => W.heap[wp1.heap.size]?) hG1).symm.trans (MapKept.heap_alloc wp1 _).1
          have NK1 := Fr.own_ne OP1
          have NL1 : wp1.heap.size < wg1.heap.size := by rw [← hG1]; simp
          clear hG1
          refine Evo2.all [3] (by decide +kernel) rfl ?_
          intro wp2 gp2 iq hq
          simp only [List.mem_cons, List.mem_nil_iff, or_false] at hq
          have AP2 := Evo2.SK.trans (Evo2.SK.trans AP1 (Evo2.SK.grow GG1 (Below.mono GG1 SP1))) (Evo2.sk_of gp2)
          have OP2 := own_later (own_later OP1 GG1) gp2.1
          have SP2 := Nat.le_trans HB AP2.size
          have NC1 := (gp2.1.block _ NL1).trans NC1
          have NL1 := Nat.lt_of_lt_of_le NL1 gp2.1.size
          subst hq
          refine Evo2.enters 45 _ (by rfl) (by rfl) (by go_simp; exact ⟨rfl, rfl⟩) ?_
          refine (rtext_any (w.heap.size + 1) _ (([2] ++ fourB n ++ txtB rn ++ txtB rc ++ [rr, (ts.length : Int)]) ++ tgtsB (ts.take i)) rv wp2 OP2 SP2 ⟨by simp, by simp [fourB, txtB, oneB, numsOf_len]; omega⟩ (by omega)).mono ?_
          rintro e wc2 ⟨vw2, rfl, OW2, fr2⟩
          have hb2 := fr2.sk OP2 SP2 ⟨_, _, rfl⟩
          have AC2 := Evo2.SK.trans AP2 hb2
          have ⟨eq1, NK1⟩ := fr2.keep NL1 NK1
          have NC1 := eq1.trans NC1
          have NL1 := Nat.lt_of_lt_of_le NL1 fr2.g.size
          refine ⟨_, rfl, .inr hb2, ?_⟩
          simp only [Act.put, List.setIfInBounds_toArray, List.set_cons_zero, List.set_cons_succ]
          refine Evo2.all [6] (by decide +kernel) rfl ?_
          intro wp3 gp3 iq hq
          simp only [List.mem_cons, List.mem_nil_iff, or_false] at hq
          have AP3 := Evo2.SK.trans AC2 (Evo2.sk_of gp3)
          have OP3 := own_later OW2 gp3.1
          have SP3 := Nat.le_trans HB AP3.size
          have NC1 := (gp3.1.block _ NL1).trans NC1
          have NL1 := Nat.lt_of_lt_of_le NL1 gp3.1.size
          subst hq
          refine Evo2.enters 45 _ (by rfl) (by rfl) (by go_simp; exact ⟨rfl, rfl⟩) ?_
          refine (rtext_any (w.heap.size + 1) _ ((([2] ++ fourB n ++ txtB rn ++ txtB rc ++ [rr, (ts.length : Int)]) ++ tgtsB (ts.take i)) ++ txtB rv) tgx wp3 OP3 SP3 ⟨by simp, by simp [fourB, txtB, oneB, numsOf_len]; omega⟩ (by omega)).mono ?_
          rintro e wc3 ⟨vw3, rfl, OW3, fr3⟩
          have hb3 := fr3.sk OP3 SP3 ⟨_, _, rfl⟩
          have AC3 := Evo2.SK.trans AP3 hb3
          have ⟨eq1, NK1⟩ := fr3.keep NL1 NK1
          have NC1 := eq1.trans NC1
          have NL1 := Nat.lt_of_lt_of_le NL1 fr3.g.size
          refine ⟨_, rfl, .inr hb3, ?_⟩
          simp only [Act.put, List.setIfInBounds_toArray, List.set_cons_zero, List.set_cons_succ]
          refine Evo2.all [11] (by decide +kernel) rfl ?_
          intro wp4 gp4 iq hq
          simp only [List.mem_cons, List.mem_nil_iff, or_false] at hq
          have AP4 := Evo2.SK.trans AC3 (Evo2.sk_of gp4)
          have OP4 := own_later OW3 gp4.1
          have SP4 := Nat.le_trans HB AP4.size
          have NC1 := (gp4.1.block _ NL1).trans NC1
          have NL1 := Nat.lt_of_lt_of_le NL1 gp4.1.size
          subst hq
          refine Fr.own_fr (by rfl) (by rfl) (Operand.tmp 91) (Operand.tmp 95) 41 (by rfl) (w.heap.size + 1) 5 i0 (.int .u8 0) 1 1 Tryz.underlying41 HI.out HZ0.out HZ1.out HZ2.out rfl (by decide) _ _ _ (by rfl) OP4 _ 1 1 [_] (by rfl) rfl (news_blk NC1) ?_ ?_ ?_ ?_ ?_ 
          · exact one1 rfl 
          · simp [fourB, txtB, oneB, numsOf_len]; unfold maxLen; omega 
          · simp [fourB, txtB, oneB, numsOf_len]; omega 
          · exact SP4
          intro vw4 wc4 OW4 fr4
          have hb4 := fr4.sk OP4 SP4 ⟨_, _, rfl⟩
          have AC4 := Evo2.SK.trans AP4 hb4
          have ⟨eq1, NK1⟩ := fr4.keep NL1 NK1
          have NC1 := eq1.trans NC1
          have NL1 := Nat.lt_of_lt_of_le NL1 fr4.g.size
          refine ⟨.inr hb4, ?_⟩
          simp only [Act.put, List.setIfInBounds_toArray, List.set_cons_zero, List.set_cons_succ]
          first | (refine Evo2.value ok 12 ?_ (by rfl) (by decide +kernel) (by rfl) ?_ ?_; rotate_left; (intro w' hg; go_simp <;> with_reducible rfl); simp only [Act.put, List.setIfInBounds_toArray, List.set_cons_zero, List.set_cons_succ])
          refine Evo2.done (by decide +kernel) (fun wz gz => ?_)
          have AZ := Evo2.SK.trans AC4 (Evo2.sk_of gz)
          have OZ := own_later OW4 gz.1
          go_wp2_with fail 
          go_roundw 
          case rel => exact ⟨i + 1, by omega, by go_num, Lib.hid (own_fin (zs := (([2] ++ fourB n ++ txtB rn ++ txtB rc ++ [rr, (ts.length : Int)]) ++ tgtsB (ts.take i)) ++ txtB rv ++ txtB tgx ++ [pc]) OZ (by first | rfl | (simp [fourB, txtB, oneB, numsOf_len]; done) | (simp [fourB, txtB, oneB, numsOf_len]; omega)) (by simp [WPC.out]) (Nat.le_refl _) (by rw [SN.out]; simp [tgtB', oneB]; omega)), Lib.hid (Evo2.SK.trans AI.out (Evo2.SK.trans AW1 AZ))⟩ 
          case measure => simp [intOf]; omega
      · obtain rfl : i = ts.length := by omega
        have OI := OI.out
        rw [List.take_length] at OI
        have OI := Lib.hid OI
        go_wp2_with fail
        refine bodyPost_ret (v := u3) (by simp [results, Tryz.results20, go_sem]) rfl ⟨u3, rfl, own_fin (zs := ([2] ++ fourB n ++ txtB rn ++ txtB rc ++ [rr, (ts.length : Int)]) ++ tgtsB ts) OI.out ?_ ?_ (Nat.le_succ _) ?_, Below.trans G0 (Below.mono AI.out.1 (Nat.le_succ _))⟩
        · first | rfl | (simp; done) | (simp; omega)
        · first | rfl | (simp; done)
        · rw [BY.out]; first | rfl | (simp [oneB]; done) | (simp [oneB]; omega)
theorem rbytes_any (e : EvD) (a : Option Addr) (c : Nat) (w : World) (hk : e.chk = 0) (ht : TgtSl w a e.ts) :
    Calls Tryz.prog 20 #[.agg (e.cells a c)] w fun x w' => ∃ v, x = .returned v ∧ OwnB w' w.heap.size v e.bytes ∧ Below w.heap.size w w' := by
  obtain ⟨h1, h2, _⟩ := chk_ok hk
  have h : e.k = 1 ∨ e.k = 2 ∨ e.k = 3 ∨ e.k = 4 ∨ e.k = 5 ∨ e.k = 6 ∨ e.k = 7 ∨ e.k = 8 ∨ e.k = 9 ∨ e.k = 10 ∨ e.k = 11 ∨ e.k = 12 ∨ e.k = 13 := by omega
  rcases h with h | h | h | h | h | h | h | h | h | h | h | h | h
  · exact rbytes_1 e a c w hk h ht
  · exact rbytes_2 e a c w hk h ht
  · exact rbytes_3 e a c w hk h ht
  · exact rbytes_4 e a c w hk h ht
  · exact rbytes_5 e a c w hk h ht
  · exact rbytes_6 e a c w hk h ht
  · exact rbytes_7 e a c w hk h ht
  · exact rbytes_8 e a c w hk h ht
  · exact rbytes_9 e a c w hk h ht
  · exact rbytes_10 e a c w hk h ht
  · exact rbytes_11 e a c w hk h ht
  · exact rbytes_12 e a c w hk h ht
  · exact rbytes_13 e a c w hk h ht
end Go.Proofs.YtnkekdmikopdgaaGreat
/- What damperref3's number, named, first tell. -/
namespace Go.Proofs.YtnkekdmikopdgaaGreat
set_option maxRecDepth 100000
set_option linter.unusedVariables false
set_option linter.unusedSimpArgs false
set_option linter.unnecessarySimpa false
open Go.RowKit

theorem rnumber_any (n least : Int) (w : World) :
    Calls Tryz.prog 36 #[.int .i64 n, .int .i64 least] w fun e w' => e = .returned (.int .i64 (numE n least)) ∧ w = w' := by
  have E : Hid (numE n least = if n < least ∨ 2147483647 < n then 2 else 0) := Lib.hid rfl
  go_enter Tryz.func36, Tryz.ntmps36
  go_wp2
  all_goals
    go_ret
    refine ⟨ret_i64 ?_, rfl⟩
    rw [E.out]
    first
      | (rw [if_pos (by omega)]; done)
      | (rw [if_neg (by omega)]; done)
theorem rnamedE_any (b : Bool) (w : World) :
    Calls Tryz.prog 39 #[.bool b] w fun e w' => e = .returned (.int .i64 (nmdE b)) ∧ w = w' := by
  cases b
  all_goals
    go_enter Tryz.func39, Tryz.ntmps39
    go_wp2
    go_ret
    exact ⟨rfl, rfl⟩
set_option maxHeartbeats 1000000 in
theorem rfirst_any (b off cap : Nat) (zs : List Int) (w : World) (hl : zs.length ≤ 1000) (hc : ∀ i, i < zs.length → w.cell? ⟨b, off + i, none⟩ = some (.int .i64 (zs.getD i 0))) :
    Calls Tryz.prog 35 #[.slice (some ⟨b, off, none⟩) zs.length cap] w fun e w' => e = .returned (.int .i64 (fst0 zs)) ∧ w = w' := by
  have HC := Lib.hid hc
  clear hc
  go_enter Tryz.func35, Tryz.ntmps35
  go_wp2
  go_loop [3] (fun i => ∃ k : Nat, k ≤ zs.length ∧ i = .int .i64 k ∧ Hid (∀ j, j < k → zs.getD j 0 = 0)) (fun i => zs.length - (intOf i).toNat)
  case atStart => exact ⟨0, by omega, rfl, fun j h => by omega⟩
  case round =>
    obtain ⟨k, hk, rfl, H0⟩ := hrel
    by_cases hlt : k < zs.length
    · have c0 := HC.out k hlt
      have FA := Lib.hid (fst0_at zs k hlt H0.out)
      generalize hv : zs.getD k 0 = v at *
      have HV := Lib.hid hv
      clear hv
      by_cases h0 : v = 0
      · subst h0
        go_wp2
        go_round
        case rel => exact ⟨k + 1, by omega, by go_num, fun j hj => by
          by_cases e : j = k
          · rw [e]; exact HV.out
          · exact H0.out j (by omega)⟩
        case measure => simp [intOf]; omega
      · have h0' : (v != 0) = true := by simpa using h0
        have FE := Lib.hid (FA.out h0)
        clear h0
        go_wp2
        go_ret
        exact ⟨ret_i64 FE.out.symm, rfl⟩
    · have FE := Lib.hid (fst0_none zs fun j hj => H0.out j (by omega))
      go_wp2
      go_ret
      exact ⟨ret_i64 FE.out.symm, rfl⟩
end Go.Proofs.YtnkekdmikopdgaaGreat
/- What damperlaw3's Few tells. -/
namespace Go.Proofs.YtnkekdmikopdgaaGreat
set_option maxRecDepth 100000
set_option linter.unusedVariables false
set_option linter.unusedSimpArgs false
set_option linter.unnecessarySimpa false
open Go.RowKit

def few3B (e : EvD) : Bool := decide (e.nm.size ≤ 300) && decide (e.tg.size ≤ 300) && decide (e.c.nm.size ≤ 300) && (decide (e.ts.length ≤ 12) && decide (e.rn.size ≤ 60) && decide (e.rc.size ≤ 60))
set_option maxHeartbeats 2000000 in
theorem few3_any (e : EvD) (a : Option Addr) (c : Nat) (w : World) (h1 : e.nm.size ≤ 140737488351232) (h2 : e.tg.size ≤ 140737488351232) (h3 : e.c.nm.size ≤ 140737488351232) (h4 : e.rn.size ≤ 140737488351232) (h5 : e.rc.size ≤ 140737488351232) :
    Calls Tryz.prog 12 #[.agg (e.cells a c)] w fun x w' => x = .returned (.bool (few3B e)) ∧ Below w.heap.size w w' := by
  have FE := Lib.hid (fun w => few_any e.rn e.rc a e.ts.length c e.rr w (by unfold maxLen; omega) (by unfold maxLen; omega))
  have EB : Hid (few3B e = (decide (e.nm.size ≤ 300) && decide (e.tg.size ≤ 300) && decide (e.c.nm.size ≤ 300) && (decide (e.ts.length ≤ 12) && decide (e.rn.size ≤ 60) && decide (e.rc.size ≤ 60)))) := Lib.hid rfl
  generalize few3B e = z at *
  obtain ⟨k, nm, tg, n, dr, ⟨cn, im, co, mn, mx, gr⟩, rn, rc, ts, rr⟩ := e
  unfold EvD.cells
  unfold rtV at FE
  dsimp only at *
  generalize (decide (ts.length ≤ 12) && decide (rn.size ≤ 60) && decide (rc.size ≤ 60)) = fb at *
  go_enter Tryz.func12, Tryz.ntmps12
  go_wp2_with fail
  all_goals first
    | (refine (FE.out _).mono ?_
       rintro e w1 ⟨rfl, hb1⟩
       go_wp2_with fail
       go_ret
       refine ⟨ret_bool ?_, by (repeat (first | with_reducible exact Grow.G.refl _ | with_reducible exact Below.refl _ _ | with_reducible refine Grow.G.alloc ?_ _ | with_reducible refine Grow.G.trans ?_ hb1 | ((with_reducible refine Below.setCell ?_ ?_ _); rotate_left; (focus (first | omega | (simp; done) | (simp; omega)))) | with_reducible assumption | with_reducible refine Grow.G.trans ?_ (by with_reducible assumption)))⟩
       rw [EB.out]
       cases fb <;> simp <;> omega)
    | (go_ret
       refine ⟨ret_bool ?_, by (repeat (first | with_reducible exact Grow.G.refl _ | with_reducible exact Below.refl _ _ | with_reducible refine Grow.G.alloc ?_ _ | with_reducible refine Grow.G.trans ?_ hb1 | ((with_reducible refine Below.setCell ?_ ?_ _); rotate_left; (focus (first | omega | (simp; done) | (simp; omega)))) | with_reducible assumption | with_reducible refine Grow.G.trans ?_ (by with_reducible assumption)))⟩
       rw [EB.out]
       simp
       omega)
end Go.Proofs.YtnkekdmikopdgaaGreat

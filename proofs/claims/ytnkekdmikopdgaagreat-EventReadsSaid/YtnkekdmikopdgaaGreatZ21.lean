/- My own texts RBytes, RBytes2, laid in one file. -/
import Derived.Test.YtnkekdmikopdgaaGreatZ5
import Derived.Test.YtnkekdmikopdgaaGreatZ2

/- What damper/damperref3.Bytes writes. -/
namespace Go.Proofs.YtnkekdmikopdgaaGreat
set_option maxRecDepth 100000
set_option linter.unusedVariables false
set_option linter.unusedSimpArgs false
set_option linter.unnecessarySimpa false
open Go.RowKit

set_option maxHeartbeats 4000000 in
theorem rbytes_1 (e : EvD) (a : Option Addr) (c : Nat) (w : World) (hk : e.chk = 0) (h1 : e.k = 1) (ht : TgtSl w a e.ts) :
  Calls Tryz.prog 20 #[.agg (e.cells a c)] w fun x w' => ∃ v, x = .returned v ∧ OwnB w' w.heap.size v e.bytes ∧ Below w.heap.size w w' := by
 obtain ⟨i0, hi, hz0, hz1, hz2⟩ := info_parts infoB
 have HI := Lib.hid hi; have HZ0 := Lib.hid hz0; have HZ1 := Lib.hid hz1; have HZ2 := Lib.hid hz2
 have HT := Lib.hid ht
 obtain ⟨-, -, -, -, hbo⟩ := chk_ok hk
 obtain ⟨k, nm, tg, n, dr, ⟨cn, im, co, mn, mx, gr⟩, rn, rc, ts, rr⟩ := e
 simp only at h1
 subst h1
 unfold n4 n1 at hbo
 dsimp only at hbo
 rw [if_pos rfl] at hbo
 obtain ⟨hn, hcn, him, hco, hmn, hmx, hgr⟩ := hbo
 have BY : Hid (EvD.bytes ⟨1, nm, tg, n, dr, ⟨cn, im, co, mn, mx, gr⟩, rn, rc, ts, rr⟩ = oneB 1 ++ bodyB 1 ⟨1, nm, tg, n, dr, ⟨cn, im, co, mn, mx, gr⟩, rn, rc, ts, rr⟩) := Lib.hid rfl
 unfold bodyB at BY
 dsimp only at BY
 rw [if_pos rfl] at BY
 clear hi hz0 hz1 hz2 hk ht
 unfold EvD.cells
 simp only
 go_enter Tryz.func20, Tryz.ntmps20
 go_wp2_with fail
 obtain ⟨W0, hW⟩ : ∃ W0, W0 = (w.alloc (.cells #[.int .i64 1, .string nm, .string tg, .int .i64 n, .int .i64 dr, .string cn, .int .i64 im, .int .i64 co, .int .i64 mn, .int .i64 mx, .int .i64 gr, .string rn, .string rc, .slice a ts.length c, .int .i64 rr] 28)).alloc (.cells #[.int .u8 1] 5) := ⟨_, rfl⟩
 rw [← hW]
 have OB : OwnB W0 (w.heap.size + 1) (.slice (some ⟨w.heap.size + 1, 0, none⟩) 1 1) [1] := by
  have := own_one (w.alloc (.cells #[.int .i64 1, .string nm, .string tg, .int .i64 n, .int .i64 dr, .string cn, .int .i64 im, .int .i64 co, .int .i64 mn, .int .i64 mx, .int .i64 gr, .string rn, .string rc, .slice a ts.length c, .int .i64 rr] 28)) 5 (.int .u8 1) (w.heap.size + 1) (by simp)
  rw [hW]
  simpa [OwnB] using this
 have EB : EvBox W0 w.heap.size #[.int .i64 1, .string nm, .string tg, .int .i64 n, .int .i64 dr, .string cn, .int .i64 im, .int .i64 co, .int .i64 mn, .int .i64 mx, .int .i64 gr, .string rn, .string rc, .slice a ts.length c, .int .i64 rr] := ⟨fun i => by rw [hW, World.cell?_alloc_old _ _ _ (by simp)]; exact World.cell?_alloc_new _ _ _ _⟩
 have HB : w.heap.size + 1 ≤ W0.heap.size := by rw [hW]; simp
 have G0 : Grow.G w W0 := by rw [hW]; exact Grow.G.alloc (Grow.G.alloc (Grow.G.refl _) _) _
 clear hW
 have NBX : ∃ x, (#[.int .i64 1, .string nm, .string tg, .int .i64 n, .int .i64 dr, .string cn, .int .i64 im, .int .i64 co, .int .i64 mn, .int .i64 mx, .int .i64 gr, .string rn, .string rc, .slice a ts.length c, .int .i64 rr] : Array Value)[0]? = some x ∧ ∀ z, x ≠ .int .u8 z := ⟨_, rfl, fun z e => by cases e⟩
 have KC := Lib.hid (fun (w' : World) (h : Evo2.SK (w.heap.size + 1) W0 w') => EB.c15 NBX h)
 refine Evo2.start' (ℓ := none) (S := Evo2.SB (w.heap.size + 1)) (E := Evo2.EB (w.heap.size + 1)) (by kernel_rfl) ⟨Evo2.preB _, by decide +kernel, (by intro c a d v w h; cases d <;> exact h), by decide +kernel⟩ (fun ok => ?_)
 refine Evo2.va ok 0 _ _ ?_
 refine Evo2.va ok 1 _ _ ?_
 first | (refine Evo2.vl ok 2 KC.out (Evo2.SK.refl _ _) _ _ ?_) | (refine Evo2.va ok 2 _ _ ?_)
 refine Evo2.va ok 4 _ _ ?_
 refine Evo2.va ok 5 _ _ ?_
 first | (refine Evo2.vl ok 6 KC.out (Evo2.SK.refl _ _) _ _ ?_) | (refine Evo2.va ok 6 _ _ ?_)
 refine Evo2.all [3] (by decide +kernel) rfl ?_
 intro wp1 gp1 iq hq
 simp only [List.mem_cons, List.mem_nil_iff, or_false] at hq
 have AP1 := Evo2.SK.trans (Evo2.SK.refl _ _) (Evo2.sk_of gp1)
 have OP1 := own_later OB gp1.1
 have SP1 := Nat.le_trans HB AP1.size
 subst hq
 refine Evo2.enters 46 _ (by rfl) (by rfl) (by go_simp; exact ⟨rfl, rfl⟩) ?_
 refine (rfour_any (w.heap.size + 1) _ [1] n wp1 OP1 SP1 ⟨by decide, by decide⟩ ⟨hn.1, hn.2⟩).mono ?_
 rintro e wc1 ⟨vw1, rfl, OW1, fr1⟩
 have hb1 := fr1.sk OP1 SP1 ⟨_, _, rfl⟩
 have AC1 := Evo2.SK.trans AP1 hb1
 refine ⟨_, rfl, .inr hb1, ?_⟩
 simp only [Act.put, L0, L1, L2]
 refine Evo2.all [7] (by decide +kernel) rfl ?_
 intro wp2 gp2 iq hq
 simp only [List.mem_cons, List.mem_nil_iff, or_false] at hq
 have AP2 := Evo2.SK.trans AC1 (Evo2.sk_of gp2)
 have OP2 := own_later OW1 gp2.1
 have SP2 := Nat.le_trans HB AP2.size
 subst hq
 refine Evo2.enters 45 _ (by rfl) (by rfl) (by go_simp; exact ⟨rfl, rfl⟩) ?_
 refine (rtext_any (w.heap.size + 1) _ ([1] ++ fourB n) cn wp2 OP2 SP2 ⟨by simp, by simp [fourB]⟩ (by omega)).mono ?_
 rintro e wc2 ⟨vw2, rfl, OW2, fr2⟩
 have hb2 := fr2.sk OP2 SP2 ⟨_, _, rfl⟩
 have AC2 := Evo2.SK.trans AP2 hb2
 refine ⟨_, rfl, .inr hb2, ?_⟩
 simp only [Act.put, L0, L1, L2]
 refine Evo2.va ok 8 _ _ ?_
 refine Evo2.done (by decide +kernel) (fun wz gz => ?_)
 have AZ := Evo2.SK.trans AC2 (Evo2.sk_of gz)
 have OZ := own_later OW2 gz.1
 obtain ⟨q1, q2, q3, q4, q5, q6, q7, q8, q9, q10, q11, q12, q13, q14, q15⟩ := KC.out wz AZ
 have SZ := Nat.le_trans HB AZ.size
 have i1 := him.1; have i2 := him.2; have i3 := hco.1; have i4 := hco.2; have i5 := hmn.1; have i6 := hmn.2; have i7 := hmx.1; have i8 := hmx.2; have i9 := hgr.1; have i10 := hgr.2
 have OZH := Lib.hid OZ
 clear OZ him hco hmn hmx hgr OW1 OW2 OP1 OP2 OB ok
 go_wp2_with (at_builtin; refine Fr.wpList_append_fr _ rfl _ _ 41 rfl (w.heap.size + 1) 5 i0 (.int .u8 0) 1 1 Tryz.underlying41 HI.out HZ0.out HZ1.out HZ2.out rfl (by decide) _ _ _ rfl (own_later OZH.out ?_) _ 5 5 [_, _, _, _, _] rfl rfl (news_new _ [_, _, _, _, _] _ _ ?_) ?_ ?_ ?_ ?_ ?_)
 ·
  (repeat (first | with_reducible exact Grow.G.refl _ | with_reducible exact Below.refl _ _ | with_reducible refine Grow.G.alloc ?_ _ | with_reducible refine Grow.G.trans ?_ hb1 | ((with_reducible refine Below.setCell ?_ ?_ _); rotate_left; (focus (first | omega | (simp; done) | (simp; omega)))) | with_reducible assumption | with_reducible refine Grow.G.trans ?_ (by with_reducible assumption)))
 ·
  first | rfl | (simp; done)
 ·
  intro u hu; simp at hu; rcases hu with rfl | rfl | rfl | rfl | rfl <;> rfl
 ·
  simp [fourB, txtB, oneB, numsOf_len]; unfold maxLen; omega
 ·
  simp [fourB, txtB, oneB, numsOf_len]; omega
 ·
  simp; omega
 ·
  intro v' w1 hown hgr'
  have AW := Evo2.SK.trans AZ (Evo2.SK.trans (Evo2.SK.alloc (Evo2.SK.refl _ _) SZ _) (hgr'.sk (own_later OZH.out (show Grow.G wz _ by (repeat (first | with_reducible exact Grow.G.refl _ | with_reducible exact Below.refl _ _ | with_reducible refine Grow.G.alloc ?_ _ | with_reducible refine Grow.G.trans ?_ hb1 | ((with_reducible refine Below.setCell ?_ ?_ _); rotate_left; (focus (first | omega | (simp; done) | (simp; omega)))) | with_reducible assumption | with_reducible refine Grow.G.trans ?_ (by with_reducible assumption))))) (by simp; omega) ⟨_, _, rfl⟩))
  have HO := Lib.hid hown
  clear hown hgr' q1 q2 q3 q4 q5 q6 q7 q8 q9 q10 q11 q12 q13 q14 q15
  go_wp2_with fail
  refine bodyPost_ret (v := v') (by simp [results, Tryz.results20, go_sem]) rfl ⟨v', rfl, own_fin (zs := [1] ++ fourB n ++ txtB cn ++ [im, co, mn, mx, gr]) HO.out ?_ ?_ (Nat.le_succ _) ?_, Below.trans G0 (Below.mono AW.1 (Nat.le_succ _))⟩
  ·
   first | rfl | (simp; done) | (simp; omega)
  ·
   first | rfl | (simp; done)
  ·
   rw [BY.out]; first | rfl | (simp [oneB]; done) | (simp [oneB]; omega)

set_option maxHeartbeats 4000000 in
theorem rbytes_3 (e : EvD) (a : Option Addr) (c : Nat) (w : World) (hk : e.chk = 0) (h1 : e.k = 3) (ht : TgtSl w a e.ts) :
  Calls Tryz.prog 20 #[.agg (e.cells a c)] w fun x w' => ∃ v, x = .returned v ∧ OwnB w' w.heap.size v e.bytes ∧ Below w.heap.size w w' := by
 obtain ⟨i0, hi, hz0, hz1, hz2⟩ := info_parts infoB
 have HI := Lib.hid hi; have HZ0 := Lib.hid hz0; have HZ1 := Lib.hid hz1; have HZ2 := Lib.hid hz2
 have HT := Lib.hid ht
 obtain ⟨-, -, -, -, hbo⟩ := chk_ok hk
 obtain ⟨k, nm, tg, n, dr, ⟨cn, im, co, mn, mx, gr⟩, rn, rc, ts, rr⟩ := e
 simp only at h1
 subst h1
 unfold n4 n1 at hbo
 dsimp only at hbo
 rw [if_neg (by decide : ¬ (3 : Int) = 1), if_neg (by decide : ¬ (3 : Int) = 2), if_pos rfl] at hbo
 obtain ⟨hn, hnm, hdr⟩ := hbo
 have BY : Hid (EvD.bytes ⟨3, nm, tg, n, dr, ⟨cn, im, co, mn, mx, gr⟩, rn, rc, ts, rr⟩ = oneB 3 ++ bodyB 3 ⟨3, nm, tg, n, dr, ⟨cn, im, co, mn, mx, gr⟩, rn, rc, ts, rr⟩) := Lib.hid rfl
 unfold bodyB at BY
 dsimp only at BY
 rw [if_neg (by decide : ¬ (3 : Int) = 1), if_neg (by decide : ¬ (3 : Int) = 2), if_pos rfl] at BY
 clear hi hz0 hz1 hz2 hk ht
 unfold EvD.cells
 simp only
 go_enter Tryz.func20, Tryz.ntmps20
 go_wp2_with fail
 obtain ⟨W0, hW⟩ : ∃ W0, W0 = (w.alloc (.cells #[.int .i64 3, .string nm, .string tg, .int .i64 n, .int .i64 dr, .string cn, .int .i64 im, .int .i64 co, .int .i64 mn, .int .i64 mx, .int .i64 gr, .string rn, .string rc, .slice a ts.length c, .int .i64 rr] 28)).alloc (.cells #[.int .u8 3] 5) := ⟨_, rfl⟩
 rw [← hW]
 have OB : OwnB W0 (w.heap.size + 1) (.slice (some ⟨w.heap.size + 1, 0, none⟩) 1 1) [3] := by
  have := own_one (w.alloc (.cells #[.int .i64 3, .string nm, .string tg, .int .i64 n, .int .i64 dr, .string cn, .int .i64 im, .int .i64 co, .int .i64 mn, .int .i64 mx, .int .i64 gr, .string rn, .string rc, .slice a ts.length c, .int .i64 rr] 28)) 5 (.int .u8 3) (w.heap.size + 1) (by simp)
  rw [hW]
  simpa [OwnB] using this
 have EB : EvBox W0 w.heap.size #[.int .i64 3, .string nm, .string tg, .int .i64 n, .int .i64 dr, .string cn, .int .i64 im, .int .i64 co, .int .i64 mn, .int .i64 mx, .int .i64 gr, .string rn, .string rc, .slice a ts.length c, .int .i64 rr] := ⟨fun i => by rw [hW, World.cell?_alloc_old _ _ _ (by simp)]; exact World.cell?_alloc_new _ _ _ _⟩
 have HB : w.heap.size + 1 ≤ W0.heap.size := by rw [hW]; simp
 have G0 : Grow.G w W0 := by rw [hW]; exact Grow.G.alloc (Grow.G.alloc (Grow.G.refl _) _) _
 clear hW
 have NBX : ∃ x, (#[.int .i64 3, .string nm, .string tg, .int .i64 n, .int .i64 dr, .string cn, .int .i64 im, .int .i64 co, .int .i64 mn, .int .i64 mx, .int .i64 gr, .string rn, .string rc, .slice a ts.length c, .int .i64 rr] : Array Value)[0]? = some x ∧ ∀ z, x ≠ .int .u8 z := ⟨_, rfl, fun z e => by cases e⟩
 have KC := Lib.hid (fun (w' : World) (h : Evo2.SK (w.heap.size + 1) W0 w') => EB.c15 NBX h)
 refine Evo2.start' (ℓ := none) (S := Evo2.SB (w.heap.size + 1)) (E := Evo2.EB (w.heap.size + 1)) (by kernel_rfl) ⟨Evo2.preB _, by decide +kernel, (by intro c a d v w h; cases d <;> exact h), by decide +kernel⟩ (fun ok => ?_)
 refine Evo2.va ok 0 _ _ ?_
 refine Evo2.va ok 1 _ _ ?_
 first | (refine Evo2.vl ok 2 KC.out (Evo2.SK.refl _ _) _ _ ?_) | (refine Evo2.va ok 2 _ _ ?_)
 refine Evo2.va ok 4 _ _ ?_
 first | (refine Evo2.vl ok 5 KC.out (Evo2.SK.refl _ _) _ _ ?_) | (refine Evo2.va ok 5 _ _ ?_)
 refine Evo2.va ok 7 _ _ ?_
 first | (refine Evo2.vl ok 8 KC.out (Evo2.SK.refl _ _) _ _ ?_) | (refine Evo2.va ok 8 _ _ ?_)
 refine Evo2.all [3] (by decide +kernel) rfl ?_
 intro wp1 gp1 iq hq
 simp only [List.mem_cons, List.mem_nil_iff, or_false] at hq
 have AP1 := Evo2.SK.trans (Evo2.SK.refl _ _) (Evo2.sk_of gp1)
 have OP1 := own_later OB gp1.1
 have SP1 := Nat.le_trans HB AP1.size
 subst hq
 refine Evo2.enters 46 _ (by rfl) (by rfl) (by go_simp; exact ⟨rfl, rfl⟩) ?_
 refine (rfour_any (w.heap.size + 1) _ [3] n wp1 OP1 SP1 ⟨by decide, by decide⟩ ⟨hn.1, hn.2⟩).mono ?_
 rintro e wc1 ⟨vw1, rfl, OW1, fr1⟩
 have hb1 := fr1.sk OP1 SP1 ⟨_, _, rfl⟩
 have AC1 := Evo2.SK.trans AP1 hb1
 refine ⟨_, rfl, .inr hb1, ?_⟩
 simp only [Act.put, L0, L1, L2]
 refine Evo2.all [6] (by decide +kernel) rfl ?_
 intro wp2 gp2 iq hq
 simp only [List.mem_cons, List.mem_nil_iff, or_false] at hq
 have AP2 := Evo2.SK.trans AC1 (Evo2.sk_of gp2)
 have OP2 := own_later OW1 gp2.1
 have SP2 := Nat.le_trans HB AP2.size
 subst hq
 refine Evo2.enters 45 _ (by rfl) (by rfl) (by go_simp; exact ⟨rfl, rfl⟩) ?_
 refine (rtext_any (w.heap.size + 1) _ ([3] ++ fourB n) nm wp2 OP2 SP2 ⟨by simp, by simp [fourB]⟩ (by omega)).mono ?_
 rintro e wc2 ⟨vw2, rfl, OW2, fr2⟩
 have hb2 := fr2.sk OP2 SP2 ⟨_, _, rfl⟩
 have AC2 := Evo2.SK.trans AP2 hb2
 refine ⟨_, rfl, .inr hb2, ?_⟩
 simp only [Act.put, L0, L1, L2]
 refine Evo2.all [9] (by decide +kernel) rfl ?_
 intro wp3 gp3 iq hq
 simp only [List.mem_cons, List.mem_nil_iff, or_false] at hq
 have AP3 := Evo2.SK.trans AC2 (Evo2.sk_of gp3)
 have OP3 := own_later OW2 gp3.1
 have SP3 := Nat.le_trans HB AP3.size
 subst hq
 refine Evo2.enters 46 _ (by rfl) (by rfl) (by go_simp; exact ⟨rfl, rfl⟩) ?_
 refine (rfour_any (w.heap.size + 1) _ ([3] ++ fourB n ++ txtB nm) dr wp3 OP3 SP3 ⟨by simp, by simp [fourB, txtB, oneB, numsOf_len]; omega⟩ ⟨hdr.1, hdr.2⟩).mono ?_
 rintro e wc3 ⟨vw3, rfl, OW3, fr3⟩
 have hb3 := fr3.sk OP3 SP3 ⟨_, _, rfl⟩
 have AC3 := Evo2.SK.trans AP3 hb3
 refine ⟨_, rfl, .inr hb3, ?_⟩
 simp only [Act.put, L0, L1, L2]
 refine Evo2.va ok 10 _ _ ?_
 refine Evo2.done (by decide +kernel) (fun wz gz => ?_)
 have AZ := Evo2.SK.trans AC3 (Evo2.sk_of gz)
 have OZ := own_later OW3 gz.1
 go_wp2_with fail
 refine bodyPost_ret (v := vw3) (by simp [results, Tryz.results20, go_sem]) rfl ⟨vw3, rfl, own_fin (zs := [3] ++ fourB n ++ txtB nm ++ fourB dr) OZ ?_ ?_ (Nat.le_succ _) ?_, Below.trans G0 (Below.mono AZ.1 (Nat.le_succ _))⟩
 ·
  first | rfl | (simp; done) | (simp; omega)
 ·
  first | rfl | (simp; done)
 ·
  rw [BY.out]; first | rfl | (simp [oneB]; done) | (simp [oneB]; omega)

set_option maxHeartbeats 4000000 in
theorem rbytes_4 (e : EvD) (a : Option Addr) (c : Nat) (w : World) (hk : e.chk = 0) (h1 : e.k = 4) (ht : TgtSl w a e.ts) :
  Calls Tryz.prog 20 #[.agg (e.cells a c)] w fun x w' => ∃ v, x = .returned v ∧ OwnB w' w.heap.size v e.bytes ∧ Below w.heap.size w w' := by
 obtain ⟨i0, hi, hz0, hz1, hz2⟩ := info_parts infoB
 have HI := Lib.hid hi; have HZ0 := Lib.hid hz0; have HZ1 := Lib.hid hz1; have HZ2 := Lib.hid hz2
 have HT := Lib.hid ht
 obtain ⟨-, -, -, -, hbo⟩ := chk_ok hk
 obtain ⟨k, nm, tg, n, dr, ⟨cn, im, co, mn, mx, gr⟩, rn, rc, ts, rr⟩ := e
 simp only at h1
 subst h1
 unfold n4 n1 at hbo
 dsimp only at hbo
 rw [if_neg (by decide : ¬ (4 : Int) = 1), if_neg (by decide : ¬ (4 : Int) = 2), if_neg (by decide : ¬ (4 : Int) = 3), if_pos rfl] at hbo
 obtain ⟨hn, hnm, htg, hdr⟩ := hbo
 have BY : Hid (EvD.bytes ⟨4, nm, tg, n, dr, ⟨cn, im, co, mn, mx, gr⟩, rn, rc, ts, rr⟩ = oneB 4 ++ bodyB 4 ⟨4, nm, tg, n, dr, ⟨cn, im, co, mn, mx, gr⟩, rn, rc, ts, rr⟩) := Lib.hid rfl
 unfold bodyB at BY
 dsimp only at BY
 rw [if_neg (by decide : ¬ (4 : Int) = 1), if_neg (by decide : ¬ (4 : Int) = 2), if_neg (by decide : ¬ (4 : Int) = 3), if_pos rfl] at BY
 clear hi hz0 hz1 hz2 hk ht
 unfold EvD.cells
 simp only
 go_enter Tryz.func20, Tryz.ntmps20
 go_wp2_with fail
 obtain ⟨W0, hW⟩ : ∃ W0, W0 = (w.alloc (.cells #[.int .i64 4, .string nm, .string tg, .int .i64 n, .int .i64 dr, .string cn, .int .i64 im, .int .i64 co, .int .i64 mn, .int .i64 mx, .int .i64 gr, .string rn, .string rc, .slice a ts.length c, .int .i64 rr] 28)).alloc (.cells #[.int .u8 4] 5) := ⟨_, rfl⟩
 rw [← hW]
 have OB : OwnB W0 (w.heap.size + 1) (.slice (some ⟨w.heap.size + 1, 0, none⟩) 1 1) [4] := by
  have := own_one (w.alloc (.cells #[.int .i64 4, .string nm, .string tg, .int .i64 n, .int .i64 dr, .string cn, .int .i64 im, .int .i64 co, .int .i64 mn, .int .i64 mx, .int .i64 gr, .string rn, .string rc, .slice a ts.length c, .int .i64 rr] 28)) 5 (.int .u8 4) (w.heap.size + 1) (by simp)
  rw [hW]
  simpa [OwnB] using this
 have EB : EvBox W0 w.heap.size #[.int .i64 4, .string nm, .string tg, .int .i64 n, .int .i64 dr, .string cn, .int .i64 im, .int .i64 co, .int .i64 mn, .int .i64 mx, .int .i64 gr, .string rn, .string rc, .slice a ts.length c, .int .i64 rr] := ⟨fun i => by rw [hW, World.cell?_alloc_old _ _ _ (by simp)]; exact World.cell?_alloc_new _ _ _ _⟩
 have HB : w.heap.size + 1 ≤ W0.heap.size := by rw [hW]; simp
 have G0 : Grow.G w W0 := by rw [hW]; exact Grow.G.alloc (Grow.G.alloc (Grow.G.refl _) _) _
 clear hW
 have NBX : ∃ x, (#[.int .i64 4, .string nm, .string tg, .int .i64 n, .int .i64 dr, .string cn, .int .i64 im, .int .i64 co, .int .i64 mn, .int .i64 mx, .int .i64 gr, .string rn, .string rc, .slice a ts.length c, .int .i64 rr] : Array Value)[0]? = some x ∧ ∀ z, x ≠ .int .u8 z := ⟨_, rfl, fun z e => by cases e⟩
 have KC := Lib.hid (fun (w' : World) (h : Evo2.SK (w.heap.size + 1) W0 w') => EB.c15 NBX h)
 refine Evo2.start' (ℓ := none) (S := Evo2.SB (w.heap.size + 1)) (E := Evo2.EB (w.heap.size + 1)) (by kernel_rfl) ⟨Evo2.preB _, by decide +kernel, (by intro c a d v w h; cases d <;> exact h), by decide +kernel⟩ (fun ok => ?_)
 refine Evo2.va ok 0 _ _ ?_
 refine Evo2.va ok 1 _ _ ?_
 first | (refine Evo2.vl ok 2 KC.out (Evo2.SK.refl _ _) _ _ ?_) | (refine Evo2.va ok 2 _ _ ?_)
 refine Evo2.va ok 4 _ _ ?_
 first | (refine Evo2.vl ok 5 KC.out (Evo2.SK.refl _ _) _ _ ?_) | (refine Evo2.va ok 5 _ _ ?_)
 refine Evo2.va ok 7 _ _ ?_
 first | (refine Evo2.vl ok 8 KC.out (Evo2.SK.refl _ _) _ _ ?_) | (refine Evo2.va ok 8 _ _ ?_)
 refine Evo2.va ok 10 _ _ ?_
 first | (refine Evo2.vl ok 11 KC.out (Evo2.SK.refl _ _) _ _ ?_) | (refine Evo2.va ok 11 _ _ ?_)
 refine Evo2.all [3] (by decide +kernel) rfl ?_
 intro wp1 gp1 iq hq
 simp only [List.mem_cons, List.mem_nil_iff, or_false] at hq
 have AP1 := Evo2.SK.trans (Evo2.SK.refl _ _) (Evo2.sk_of gp1)
 have OP1 := own_later OB gp1.1
 have SP1 := Nat.le_trans HB AP1.size
 subst hq
 refine Evo2.enters 46 _ (by rfl) (by rfl) (by go_simp; exact ⟨rfl, rfl⟩) ?_
 refine (rfour_any (w.heap.size + 1) _ [4] n wp1 OP1 SP1 ⟨by decide, by decide⟩ ⟨hn.1, hn.2⟩).mono ?_
 rintro e wc1 ⟨vw1, rfl, OW1, fr1⟩
 have hb1 := fr1.sk OP1 SP1 ⟨_, _, rfl⟩
 have AC1 := Evo2.SK.trans AP1 hb1
 refine ⟨_, rfl, .inr hb1, ?_⟩
 simp only [Act.put, L0, L1, L2]
 refine Evo2.all [6] (by decide +kernel) rfl ?_
 intro wp2 gp2 iq hq
 simp only [List.mem_cons, List.mem_nil_iff, or_false] at hq
 have AP2 := Evo2.SK.trans AC1 (Evo2.sk_of gp2)
 have OP2 := own_later OW1 gp2.1
 have SP2 := Nat.le_trans HB AP2.size
 subst hq
 refine Evo2.enters 45 _ (by rfl) (by rfl) (by go_simp; exact ⟨rfl, rfl⟩) ?_
 refine (rtext_any (w.heap.size + 1) _ ([4] ++ fourB n) nm wp2 OP2 SP2 ⟨by simp, by simp [fourB]⟩ (by omega)).mono ?_
 rintro e wc2 ⟨vw2, rfl, OW2, fr2⟩
 have hb2 := fr2.sk OP2 SP2 ⟨_, _, rfl⟩
 have AC2 := Evo2.SK.trans AP2 hb2
 refine ⟨_, rfl, .inr hb2, ?_⟩
 simp only [Act.put, L0, L1, L2]
 refine Evo2.all [9] (by decide +kernel) rfl ?_
 intro wp3 gp3 iq hq
 simp only [List.mem_cons, List.mem_nil_iff, or_false] at hq
 have AP3 := Evo2.SK.trans AC2 (Evo2.sk_of gp3)
 have OP3 := own_later OW2 gp3.1
 have SP3 := Nat.le_trans HB AP3.size
 subst hq
 refine Evo2.enters 45 _ (by rfl) (by rfl) (by go_simp; exact ⟨rfl, rfl⟩) ?_
 refine (rtext_any (w.heap.size + 1) _ ([4] ++ fourB n ++ txtB nm) tg wp3 OP3 SP3 ⟨by simp, by simp [fourB, txtB, oneB, numsOf_len]; omega⟩ (by omega)).mono ?_
 rintro e wc3 ⟨vw3, rfl, OW3, fr3⟩
 have hb3 := fr3.sk OP3 SP3 ⟨_, _, rfl⟩
 have AC3 := Evo2.SK.trans AP3 hb3
 refine ⟨_, rfl, .inr hb3, ?_⟩
 simp only [Act.put, L0, L1, L2]
 refine Evo2.all [12] (by decide +kernel) rfl ?_
 intro wp4 gp4 iq hq
 simp only [List.mem_cons, List.mem_nil_iff, or_false] at hq
 have AP4 := Evo2.SK.trans AC3 (Evo2.sk_of gp4)
 have OP4 := own_later OW3 gp4.1
 have SP4 := Nat.le_trans HB AP4.size
 subst hq
 refine Evo2.enters 46 _ (by rfl) (by rfl) (by go_simp; exact ⟨rfl, rfl⟩) ?_
 refine (rfour_any (w.heap.size + 1) _ ([4] ++ fourB n ++ txtB nm ++ txtB tg) dr wp4 OP4 SP4 ⟨by simp, by simp [fourB, txtB, oneB, numsOf_len]; omega⟩ ⟨hdr.1, hdr.2⟩).mono ?_
 rintro e wc4 ⟨vw4, rfl, OW4, fr4⟩
 have hb4 := fr4.sk OP4 SP4 ⟨_, _, rfl⟩
 have AC4 := Evo2.SK.trans AP4 hb4
 refine ⟨_, rfl, .inr hb4, ?_⟩
 simp only [Act.put, L0, L1, L2]
 refine Evo2.va ok 13 _ _ ?_
 refine Evo2.done (by decide +kernel) (fun wz gz => ?_)
 have AZ := Evo2.SK.trans AC4 (Evo2.sk_of gz)
 have OZ := own_later OW4 gz.1
 go_wp2_with fail
 refine bodyPost_ret (v := vw4) (by simp [results, Tryz.results20, go_sem]) rfl ⟨vw4, rfl, own_fin (zs := [4] ++ fourB n ++ txtB nm ++ txtB tg ++ fourB dr) OZ ?_ ?_ (Nat.le_succ _) ?_, Below.trans G0 (Below.mono AZ.1 (Nat.le_succ _))⟩
 ·
  first | rfl | (simp; done) | (simp; omega)
 ·
  first | rfl | (simp; done)
 ·
  rw [BY.out]; first | rfl | (simp [oneB]; done) | (simp [oneB]; omega)

set_option maxHeartbeats 4000000 in
theorem rbytes_5 (e : EvD) (a : Option Addr) (c : Nat) (w : World) (hk : e.chk = 0) (h1 : e.k = 5) (ht : TgtSl w a e.ts) :
  Calls Tryz.prog 20 #[.agg (e.cells a c)] w fun x w' => ∃ v, x = .returned v ∧ OwnB w' w.heap.size v e.bytes ∧ Below w.heap.size w w' := by
 obtain ⟨i0, hi, hz0, hz1, hz2⟩ := info_parts infoB
 have HI := Lib.hid hi; have HZ0 := Lib.hid hz0; have HZ1 := Lib.hid hz1; have HZ2 := Lib.hid hz2
 have HT := Lib.hid ht
 obtain ⟨-, -, -, -, hbo⟩ := chk_ok hk
 obtain ⟨k, nm, tg, n, dr, ⟨cn, im, co, mn, mx, gr⟩, rn, rc, ts, rr⟩ := e
 simp only at h1
 subst h1
 unfold n4 n1 at hbo
 dsimp only at hbo
 rw [if_neg (by decide : ¬ (5 : Int) = 1), if_neg (by decide : ¬ (5 : Int) = 2), if_neg (by decide : ¬ (5 : Int) = 3), if_neg (by decide : ¬ (5 : Int) = 4), if_pos (by decide : 5 ≤ (5 : Int) ∧ (5 : Int) ≤ 8)] at hbo
 have hn := hbo
 have BY : Hid (EvD.bytes ⟨5, nm, tg, n, dr, ⟨cn, im, co, mn, mx, gr⟩, rn, rc, ts, rr⟩ = oneB 5 ++ bodyB 5 ⟨5, nm, tg, n, dr, ⟨cn, im, co, mn, mx, gr⟩, rn, rc, ts, rr⟩) := Lib.hid rfl
 unfold bodyB at BY
 dsimp only at BY
 rw [if_neg (by decide : ¬ (5 : Int) = 1), if_neg (by decide : ¬ (5 : Int) = 2), if_neg (by decide : ¬ (5 : Int) = 3), if_neg (by decide : ¬ (5 : Int) = 4), if_pos (by decide : 5 ≤ (5 : Int) ∧ (5 : Int) ≤ 8)] at BY
 clear hi hz0 hz1 hz2 hk ht
 unfold EvD.cells
 simp only
 go_enter Tryz.func20, Tryz.ntmps20
 go_wp2_with fail
 obtain ⟨W0, hW⟩ : ∃ W0, W0 = (w.alloc (.cells #[.int .i64 5, .string nm, .string tg, .int .i64 n, .int .i64 dr, .string cn, .int .i64 im, .int .i64 co, .int .i64 mn, .int .i64 mx, .int .i64 gr, .string rn, .string rc, .slice a ts.length c, .int .i64 rr] 28)).alloc (.cells #[.int .u8 5] 5) := ⟨_, rfl⟩
 rw [← hW]
 have OB : OwnB W0 (w.heap.size + 1) (.slice (some ⟨w.heap.size + 1, 0, none⟩) 1 1) [5] := by
  have := own_one (w.alloc (.cells #[.int .i64 5, .string nm, .string tg, .int .i64 n, .int .i64 dr, .string cn, .int .i64 im, .int .i64 co, .int .i64 mn, .int .i64 mx, .int .i64 gr, .string rn, .string rc, .slice a ts.length c, .int .i64 rr] 28)) 5 (.int .u8 5) (w.heap.size + 1) (by simp)
  rw [hW]
  simpa [OwnB] using this
 have EB : EvBox W0 w.heap.size #[.int .i64 5, .string nm, .string tg, .int .i64 n, .int .i64 dr, .string cn, .int .i64 im, .int .i64 co, .int .i64 mn, .int .i64 mx, .int .i64 gr, .string rn, .string rc, .slice a ts.length c, .int .i64 rr] := ⟨fun i => by rw [hW, World.cell?_alloc_old _ _ _ (by simp)]; exact World.cell?_alloc_new _ _ _ _⟩
 have HB : w.heap.size + 1 ≤ W0.heap.size := by rw [hW]; simp
 have G0 : Grow.G w W0 := by rw [hW]; exact Grow.G.alloc (Grow.G.alloc (Grow.G.refl _) _) _
 clear hW
 have NBX : ∃ x, (#[.int .i64 5, .string nm, .string tg, .int .i64 n, .int .i64 dr, .string cn, .int .i64 im, .int .i64 co, .int .i64 mn, .int .i64 mx, .int .i64 gr, .string rn, .string rc, .slice a ts.length c, .int .i64 rr] : Array Value)[0]? = some x ∧ ∀ z, x ≠ .int .u8 z := ⟨_, rfl, fun z e => by cases e⟩
 have KC := Lib.hid (fun (w' : World) (h : Evo2.SK (w.heap.size + 1) W0 w') => EB.c15 NBX h)
 obtain ⟨q1, q2, q3, q4, q5, q6, q7, q8, q9, q10, q11, q12, q13, q14, q15⟩ := KC.out W0 (Evo2.SK.refl _ _)
 refine (rfour_any (w.heap.size + 1) _ [5] n _ OB HB ⟨by decide, by decide⟩ ⟨hn.1, hn.2⟩).mono ?_
 rintro e wz ⟨vw, rfl, OZ, fr⟩
 have AZ := fr.sk OB HB ⟨_, _, rfl⟩
 go_wp2_with fail
 refine bodyPost_ret (v := vw) (by simp [results, Tryz.results20, go_sem]) rfl ⟨vw, rfl, own_fin (zs := [5] ++ fourB n) OZ ?_ ?_ (Nat.le_succ _) ?_, Below.trans G0 (Below.mono AZ.1 (Nat.le_succ _))⟩
 ·
  first | rfl | (simp; done) | (simp; omega)
 ·
  first | rfl | (simp; done)
 ·
  rw [BY.out]; first | rfl | (simp [oneB]; done) | (simp [oneB]; omega)

set_option maxHeartbeats 4000000 in
theorem rbytes_6 (e : EvD) (a : Option Addr) (c : Nat) (w : World) (hk : e.chk = 0) (h1 : e.k = 6) (ht : TgtSl w a e.ts) :
  Calls Tryz.prog 20 #[.agg (e.cells a c)] w fun x w' => ∃ v, x = .returned v ∧ OwnB w' w.heap.size v e.bytes ∧ Below w.heap.size w w' := by
 obtain ⟨i0, hi, hz0, hz1, hz2⟩ := info_parts infoB
 have HI := Lib.hid hi; have HZ0 := Lib.hid hz0; have HZ1 := Lib.hid hz1; have HZ2 := Lib.hid hz2
 have HT := Lib.hid ht
 obtain ⟨-, -, -, -, hbo⟩ := chk_ok hk
 obtain ⟨k, nm, tg, n, dr, ⟨cn, im, co, mn, mx, gr⟩, rn, rc, ts, rr⟩ := e
 simp only at h1
 subst h1
 unfold n4 n1 at hbo
 dsimp only at hbo
 rw [if_neg (by decide : ¬ (6 : Int) = 1), if_neg (by decide : ¬ (6 : Int) = 2), if_neg (by decide : ¬ (6 : Int) = 3), if_neg (by decide : ¬ (6 : Int) = 4), if_pos (by decide : 5 ≤ (6 : Int) ∧ (6 : Int) ≤ 8)] at hbo
 have hn := hbo
 have BY : Hid (EvD.bytes ⟨6, nm, tg, n, dr, ⟨cn, im, co, mn, mx, gr⟩, rn, rc, ts, rr⟩ = oneB 6 ++ bodyB 6 ⟨6, nm, tg, n, dr, ⟨cn, im, co, mn, mx, gr⟩, rn, rc, ts, rr⟩) := Lib.hid rfl
 unfold bodyB at BY
 dsimp only at BY
 rw [if_neg (by decide : ¬ (6 : Int) = 1), if_neg (by decide : ¬ (6 : Int) = 2), if_neg (by decide : ¬ (6 : Int) = 3), if_neg (by decide : ¬ (6 : Int) = 4), if_pos (by decide : 5 ≤ (6 : Int) ∧ (6 : Int) ≤ 8)] at BY
 clear hi hz0 hz1 hz2 hk ht
 unfold EvD.cells
 simp only
 go_enter Tryz.func20, Tryz.ntmps20
 go_wp2_with fail
 obtain ⟨W0, hW⟩ : ∃ W0, W0 = (w.alloc (.cells #[.int .i64 6, .string nm, .string tg, .int .i64 n, .int .i64 dr, .string cn, .int .i64 im, .int .i64 co, .int .i64 mn, .int .i64 mx, .int .i64 gr, .string rn, .string rc, .slice a ts.length c, .int .i64 rr] 28)).alloc (.cells #[.int .u8 6] 5) := ⟨_, rfl⟩
 rw [← hW]
 have OB : OwnB W0 (w.heap.size + 1) (.slice (some ⟨w.heap.size + 1, 0, none⟩) 1 1) [6] := by
  have := own_one (w.alloc (.cells #[.int .i64 6, .string nm, .string tg, .int .i64 n, .int .i64 dr, .string cn, .int .i64 im, .int .i64 co, .int .i64 mn, .int .i64 mx, .int .i64 gr, .string rn, .string rc, .slice a ts.length c, .int .i64 rr] 28)) 5 (.int .u8 6) (w.heap.size + 1) (by simp)
  rw [hW]
  simpa [OwnB] using this
 have EB : EvBox W0 w.heap.size #[.int .i64 6, .string nm, .string tg, .int .i64 n, .int .i64 dr, .string cn, .int .i64 im, .int .i64 co, .int .i64 mn, .int .i64 mx, .int .i64 gr, .string rn, .string rc, .slice a ts.length c, .int .i64 rr] := ⟨fun i => by rw [hW, World.cell?_alloc_old _ _ _ (by simp)]; exact World.cell?_alloc_new _ _ _ _⟩
 have HB : w.heap.size + 1 ≤ W0.heap.size := by rw [hW]; simp
 have G0 : Grow.G w W0 := by rw [hW]; exact Grow.G.alloc (Grow.G.alloc (Grow.G.refl _) _) _
 clear hW
 have NBX : ∃ x, (#[.int .i64 6, .string nm, .string tg, .int .i64 n, .int .i64 dr, .string cn, .int .i64 im, .int .i64 co, .int .i64 mn, .int .i64 mx, .int .i64 gr, .string rn, .string rc, .slice a ts.length c, .int .i64 rr] : Array Value)[0]? = some x ∧ ∀ z, x ≠ .int .u8 z := ⟨_, rfl, fun z e => by cases e⟩
 have KC := Lib.hid (fun (w' : World) (h : Evo2.SK (w.heap.size + 1) W0 w') => EB.c15 NBX h)
 obtain ⟨q1, q2, q3, q4, q5, q6, q7, q8, q9, q10, q11, q12, q13, q14, q15⟩ := KC.out W0 (Evo2.SK.refl _ _)
 refine (rfour_any (w.heap.size + 1) _ [6] n _ OB HB ⟨by decide, by decide⟩ ⟨hn.1, hn.2⟩).mono ?_
 rintro e wz ⟨vw, rfl, OZ, fr⟩
 have AZ := fr.sk OB HB ⟨_, _, rfl⟩
 go_wp2_with fail
 refine bodyPost_ret (v := vw) (by simp [results, Tryz.results20, go_sem]) rfl ⟨vw, rfl, own_fin (zs := [6] ++ fourB n) OZ ?_ ?_ (Nat.le_succ _) ?_, Below.trans G0 (Below.mono AZ.1 (Nat.le_succ _))⟩
 ·
  first | rfl | (simp; done) | (simp; omega)
 ·
  first | rfl | (simp; done)
 ·
  rw [BY.out]; first | rfl | (simp [oneB]; done) | (simp [oneB]; omega)

set_option maxHeartbeats 4000000 in
theorem rbytes_7 (e : EvD) (a : Option Addr) (c : Nat) (w : World) (hk : e.chk = 0) (h1 : e.k = 7) (ht : TgtSl w a e.ts) :
  Calls Tryz.prog 20 #[.agg (e.cells a c)] w fun x w' => ∃ v, x = .returned v ∧ OwnB w' w.heap.size v e.bytes ∧ Below w.heap.size w w' := by
 obtain ⟨i0, hi, hz0, hz1, hz2⟩ := info_parts infoB
 have HI := Lib.hid hi; have HZ0 := Lib.hid hz0; have HZ1 := Lib.hid hz1; have HZ2 := Lib.hid hz2
 have HT := Lib.hid ht
 obtain ⟨-, -, -, -, hbo⟩ := chk_ok hk
 obtain ⟨k, nm, tg, n, dr, ⟨cn, im, co, mn, mx, gr⟩, rn, rc, ts, rr⟩ := e
 simp only at h1
 subst h1
 unfold n4 n1 at hbo
 dsimp only at hbo
 rw [if_neg (by decide : ¬ (7 : Int) = 1), if_neg (by decide : ¬ (7 : Int) = 2), if_neg (by decide : ¬ (7 : Int) = 3), if_neg (by decide : ¬ (7 : Int) = 4), if_pos (by decide : 5 ≤ (7 : Int) ∧ (7 : Int) ≤ 8)] at hbo
 have hn := hbo
 have BY : Hid (EvD.bytes ⟨7, nm, tg, n, dr, ⟨cn, im, co, mn, mx, gr⟩, rn, rc, ts, rr⟩ = oneB 7 ++ bodyB 7 ⟨7, nm, tg, n, dr, ⟨cn, im, co, mn, mx, gr⟩, rn, rc, ts, rr⟩) := Lib.hid rfl
 unfold bodyB at BY
 dsimp only at BY
 rw [if_neg (by decide : ¬ (7 : Int) = 1), if_neg (by decide : ¬ (7 : Int) = 2), if_neg (by decide : ¬ (7 : Int) = 3), if_neg (by decide : ¬ (7 : Int) = 4), if_pos (by decide : 5 ≤ (7 : Int) ∧ (7 : Int) ≤ 8)] at BY
 clear hi hz0 hz1 hz2 hk ht
 unfold EvD.cells
 simp only
 go_enter Tryz.func20, Tryz.ntmps20
 go_wp2_with fail
 obtain ⟨W0, hW⟩ : ∃ W0, W0 = (w.alloc (.cells #[.int .i64 7, .string nm, .string tg, .int .i64 n, .int .i64 dr, .string cn, .int .i64 im, .int .i64 co, .int .i64 mn, .int .i64 mx, .int .i64 gr, .string rn, .string rc, .slice a ts.length c, .int .i64 rr] 28)).alloc (.cells #[.int .u8 7] 5) := ⟨_, rfl⟩
 rw [← hW]
 have OB : OwnB W0 (w.heap.size + 1) (.slice (some ⟨w.heap.size + 1, 0, none⟩) 1 1) [7] := by
  have := own_one (w.alloc (.cells #[.int .i64 7, .string nm, .string tg, .int .i64 n, .int .i64 dr, .string cn, .int .i64 im, .int .i64 co, .int .i64 mn, .int .i64 mx, .int .i64 gr, .string rn, .string rc, .slice a ts.length c, .int .i64 rr] 28)) 5 (.int .u8 7) (w.heap.size + 1) (by simp)
  rw [hW]
  simpa [OwnB] using this
 have EB : EvBox W0 w.heap.size #[.int .i64 7, .string nm, .string tg, .int .i64 n, .int .i64 dr, .string cn, .int .i64 im, .int .i64 co, .int .i64 mn, .int .i64 mx, .int .i64 gr, .string rn, .string rc, .slice a ts.length c, .int .i64 rr] := ⟨fun i => by rw [hW, World.cell?_alloc_old _ _ _ (by simp)]; exact World.cell?_alloc_new _ _ _ _⟩
 have HB : w.heap.size + 1 ≤ W0.heap.size := by rw [hW]; simp
 have G0 : Grow.G w W0 := by rw [hW]; exact Grow.G.alloc (Grow.G.alloc (Grow.G.refl _) _) _
 clear hW
 have NBX : ∃ x, (#[.int .i64 7, .string nm, .string tg, .int .i64 n, .int .i64 dr, .string cn, .int .i64 im, .int .i64 co, .int .i64 mn, .int .i64 mx, .int .i64 gr, .string rn, .string rc, .slice a ts.length c, .int .i64 rr] : Array Value)[0]? = some x ∧ ∀ z, x ≠ .int .u8 z := ⟨_, rfl, fun z e => by cases e⟩
 have KC := Lib.hid (fun (w' : World) (h : Evo2.SK (w.heap.size + 1) W0 w') => EB.c15 NBX h)
 obtain ⟨q1, q2, q3, q4, q5, q6, q7, q8, q9, q10, q11, q12, q13, q14, q15⟩ := KC.out W0 (Evo2.SK.refl _ _)
 refine (rfour_any (w.heap.size + 1) _ [7] n _ OB HB ⟨by decide, by decide⟩ ⟨hn.1, hn.2⟩).mono ?_
 rintro e wz ⟨vw, rfl, OZ, fr⟩
 have AZ := fr.sk OB HB ⟨_, _, rfl⟩
 go_wp2_with fail
 refine bodyPost_ret (v := vw) (by simp [results, Tryz.results20, go_sem]) rfl ⟨vw, rfl, own_fin (zs := [7] ++ fourB n) OZ ?_ ?_ (Nat.le_succ _) ?_, Below.trans G0 (Below.mono AZ.1 (Nat.le_succ _))⟩
 ·
  first | rfl | (simp; done) | (simp; omega)
 ·
  first | rfl | (simp; done)
 ·
  rw [BY.out]; first | rfl | (simp [oneB]; done) | (simp [oneB]; omega)

set_option maxHeartbeats 4000000 in
theorem rbytes_8 (e : EvD) (a : Option Addr) (c : Nat) (w : World) (hk : e.chk = 0) (h1 : e.k = 8) (ht : TgtSl w a e.ts) :
  Calls Tryz.prog 20 #[.agg (e.cells a c)] w fun x w' => ∃ v, x = .returned v ∧ OwnB w' w.heap.size v e.bytes ∧ Below w.heap.size w w' := by
 obtain ⟨i0, hi, hz0, hz1, hz2⟩ := info_parts infoB
 have HI := Lib.hid hi; have HZ0 := Lib.hid hz0; have HZ1 := Lib.hid hz1; have HZ2 := Lib.hid hz2
 have HT := Lib.hid ht
 obtain ⟨-, -, -, -, hbo⟩ := chk_ok hk
 obtain ⟨k, nm, tg, n, dr, ⟨cn, im, co, mn, mx, gr⟩, rn, rc, ts, rr⟩ := e
 simp only at h1
 subst h1
 unfold n4 n1 at hbo
 dsimp only at hbo
 rw [if_neg (by decide : ¬ (8 : Int) = 1), if_neg (by decide : ¬ (8 : Int) = 2), if_neg (by decide : ¬ (8 : Int) = 3), if_neg (by decide : ¬ (8 : Int) = 4), if_pos (by decide : 5 ≤ (8 : Int) ∧ (8 : Int) ≤ 8)] at hbo
 have hn := hbo
 have BY : Hid (EvD.bytes ⟨8, nm, tg, n, dr, ⟨cn, im, co, mn, mx, gr⟩, rn, rc, ts, rr⟩ = oneB 8 ++ bodyB 8 ⟨8, nm, tg, n, dr, ⟨cn, im, co, mn, mx, gr⟩, rn, rc, ts, rr⟩) := Lib.hid rfl
 unfold bodyB at BY
 dsimp only at BY
 rw [if_neg (by decide : ¬ (8 : Int) = 1), if_neg (by decide : ¬ (8 : Int) = 2), if_neg (by decide : ¬ (8 : Int) = 3), if_neg (by decide : ¬ (8 : Int) = 4), if_pos (by decide : 5 ≤ (8 : Int) ∧ (8 : Int) ≤ 8)] at BY
 clear hi hz0 hz1 hz2 hk ht
 unfold EvD.cells
 simp only
 go_enter Tryz.func20, Tryz.ntmps20
 go_wp2_with fail
 obtain ⟨W0, hW⟩ : ∃ W0, W0 = (w.alloc (.cells #[.int .i64 8, .string nm, .string tg, .int .i64 n, .int .i64 dr, .string cn, .int .i64 im, .int .i64 co, .int .i64 mn, .int .i64 mx, .int .i64 gr, .string rn, .string rc, .slice a ts.length c, .int .i64 rr] 28)).alloc (.cells #[.int .u8 8] 5) := ⟨_, rfl⟩
 rw [← hW]
 have OB : OwnB W0 (w.heap.size + 1) (.slice (some ⟨w.heap.size + 1, 0, none⟩) 1 1) [8] := by
  have := own_one (w.alloc (.cells #[.int .i64 8, .string nm, .string tg, .int .i64 n, .int .i64 dr, .string cn, .int .i64 im, .int .i64 co, .int .i64 mn, .int .i64 mx, .int .i64 gr, .string rn, .string rc, .slice a ts.length c, .int .i64 rr] 28)) 5 (.int .u8 8) (w.heap.size + 1) (by simp)
  rw [hW]
  simpa [OwnB] using this
 have EB : EvBox W0 w.heap.size #[.int .i64 8, .string nm, .string tg, .int .i64 n, .int .i64 dr, .string cn, .int .i64 im, .int .i64 co, .int .i64 mn, .int .i64 mx, .int .i64 gr, .string rn, .string rc, .slice a ts.length c, .int .i64 rr] := ⟨fun i => by rw [hW, World.cell?_alloc_old _ _ _ (by simp)]; exact World.cell?_alloc_new _ _ _ _⟩
 have HB : w.heap.size + 1 ≤ W0.heap.size := by rw [hW]; simp
 have G0 : Grow.G w W0 := by rw [hW]; exact Grow.G.alloc (Grow.G.alloc (Grow.G.refl _) _) _
 clear hW
 have NBX : ∃ x, (#[.int .i64 8, .string nm, .string tg, .int .i64 n, .int .i64 dr, .string cn, .int .i64 im, .int .i64 co, .int .i64 mn, .int .i64 mx, .int .i64 gr, .string rn, .string rc, .slice a ts.length c, .int .i64 rr] : Array Value)[0]? = some x ∧ ∀ z, x ≠ .int .u8 z := ⟨_, rfl, fun z e => by cases e⟩
 have KC := Lib.hid (fun (w' : World) (h : Evo2.SK (w.heap.size + 1) W0 w') => EB.c15 NBX h)
 obtain ⟨q1, q2, q3, q4, q5, q6, q7, q8, q9, q10, q11, q12, q13, q14, q15⟩ := KC.out W0 (Evo2.SK.refl _ _)
 refine (rfour_any (w.heap.size + 1) _ [8] n _ OB HB ⟨by decide, by decide⟩ ⟨hn.1, hn.2⟩).mono ?_
 rintro e wz ⟨vw, rfl, OZ, fr⟩
 have AZ := fr.sk OB HB ⟨_, _, rfl⟩
 go_wp2_with fail
 refine bodyPost_ret (v := vw) (by simp [results, Tryz.results20, go_sem]) rfl ⟨vw, rfl, own_fin (zs := [8] ++ fourB n) OZ ?_ ?_ (Nat.le_succ _) ?_, Below.trans G0 (Below.mono AZ.1 (Nat.le_succ _))⟩
 ·
  first | rfl | (simp; done) | (simp; omega)
 ·
  first | rfl | (simp; done)
 ·
  rw [BY.out]; first | rfl | (simp [oneB]; done) | (simp [oneB]; omega)

set_option maxHeartbeats 4000000 in
theorem rbytes_10 (e : EvD) (a : Option Addr) (c : Nat) (w : World) (hk : e.chk = 0) (h1 : e.k = 10) (ht : TgtSl w a e.ts) :
  Calls Tryz.prog 20 #[.agg (e.cells a c)] w fun x w' => ∃ v, x = .returned v ∧ OwnB w' w.heap.size v e.bytes ∧ Below w.heap.size w w' := by
 obtain ⟨i0, hi, hz0, hz1, hz2⟩ := info_parts infoB
 have HI := Lib.hid hi; have HZ0 := Lib.hid hz0; have HZ1 := Lib.hid hz1; have HZ2 := Lib.hid hz2
 have HT := Lib.hid ht
 obtain ⟨-, -, -, -, hbo⟩ := chk_ok hk
 obtain ⟨k, nm, tg, n, dr, ⟨cn, im, co, mn, mx, gr⟩, rn, rc, ts, rr⟩ := e
 simp only at h1
 subst h1
 unfold n4 n1 at hbo
 dsimp only at hbo
 rw [if_neg (by decide : ¬ (10 : Int) = 1), if_neg (by decide : ¬ (10 : Int) = 2), if_neg (by decide : ¬ (10 : Int) = 3), if_neg (by decide : ¬ (10 : Int) = 4), if_neg (by decide : ¬ (5 ≤ (10 : Int) ∧ (10 : Int) ≤ 8)), if_pos (by decide : 10 ≤ (10 : Int) ∧ (10 : Int) ≤ 13)] at hbo
 have hnm := hbo
 have BY : Hid (EvD.bytes ⟨10, nm, tg, n, dr, ⟨cn, im, co, mn, mx, gr⟩, rn, rc, ts, rr⟩ = oneB 10 ++ bodyB 10 ⟨10, nm, tg, n, dr, ⟨cn, im, co, mn, mx, gr⟩, rn, rc, ts, rr⟩) := Lib.hid rfl
 unfold bodyB at BY
 dsimp only at BY
 rw [if_neg (by decide : ¬ (10 : Int) = 1), if_neg (by decide : ¬ (10 : Int) = 2), if_neg (by decide : ¬ (10 : Int) = 3), if_neg (by decide : ¬ (10 : Int) = 4), if_neg (by decide : ¬ (5 ≤ (10 : Int) ∧ (10 : Int) ≤ 8)), if_pos (by decide : 10 ≤ (10 : Int) ∧ (10 : Int) ≤ 13)] at BY
 clear hi hz0 hz1 hz2 hk ht
 unfold EvD.cells
 simp only
 go_enter Tryz.func20, Tryz.ntmps20
 go_wp2_with fail
 obtain ⟨W0, hW⟩ : ∃ W0, W0 = (w.alloc (.cells #[.int .i64 10, .string nm, .string tg, .int .i64 n, .int .i64 dr, .string cn, .int .i64 im, .int .i64 co, .int .i64 mn, .int .i64 mx, .int .i64 gr, .string rn, .string rc, .slice a ts.length c, .int .i64 rr] 28)).alloc (.cells #[.int .u8 10] 5) := ⟨_, rfl⟩
 rw [← hW]
 have OB : OwnB W0 (w.heap.size + 1) (.slice (some ⟨w.heap.size + 1, 0, none⟩) 1 1) [10] := by
  have := own_one (w.alloc (.cells #[.int .i64 10, .string nm, .string tg, .int .i64 n, .int .i64 dr, .string cn, .int .i64 im, .int .i64 co, .int .i64 mn, .int .i64 mx, .int .i64 gr, .string rn, .string rc, .slice a ts.length c, .int .i64 rr] 28)) 5 (.int .u8 10) (w.heap.size + 1) (by simp)
  rw [hW]
  simpa [OwnB] using this
 have EB : EvBox W0 w.heap.size #[.int .i64 10, .string nm, .string tg, .int .i64 n, .int .i64 dr, .string cn, .int .i64 im, .int .i64 co, .int .i64 mn, .int .i64 mx, .int .i64 gr, .string rn, .string rc, .slice a ts.length c, .int .i64 rr] := ⟨fun i => by rw [hW, World.cell?_alloc_old _ _ _ (by simp)]; exact World.cell?_alloc_new _ _ _ _⟩
 have HB : w.heap.size + 1 ≤ W0.heap.size := by rw [hW]; simp
 have G0 : Grow.G w W0 := by rw [hW]; exact Grow.G.alloc (Grow.G.alloc (Grow.G.refl _) _) _
 clear hW
 have NBX : ∃ x, (#[.int .i64 10, .string nm, .string tg, .int .i64 n, .int .i64 dr, .string cn, .int .i64 im, .int .i64 co, .int .i64 mn, .int .i64 mx, .int .i64 gr, .string rn, .string rc, .slice a ts.length c, .int .i64 rr] : Array Value)[0]? = some x ∧ ∀ z, x ≠ .int .u8 z := ⟨_, rfl, fun z e => by cases e⟩
 have KC := Lib.hid (fun (w' : World) (h : Evo2.SK (w.heap.size + 1) W0 w') => EB.c15 NBX h)
 refine (rtext_any (w.heap.size + 1) _ [10] nm _ OB HB ⟨by decide, by decide⟩ (by omega)).mono ?_
 rintro e wz ⟨vw, rfl, OZ, fr⟩
 have AZ := fr.sk OB HB ⟨_, _, rfl⟩
 go_wp2_with fail
 refine bodyPost_ret (v := vw) (by simp [results, Tryz.results20, go_sem]) rfl ⟨vw, rfl, own_fin (zs := [10] ++ txtB nm) OZ ?_ ?_ (Nat.le_succ _) ?_, Below.trans G0 (Below.mono AZ.1 (Nat.le_succ _))⟩
 ·
  first | rfl | (simp; done) | (simp; omega)
 ·
  first | rfl | (simp; done)
 ·
  rw [BY.out]; first | rfl | (simp [oneB]; done) | (simp [oneB]; omega)

set_option maxHeartbeats 4000000 in
theorem rbytes_11 (e : EvD) (a : Option Addr) (c : Nat) (w : World) (hk : e.chk = 0) (h1 : e.k = 11) (ht : TgtSl w a e.ts) :
  Calls Tryz.prog 20 #[.agg (e.cells a c)] w fun x w' => ∃ v, x = .returned v ∧ OwnB w' w.heap.size v e.bytes ∧ Below w.heap.size w w' := by
 obtain ⟨i0, hi, hz0, hz1, hz2⟩ := info_parts infoB
 have HI := Lib.hid hi; have HZ0 := Lib.hid hz0; have HZ1 := Lib.hid hz1; have HZ2 := Lib.hid hz2
 have HT := Lib.hid ht
 obtain ⟨-, -, -, -, hbo⟩ := chk_ok hk
 obtain ⟨k, nm, tg, n, dr, ⟨cn, im, co, mn, mx, gr⟩, rn, rc, ts, rr⟩ := e
 simp only at h1
 subst h1
 unfold n4 n1 at hbo
 dsimp only at hbo
 rw [if_neg (by decide : ¬ (11 : Int) = 1), if_neg (by decide : ¬ (11 : Int) = 2), if_neg (by decide : ¬ (11 : Int) = 3), if_neg (by decide : ¬ (11 : Int) = 4), if_neg (by decide : ¬ (5 ≤ (11 : Int) ∧ (11 : Int) ≤ 8)), if_pos (by decide : 10 ≤ (11 : Int) ∧ (11 : Int) ≤ 13)] at hbo
 have hnm := hbo
 have BY : Hid (EvD.bytes ⟨11, nm, tg, n, dr, ⟨cn, im, co, mn, mx, gr⟩, rn, rc, ts, rr⟩ = oneB 11 ++ bodyB 11 ⟨11, nm, tg, n, dr, ⟨cn, im, co, mn, mx, gr⟩, rn, rc, ts, rr⟩) := Lib.hid rfl
 unfold bodyB at BY
 dsimp only at BY
 rw [if_neg (by decide : ¬ (11 : Int) = 1), if_neg (by decide : ¬ (11 : Int) = 2), if_neg (by decide : ¬ (11 : Int) = 3), if_neg (by decide : ¬ (11 : Int) = 4), if_neg (by decide : ¬ (5 ≤ (11 : Int) ∧ (11 : Int) ≤ 8)), if_pos (by decide : 10 ≤ (11 : Int) ∧ (11 : Int) ≤ 13)] at BY
 clear hi hz0 hz1 hz2 hk ht
 unfold EvD.cells
 simp only
 go_enter Tryz.func20, Tryz.ntmps20
 go_wp2_with fail
 obtain ⟨W0, hW⟩ : ∃ W0, W0 = (w.alloc (.cells #[.int .i64 11, .string nm, .string tg, .int .i64 n, .int .i64 dr, .string cn, .int .i64 im, .int .i64 co, .int .i64 mn, .int .i64 mx, .int .i64 gr, .string rn, .string rc, .slice a ts.length c, .int .i64 rr] 28)).alloc (.cells #[.int .u8 11] 5) := ⟨_, rfl⟩
 rw [← hW]
 have OB : OwnB W0 (w.heap.size + 1) (.slice (some ⟨w.heap.size + 1, 0, none⟩) 1 1) [11] := by
  have := own_one (w.alloc (.cells #[.int .i64 11, .string nm, .string tg, .int .i64 n, .int .i64 dr, .string cn, .int .i64 im, .int .i64 co, .int .i64 mn, .int .i64 mx, .int .i64 gr, .string rn, .string rc, .slice a ts.length c, .int .i64 rr] 28)) 5 (.int .u8 11) (w.heap.size + 1) (by simp)
  rw [hW]
  simpa [OwnB] using this
 have EB : EvBox W0 w.heap.size #[.int .i64 11, .string nm, .string tg, .int .i64 n, .int .i64 dr, .string cn, .int .i64 im, .int .i64 co, .int .i64 mn, .int .i64 mx, .int .i64 gr, .string rn, .string rc, .slice a ts.length c, .int .i64 rr] := ⟨fun i => by rw [hW, World.cell?_alloc_old _ _ _ (by simp)]; exact World.cell?_alloc_new _ _ _ _⟩
 have HB : w.heap.size + 1 ≤ W0.heap.size := by rw [hW]; simp
 have G0 : Grow.G w W0 := by rw [hW]; exact Grow.G.alloc (Grow.G.alloc (Grow.G.refl _) _) _
 clear hW
 have NBX : ∃ x, (#[.int .i64 11, .string nm, .string tg, .int .i64 n, .int .i64 dr, .string cn, .int .i64 im, .int .i64 co, .int .i64 mn, .int .i64 mx, .int .i64 gr, .string rn, .string rc, .slice a ts.length c, .int .i64 rr] : Array Value)[0]? = some x ∧ ∀ z, x ≠ .int .u8 z := ⟨_, rfl, fun z e => by cases e⟩
 have KC := Lib.hid (fun (w' : World) (h : Evo2.SK (w.heap.size + 1) W0 w') => EB.c15 NBX h)
 refine (rtext_any (w.heap.size + 1) _ [11] nm _ OB HB ⟨by decide, by decide⟩ (by omega)).mono ?_
 rintro e wz ⟨vw, rfl, OZ, fr⟩
 have AZ := fr.sk OB HB ⟨_, _, rfl⟩
 go_wp2_with fail
 refine bodyPost_ret (v := vw) (by simp [results, Tryz.results20, go_sem]) rfl ⟨vw, rfl, own_fin (zs := [11] ++ txtB nm) OZ ?_ ?_ (Nat.le_succ _) ?_, Below.trans G0 (Below.mono AZ.1 (Nat.le_succ _))⟩
 ·
  first | rfl | (simp; done) | (simp; omega)
 ·
  first | rfl | (simp; done)
 ·
  rw [BY.out]; first | rfl | (simp [oneB]; done) | (simp [oneB]; omega)

set_option maxHeartbeats 4000000 in
theorem rbytes_12 (e : EvD) (a : Option Addr) (c : Nat) (w : World) (hk : e.chk = 0) (h1 : e.k = 12) (ht : TgtSl w a e.ts) :
  Calls Tryz.prog 20 #[.agg (e.cells a c)] w fun x w' => ∃ v, x = .returned v ∧ OwnB w' w.heap.size v e.bytes ∧ Below w.heap.size w w' := by
 obtain ⟨i0, hi, hz0, hz1, hz2⟩ := info_parts infoB
 have HI := Lib.hid hi; have HZ0 := Lib.hid hz0; have HZ1 := Lib.hid hz1; have HZ2 := Lib.hid hz2
 have HT := Lib.hid ht
 obtain ⟨-, -, -, -, hbo⟩ := chk_ok hk
 obtain ⟨k, nm, tg, n, dr, ⟨cn, im, co, mn, mx, gr⟩, rn, rc, ts, rr⟩ := e
 simp only at h1
 subst h1
 unfold n4 n1 at hbo
 dsimp only at hbo
 rw [if_neg (by decide : ¬ (12 : Int) = 1), if_neg (by decide : ¬ (12 : Int) = 2), if_neg (by decide : ¬ (12 : Int) = 3), if_neg (by decide : ¬ (12 : Int) = 4), if_neg (by decide : ¬ (5 ≤ (12 : Int) ∧ (12 : Int) ≤ 8)), if_pos (by decide : 10 ≤ (12 : Int) ∧ (12 : Int) ≤ 13)] at hbo
 have hnm := hbo
 have BY : Hid (EvD.bytes ⟨12, nm, tg, n, dr, ⟨cn, im, co, mn, mx, gr⟩, rn, rc, ts, rr⟩ = oneB 12 ++ bodyB 12 ⟨12, nm, tg, n, dr, ⟨cn, im, co, mn, mx, gr⟩, rn, rc, ts, rr⟩) := Lib.hid rfl
 unfold bodyB at BY
 dsimp only at BY
 rw [if_neg (by decide : ¬ (12 : Int) = 1), if_neg (by decide : ¬ (12 : Int) = 2), if_neg (by decide : ¬ (12 : Int) = 3), if_neg (by decide : ¬ (12 : Int) = 4), if_neg (by decide : ¬ (5 ≤ (12 : Int) ∧ (12 : Int) ≤ 8)), if_pos (by decide : 10 ≤ (12 : Int) ∧ (12 : Int) ≤ 13)] at BY
 clear hi hz0 hz1 hz2 hk ht
 unfold EvD.cells
 simp only
 go_enter Tryz.func20, Tryz.ntmps20
 go_wp2_with fail
 obtain ⟨W0, hW⟩ : ∃ W0, W0 = (w.alloc (.cells #[.int .i64 12, .string nm, .string tg, .int .i64 n, .int .i64 dr, .string cn, .int .i64 im, .int .i64 co, .int .i64 mn, .int .i64 mx, .int .i64 gr, .string rn, .string rc, .slice a ts.length c, .int .i64 rr] 28)).alloc (.cells #[.int .u8 12] 5) := ⟨_, rfl⟩
 rw [← hW]
 have OB : OwnB W0 (w.heap.size + 1) (.slice (some ⟨w.heap.size + 1, 0, none⟩) 1 1) [12] := by
  have := own_one (w.alloc (.cells #[.int .i64 12, .string nm, .string tg, .int .i64 n, .int .i64 dr, .string cn, .int .i64 im, .int .i64 co, .int .i64 mn, .int .i64 mx, .int .i64 gr, .string rn, .string rc, .slice a ts.length c, .int .i64 rr] 28)) 5 (.int .u8 12) (w.heap.size + 1) (by simp)
  rw [hW]
  simpa [OwnB] using this
 have EB : EvBox W0 w.heap.size #[.int .i64 12, .string nm, .string tg, .int .i64 n, .int .i64 dr, .string cn, .int .i64 im, .int .i64 co, .int .i64 mn, .int .i64 mx, .int .i64 gr, .string rn, .string rc, .slice a ts.length c, .int .i64 rr] := ⟨fun i => by rw [hW, World.cell?_alloc_old _ _ _ (by simp)]; exact World.cell?_alloc_new _ _ _ _⟩
 have HB : w.heap.size + 1 ≤ W0.heap.size := by rw [hW]; simp
 have G0 : Grow.G w W0 := by rw [hW]; exact Grow.G.alloc (Grow.G.alloc (Grow.G.refl _) _) _
 clear hW
 have NBX : ∃ x, (#[.int .i64 12, .string nm, .string tg, .int .i64 n, .int .i64 dr, .string cn, .int .i64 im, .int .i64 co, .int .i64 mn, .int .i64 mx, .int .i64 gr, .string rn, .string rc, .slice a ts.length c, .int .i64 rr] : Array Value)[0]? = some x ∧ ∀ z, x ≠ .int .u8 z := ⟨_, rfl, fun z e => by cases e⟩
 have KC := Lib.hid (fun (w' : World) (h : Evo2.SK (w.heap.size + 1) W0 w') => EB.c15 NBX h)
 refine (rtext_any (w.heap.size + 1) _ [12] nm _ OB HB ⟨by decide, by decide⟩ (by omega)).mono ?_
 rintro e wz ⟨vw, rfl, OZ, fr⟩
 have AZ := fr.sk OB HB ⟨_, _, rfl⟩
 go_wp2_with fail
 refine bodyPost_ret (v := vw) (by simp [results, Tryz.results20, go_sem]) rfl ⟨vw, rfl, own_fin (zs := [12] ++ txtB nm) OZ ?_ ?_ (Nat.le_succ _) ?_, Below.trans G0 (Below.mono AZ.1 (Nat.le_succ _))⟩
 ·
  first | rfl | (simp; done) | (simp; omega)
 ·
  first | rfl | (simp; done)
 ·
  rw [BY.out]; first | rfl | (simp [oneB]; done) | (simp [oneB]; omega)

set_option maxHeartbeats 4000000 in
theorem rbytes_13 (e : EvD) (a : Option Addr) (c : Nat) (w : World) (hk : e.chk = 0) (h1 : e.k = 13) (ht : TgtSl w a e.ts) :
  Calls Tryz.prog 20 #[.agg (e.cells a c)] w fun x w' => ∃ v, x = .returned v ∧ OwnB w' w.heap.size v e.bytes ∧ Below w.heap.size w w' := by
 obtain ⟨i0, hi, hz0, hz1, hz2⟩ := info_parts infoB
 have HI := Lib.hid hi; have HZ0 := Lib.hid hz0; have HZ1 := Lib.hid hz1; have HZ2 := Lib.hid hz2
 have HT := Lib.hid ht
 obtain ⟨-, -, -, -, hbo⟩ := chk_ok hk
 obtain ⟨k, nm, tg, n, dr, ⟨cn, im, co, mn, mx, gr⟩, rn, rc, ts, rr⟩ := e
 simp only at h1
 subst h1
 unfold n4 n1 at hbo
 dsimp only at hbo
 rw [if_neg (by decide : ¬ (13 : Int) = 1), if_neg (by decide : ¬ (13 : Int) = 2), if_neg (by decide : ¬ (13 : Int) = 3), if_neg (by decide : ¬ (13 : Int) = 4), if_neg (by decide : ¬ (5 ≤ (13 : Int) ∧ (13 : Int) ≤ 8)), if_pos (by decide : 10 ≤ (13 : Int) ∧ (13 : Int) ≤ 13)] at hbo
 have hnm := hbo
 have BY : Hid (EvD.bytes ⟨13, nm, tg, n, dr, ⟨cn, im, co, mn, mx, gr⟩, rn, rc, ts, rr⟩ = oneB 13 ++ bodyB 13 ⟨13, nm, tg, n, dr, ⟨cn, im, co, mn, mx, gr⟩, rn, rc, ts, rr⟩) := Lib.hid rfl
 unfold bodyB at BY
 dsimp only at BY
 rw [if_neg (by decide : ¬ (13 : Int) = 1), if_neg (by decide : ¬ (13 : Int) = 2), if_neg (by decide : ¬ (13 : Int) = 3), if_neg (by decide : ¬ (13 : Int) = 4), if_neg (by decide : ¬ (5 ≤ (13 : Int) ∧ (13 : Int) ≤ 8)), if_pos (by decide : 10 ≤ (13 : Int) ∧ (13 : Int) ≤ 13)] at BY
 clear hi hz0 hz1 hz2 hk ht
 unfold EvD.cells
 simp only
 go_enter Tryz.func20, Tryz.ntmps20
 go_wp2_with fail
 obtain ⟨W0, hW⟩ : ∃ W0, W0 = (w.alloc (.cells #[.int .i64 13, .string nm, .string tg, .int .i64 n, .int .i64 dr, .string cn, .int .i64 im, .int .i64 co, .int .i64 mn, .int .i64 mx, .int .i64 gr, .string rn, .string rc, .slice a ts.length c, .int .i64 rr] 28)).alloc (.cells #[.int .u8 13] 5) := ⟨_, rfl⟩
 rw [← hW]
 have OB : OwnB W0 (w.heap.size + 1) (.slice (some ⟨w.heap.size + 1, 0, none⟩) 1 1) [13] := by
  have := own_one (w.alloc (.cells #[.int .i64 13, .string nm, .string tg, .int .i64 n, .int .i64 dr, .string cn, .int .i64 im, .int .i64 co, .int .i64 mn, .int .i64 mx, .int .i64 gr, .string rn, .string rc, .slice a ts.length c, .int .i64 rr] 28)) 5 (.int .u8 13) (w.heap.size + 1) (by simp)
  rw [hW]
  simpa [OwnB] using this
 have EB : EvBox W0 w.heap.size #[.int .i64 13, .string nm, .string tg, .int .i64 n, .int .i64 dr, .string cn, .int .i64 im, .int .i64 co, .int .i64 mn, .int .i64 mx, .int .i64 gr, .string rn, .string rc, .slice a ts.length c, .int .i64 rr] := ⟨fun i => by rw [hW, World.cell?_alloc_old _ _ _ (by simp)]; exact World.cell?_alloc_new _ _ _ _⟩
 have HB : w.heap.size + 1 ≤ W0.heap.size := by rw [hW]; simp
 have G0 : Grow.G w W0 := by rw [hW]; exact Grow.G.alloc (Grow.G.alloc (Grow.G.refl _) _) _
 clear hW
 have NBX : ∃ x, (#[.int .i64 13, .string nm, .string tg, .int .i64 n, .int .i64 dr, .string cn, .int .i64 im, .int .i64 co, .int .i64 mn, .int .i64 mx, .int .i64 gr, .string rn, .string rc, .slice a ts.length c, .int .i64 rr] : Array Value)[0]? = some x ∧ ∀ z, x ≠ .int .u8 z := ⟨_, rfl, fun z e => by cases e⟩
 have KC := Lib.hid (fun (w' : World) (h : Evo2.SK (w.heap.size + 1) W0 w') => EB.c15 NBX h)
 refine (rtext_any (w.heap.size + 1) _ [13] nm _ OB HB ⟨by decide, by decide⟩ (by omega)).mono ?_
 rintro e wz ⟨vw, rfl, OZ, fr⟩
 have AZ := fr.sk OB HB ⟨_, _, rfl⟩
 go_wp2_with fail
 refine bodyPost_ret (v := vw) (by simp [results, Tryz.results20, go_sem]) rfl ⟨vw, rfl, own_fin (zs := [13] ++ txtB nm) OZ ?_ ?_ (Nat.le_succ _) ?_, Below.trans G0 (Below.mono AZ.1 (Nat.le_succ _))⟩
 ·
  first | rfl | (simp; done) | (simp; omega)
 ·
  first | rfl | (simp; done)
 ·
  rw [BY.out]; first | rfl | (simp [oneB]; done) | (simp [oneB]; omega)

set_option maxHeartbeats 4000000 in
theorem rbytes_9 (e : EvD) (a : Option Addr) (c : Nat) (w : World) (hk : e.chk = 0) (h1 : e.k = 9) (ht : TgtSl w a e.ts) :
  Calls Tryz.prog 20 #[.agg (e.cells a c)] w fun x w' => ∃ v, x = .returned v ∧ OwnB w' w.heap.size v e.bytes ∧ Below w.heap.size w w' := by
 obtain ⟨i0, hi, hz0, hz1, hz2⟩ := info_parts infoB
 have HI := Lib.hid hi; have HZ0 := Lib.hid hz0; have HZ1 := Lib.hid hz1; have HZ2 := Lib.hid hz2
 have HT := Lib.hid ht
 obtain ⟨-, -, -, -, hbo⟩ := chk_ok hk
 obtain ⟨k, nm, tg, n, dr, ⟨cn, im, co, mn, mx, gr⟩, rn, rc, ts, rr⟩ := e
 simp only at h1
 subst h1
 unfold n4 n1 at hbo
 dsimp only at hbo
 rw [if_neg (by decide : ¬ (9 : Int) = 1), if_neg (by decide : ¬ (9 : Int) = 2), if_neg (by decide : ¬ (9 : Int) = 3), if_neg (by decide : ¬ (9 : Int) = 4), if_neg (by decide : ¬ (5 ≤ (9 : Int) ∧ (9 : Int) ≤ 8)), if_neg (by decide : ¬ (10 ≤ (9 : Int) ∧ (9 : Int) ≤ 13))] at hbo
 have BY : Hid (EvD.bytes ⟨9, nm, tg, n, dr, ⟨cn, im, co, mn, mx, gr⟩, rn, rc, ts, rr⟩ = oneB 9 ++ bodyB 9 ⟨9, nm, tg, n, dr, ⟨cn, im, co, mn, mx, gr⟩, rn, rc, ts, rr⟩) := Lib.hid rfl
 unfold bodyB at BY
 dsimp only at BY
 rw [if_neg (by decide : ¬ (9 : Int) = 1), if_neg (by decide : ¬ (9 : Int) = 2), if_neg (by decide : ¬ (9 : Int) = 3), if_neg (by decide : ¬ (9 : Int) = 4), if_neg (by decide : ¬ (5 ≤ (9 : Int) ∧ (9 : Int) ≤ 8)), if_neg (by decide : ¬ (10 ≤ (9 : Int) ∧ (9 : Int) ≤ 13))] at BY
 clear hi hz0 hz1 hz2 hk ht
 unfold EvD.cells
 simp only
 go_enter Tryz.func20, Tryz.ntmps20
 go_wp2_with fail
 obtain ⟨W0, hW⟩ : ∃ W0, W0 = (w.alloc (.cells #[.int .i64 9, .string nm, .string tg, .int .i64 n, .int .i64 dr, .string cn, .int .i64 im, .int .i64 co, .int .i64 mn, .int .i64 mx, .int .i64 gr, .string rn, .string rc, .slice a ts.length c, .int .i64 rr] 28)).alloc (.cells #[.int .u8 9] 5) := ⟨_, rfl⟩
 rw [← hW]
 have OB : OwnB W0 (w.heap.size + 1) (.slice (some ⟨w.heap.size + 1, 0, none⟩) 1 1) [9] := by
  have := own_one (w.alloc (.cells #[.int .i64 9, .string nm, .string tg, .int .i64 n, .int .i64 dr, .string cn, .int .i64 im, .int .i64 co, .int .i64 mn, .int .i64 mx, .int .i64 gr, .string rn, .string rc, .slice a ts.length c, .int .i64 rr] 28)) 5 (.int .u8 9) (w.heap.size + 1) (by simp)
  rw [hW]
  simpa [OwnB] using this
 have EB : EvBox W0 w.heap.size #[.int .i64 9, .string nm, .string tg, .int .i64 n, .int .i64 dr, .string cn, .int .i64 im, .int .i64 co, .int .i64 mn, .int .i64 mx, .int .i64 gr, .string rn, .string rc, .slice a ts.length c, .int .i64 rr] := ⟨fun i => by rw [hW, World.cell?_alloc_old _ _ _ (by simp)]; exact World.cell?_alloc_new _ _ _ _⟩
 have HB : w.heap.size + 1 ≤ W0.heap.size := by rw [hW]; simp
 have G0 : Grow.G w W0 := by rw [hW]; exact Grow.G.alloc (Grow.G.alloc (Grow.G.refl _) _) _
 clear hW
 have NBX : ∃ x, (#[.int .i64 9, .string nm, .string tg, .int .i64 n, .int .i64 dr, .string cn, .int .i64 im, .int .i64 co, .int .i64 mn, .int .i64 mx, .int .i64 gr, .string rn, .string rc, .slice a ts.length c, .int .i64 rr] : Array Value)[0]? = some x ∧ ∀ z, x ≠ .int .u8 z := ⟨_, rfl, fun z e => by cases e⟩
 have KC := Lib.hid (fun (w' : World) (h : Evo2.SK (w.heap.size + 1) W0 w') => EB.c15 NBX h)
 refine bodyPost_ret (v := (.slice (some ⟨w.heap.size + 1, 0, none⟩) 1 1)) (by simp [results, Tryz.results20, go_sem]) rfl ⟨(.slice (some ⟨w.heap.size + 1, 0, none⟩) 1 1), rfl, own_fin (zs := [9]) OB ?_ ?_ (Nat.le_succ _) ?_, Below.trans G0 (Below.mono (Evo2.SK.refl _ _).1 (Nat.le_succ _))⟩
 ·
  first | rfl | (simp; done) | (simp; omega)
 ·
  first | rfl | (simp; done)
 ·
  rw [BY.out]; first | rfl | (simp [oneB]; done) | (simp [oneB]; omega)


set_option maxHeartbeats 4000000 in
theorem rbytes_2 (e : EvD) (a : Option Addr) (c : Nat) (w : World) (hk : e.chk = 0) (h1 : e.k = 2) (ht : TgtSl w a e.ts) :
  Calls Tryz.prog 20 #[.agg (e.cells a c)] w fun x w' => ∃ v, x = .returned v ∧ OwnB w' w.heap.size v e.bytes ∧ Below w.heap.size w w' := by
 obtain ⟨i0, hi, hz0, hz1, hz2⟩ := info_parts infoB
 have HI := Lib.hid hi; have HZ0 := Lib.hid hz0; have HZ1 := Lib.hid hz1; have HZ2 := Lib.hid hz2
 have HT := Lib.hid ht
 obtain ⟨-, -, -, -, hbo⟩ := chk_ok hk
 obtain ⟨k, nm, tg, n, dr, ⟨cn, im, co, mn, mx, gr⟩, rn, rc, ts, rr⟩ := e
 simp only at h1
 subst h1
 unfold n4 n1 at hbo
 dsimp only at hbo
 rw [if_neg (by decide : ¬ (2 : Int) = 1), if_pos rfl] at hbo
 obtain ⟨hn, hrn, hrc, hrr, hts, htk⟩ := hbo
 have h6 := chk_len hk rfl
 simp only at h6
 have BY : Hid (EvD.bytes ⟨2, nm, tg, n, dr, ⟨cn, im, co, mn, mx, gr⟩, rn, rc, ts, rr⟩ = oneB 2 ++ bodyB 2 ⟨2, nm, tg, n, dr, ⟨cn, im, co, mn, mx, gr⟩, rn, rc, ts, rr⟩) := Lib.hid rfl
 unfold bodyB at BY
 dsimp only at BY
 rw [if_neg (by decide : ¬ (2 : Int) = 1), if_pos rfl] at BY
 clear hi hz0 hz1 hz2 hk ht
 unfold EvD.cells
 simp only
 go_enter Tryz.func20, Tryz.ntmps20
 go_wp2_with fail
 obtain ⟨W0, hW⟩ : ∃ W0, W0 = (w.alloc (.cells #[.int .i64 2, .string nm, .string tg, .int .i64 n, .int .i64 dr, .string cn, .int .i64 im, .int .i64 co, .int .i64 mn, .int .i64 mx, .int .i64 gr, .string rn, .string rc, .slice a ts.length c, .int .i64 rr] 28)).alloc (.cells #[.int .u8 2] 5) := ⟨_, rfl⟩
 rw [← hW]
 have OB : OwnB W0 (w.heap.size + 1) (.slice (some ⟨w.heap.size + 1, 0, none⟩) 1 1) [2] := by
  have := own_one (w.alloc (.cells #[.int .i64 2, .string nm, .string tg, .int .i64 n, .int .i64 dr, .string cn, .int .i64 im, .int .i64 co, .int .i64 mn, .int .i64 mx, .int .i64 gr, .string rn, .string rc, .slice a ts.length c, .int .i64 rr] 28)) 5 (.int .u8 2) (w.heap.size + 1) (by simp)
  rw [hW]
  simpa [OwnB] using this
 have EB : EvBox W0 w.heap.size #[.int .i64 2, .string nm, .string tg, .int .i64 n, .int .i64 dr, .string cn, .int .i64 im, .int .i64 co, .int .i64 mn, .int .i64 mx, .int .i64 gr, .string rn, .string rc, .slice a ts.length c, .int .i64 rr] := ⟨fun i => by rw [hW, World.cell?_alloc_old _ _ _ (by simp)]; exact World.cell?_alloc_new _ _ _ _⟩
 have HB : w.heap.size + 1 ≤ W0.heap.size := by rw [hW]; simp
 have G0 : Grow.G w W0 := by rw [hW]; exact Grow.G.alloc (Grow.G.alloc (Grow.G.refl _) _) _
 clear hW
 have NBX : ∃ x, (#[.int .i64 2, .string nm, .string tg, .int .i64 n, .int .i64 dr, .string cn, .int .i64 im, .int .i64 co, .int .i64 mn, .int .i64 mx, .int .i64 gr, .string rn, .string rc, .slice a ts.length c, .int .i64 rr] : Array Value)[0]? = some x ∧ ∀ z, x ≠ .int .u8 z := ⟨_, rfl, fun z e => by cases e⟩
 have KC := Lib.hid (fun (w' : World) (h : Evo2.SK (w.heap.size + 1) W0 w') => EB.c15 NBX h)
 refine Evo2.start' (ℓ := none) (S := Evo2.SB (w.heap.size + 1)) (E := Evo2.EB (w.heap.size + 1)) (by kernel_rfl) ⟨Evo2.preB _, by decide +kernel, (by intro c a d v w h; cases d <;> exact h), by decide +kernel⟩ (fun ok => ?_)
 refine Evo2.va ok 0 _ _ ?_
 refine Evo2.va ok 1 _ _ ?_
 first | (refine Evo2.vl ok 2 KC.out (Evo2.SK.refl _ _) _ _ ?_) | (refine Evo2.va ok 2 _ _ ?_)
 refine Evo2.va ok 4 _ _ ?_
 refine Evo2.va ok 5 _ _ ?_
 first | (refine Evo2.vl ok 6 KC.out (Evo2.SK.refl _ _) _ _ ?_) | (refine Evo2.va ok 6 _ _ ?_)
 refine Evo2.va ok 8 _ _ ?_
 refine Evo2.va ok 9 _ _ ?_
 first | (refine Evo2.vl ok 10 KC.out (Evo2.SK.refl _ _) _ _ ?_) | (refine Evo2.va ok 10 _ _ ?_)
 refine Evo2.all [3] (by decide +kernel) rfl ?_
 intro wp1 gp1 iq hq
 simp only [List.mem_cons, List.mem_nil_iff, or_false] at hq
 have AP1 := Evo2.SK.trans (Evo2.SK.refl _ _) (Evo2.sk_of gp1)
 have OP1 := own_later OB gp1.1
 have SP1 := Nat.le_trans HB AP1.size
 subst hq
 refine Evo2.enters 46 _ (by rfl) (by rfl) (by go_simp; exact ⟨rfl, rfl⟩) ?_
 refine (rfour_any (w.heap.size + 1) _ [2] n wp1 OP1 SP1 ⟨by decide, by decide⟩ ⟨hn.1, hn.2⟩).mono ?_
 rintro e wc1 ⟨vw1, rfl, OW1, fr1⟩
 have hb1 := fr1.sk OP1 SP1 ⟨_, _, rfl⟩
 have AC1 := Evo2.SK.trans AP1 hb1
 refine ⟨_, rfl, .inr hb1, ?_⟩
 simp only [Act.put, L0, L1, L2]
 refine Evo2.all [7] (by decide +kernel) rfl ?_
 intro wp2 gp2 iq hq
 simp only [List.mem_cons, List.mem_nil_iff, or_false] at hq
 have AP2 := Evo2.SK.trans AC1 (Evo2.sk_of gp2)
 have OP2 := own_later OW1 gp2.1
 have SP2 := Nat.le_trans HB AP2.size
 subst hq
 refine Evo2.enters 45 _ (by rfl) (by rfl) (by go_simp; exact ⟨rfl, rfl⟩) ?_
 refine (rtext_any (w.heap.size + 1) _ ([2] ++ fourB n) rn wp2 OP2 SP2 ⟨by simp, by simp [fourB]⟩ (by omega)).mono ?_
 rintro e wc2 ⟨vw2, rfl, OW2, fr2⟩
 have hb2 := fr2.sk OP2 SP2 ⟨_, _, rfl⟩
 have AC2 := Evo2.SK.trans AP2 hb2
 refine ⟨_, rfl, .inr hb2, ?_⟩
 simp only [Act.put, L0, L1, L2]
 refine Evo2.all [11] (by decide +kernel) rfl ?_
 intro wp3 gp3 iq hq
 simp only [List.mem_cons, List.mem_nil_iff, or_false] at hq
 have AP3 := Evo2.SK.trans AC2 (Evo2.sk_of gp3)
 have OP3 := own_later OW2 gp3.1
 have SP3 := Nat.le_trans HB AP3.size
 subst hq
 refine Evo2.enters 45 _ (by rfl) (by rfl) (by go_simp; exact ⟨rfl, rfl⟩) ?_
 refine (rtext_any (w.heap.size + 1) _ ([2] ++ fourB n ++ txtB rn) rc wp3 OP3 SP3 ⟨by simp, by simp [fourB, txtB, oneB, numsOf_len]; omega⟩ (by omega)).mono ?_
 rintro e wc3 ⟨vw3, rfl, OW3, fr3⟩
 have hb3 := fr3.sk OP3 SP3 ⟨_, _, rfl⟩
 have AC3 := Evo2.SK.trans AP3 hb3
 refine ⟨_, rfl, .inr hb3, ?_⟩
 simp only [Act.put, L0, L1, L2]
 refine Evo2.va ok 12 _ _ ?_
 refine Evo2.done (by decide +kernel) (fun wz gz => ?_)
 have AZ := Evo2.SK.trans AC3 (Evo2.sk_of gz)
 have OZ := own_later OW3 gz.1
 obtain ⟨q1, q2, q3, q4, q5, q6, q7, q8, q9, q10, q11, q12, q13, q14, q15⟩ := KC.out wz AZ
 have SZ := Nat.le_trans HB AZ.size
 have i1 := hrr.1; have i2 := hrr.2
 have OZH := Lib.hid OZ
 have TK := Lib.hid htk
 clear OZ hrr htk OW1 OW2 OW3 OP1 OP2 OP3 OB ok
 go_wp2_with (at_builtin; refine Fr.wpList_append_fr _ rfl _ _ 41 rfl (w.heap.size + 1) 5 i0 (.int .u8 0) 1 1 Tryz.underlying41 HI.out HZ0.out HZ1.out HZ2.out rfl (by decide) _ _ _ rfl (own_later OZH.out ?_) _ 2 2 [_, _] rfl rfl (news_new _ [_, _] _ _ ?_) ?_ ?_ ?_ ?_ ?_)
 ·
  (repeat (first | with_reducible exact Grow.G.refl _ | with_reducible exact Below.refl _ _ | with_reducible refine Grow.G.alloc ?_ _ | with_reducible refine Grow.G.trans ?_ hb1 | ((with_reducible refine Below.setCell ?_ ?_ _); rotate_left; (focus (first | omega | (simp; done) | (simp; omega)))) | with_reducible assumption | with_reducible refine Grow.G.trans ?_ (by with_reducible assumption)))
 ·
  first | rfl | (simp; done)
 ·
  intro u hu; simp at hu; rcases hu with rfl | rfl <;> rfl
 ·
  simp [fourB, txtB, oneB, numsOf_len]; unfold maxLen; omega
 ·
  simp [fourB, txtB, oneB, numsOf_len]; omega
 ·
  simp; omega
 ·
  intro v' w1 hown hgr'
  have AW := Lib.hid (Evo2.SK.trans AZ (Evo2.SK.trans (Evo2.SK.alloc (Evo2.SK.refl _ _) SZ _) (hgr'.sk (own_later OZH.out (show Grow.G wz _ by (repeat (first | with_reducible exact Grow.G.refl _ | with_reducible exact Below.refl _ _ | with_reducible refine Grow.G.alloc ?_ _ | with_reducible refine Grow.G.trans ?_ hb1 | ((with_reducible refine Below.setCell ?_ ?_ _); rotate_left; (focus (first | omega | (simp; done) | (simp; omega)))) | with_reducible assumption | with_reducible refine Grow.G.trans ?_ (by with_reducible assumption))))) (by simp; omega) ⟨_, _, rfl⟩)))
  have HO : Hid (OwnB w1 (w.heap.size + 1) v' ([2] ++ fourB n ++ txtB rn ++ txtB rc ++ [rr, (ts.length : Int)])) := Lib.hid (own_fin hown (by simp [fourB, txtB, oneB, numsOf_len]; omega) (by simp) (Nat.le_refl _) rfl)
  clear hown hgr' q1 q2 q3 q4 q5 q6 q7 q8 q9 q10 q11 q12 q13 q14 q15 AZ SZ OZH
  have q10 := True.intro
  obtain ⟨q1, q2, q3, q4, q5, q6, q7, q8, q9, q10, q11, q12, q13, q14, q15⟩ := KC.out w1 AW.out
  go_wp2_with fail
  clear q1 q2 q3 q4 q5 q6 q7 q8 q9 q10 q11 q12 q13 q14 q15
  go_loopw [3, 4] (fun s3 s4 wr => ∃ i : Nat, i ≤ ts.length ∧ s4 = .int .i64 i ∧ Hid (OwnB wr (w.heap.size + 1) s3 (([2] ++ fourB n ++ txtB rn ++ txtB rc ++ [rr, (ts.length : Int)]) ++ tgtsB (ts.take i))) ∧ Hid (Evo2.SK (w.heap.size + 1) W0 wr)) (fun _ s4 _ => ts.length - (intOf s4).toNat)
  case atStart => exact ⟨0, by omega, rfl, Lib.hid (by simpa [tgtsB] using HO.out), AW⟩
  case round =>
   obtain ⟨i, hi, rfl, OI, AI⟩ := hrel
   obtain ⟨q1, q2, q3, q4, q5, q6, q7, q8, q9, q10, q11, q12, q13, q14, q15⟩ := KC.out wr AI.out
   by_cases hlt : i < ts.length
   ·
    have GR : Grow.G w wr := Below.trans G0 (Below.mono AI.out.1 (Nat.le_succ _))
    obtain ⟨b, off, rfl, hat⟩ := (HT.out.later GR).at hlt
    have SN := Lib.hid (tgtsB_snoc ts i hlt)
    have TO : tgtOk (ts.getD i tg0) := TK.out _ (by simp [List.getD, hlt])
    have TL := tgtsB_len (ts.take i) (fun t ht => TK.out t (List.mem_of_mem_take ht))
    rw [List.length_take] at TL
    generalize ts.getD i tg0 = t at *
    obtain ⟨rv, tgx, pc⟩ := t
    obtain ⟨t1, t2, t3, t4⟩ := TO
    have ⟨c0, c1, c2⟩ := hat
    simp only at c0 c1 c2 t1 t2 t3 t4
    have TL6 : (tgtsB (ts.take i)).length ≤ 3600 := by omega
    have WS : (w.heap.size + 1) ≤ wr.heap.size := Nat.le_trans HB AI.out.size
    have WPC : Hid (IntKind.u8.wrap pc = pc) := Lib.hid (by rw [IntKind.wrap_u8]; omega)
    clear hat TL GR
    go_wp2_with fail
    obtain ⟨W1, hW1⟩ : ∃ W1, W1 = wr.alloc (.cells #[.string rv, .string tgx, .int .i64 pc] 39) := ⟨_, rfl⟩
    rw [← hW1]
    have OW1 : OwnB W1 (w.heap.size + 1) u3 (([2] ++ fourB n ++ txtB rn ++ txtB rc ++ [rr, (ts.length : Int)]) ++ tgtsB (ts.take i)) := by rw [hW1]; exact own_later OI.out (Grow.G.alloc (Grow.G.refl _) _)
    have XB : EvBox W1 wr.heap.size #[.string rv, .string tgx, .int .i64 pc] := ⟨fun i => by rw [hW1]; exact World.cell?_alloc_new _ _ _ _⟩
    have NBT : ∃ x, (#[.string rv, .string tgx, .int .i64 pc] : Array Value)[0]? = some x ∧ ∀ z, x ≠ .int .u8 z := ⟨_, rfl, fun z e => by cases e⟩
    have HB : (w.heap.size + 1) ≤ W1.heap.size := by rw [hW1]; simp; omega
    have AW1 : Evo2.SK (w.heap.size + 1) wr W1 := by rw [hW1]; exact Evo2.SK.alloc (Evo2.SK.refl _ _) WS _
    have KT := Lib.hid (fun (w' : World) (h : Evo2.SK (w.heap.size + 1) W1 w') => (⟨(XB.later NBT h).cell 0, (XB.later NBT h).cell 1, (XB.later NBT h).cell 2⟩ : w'.cell? ⟨wr.heap.size, 0, none⟩ = some (.string rv) ∧ w'.cell? ⟨wr.heap.size, 1, none⟩ = some (.string tgx) ∧ w'.cell? ⟨wr.heap.size, 2, none⟩ = some (.int .i64 pc)))
    clear hW1 c0 c1 c2 XB NBT WS q1 q2 q3 q4 q5 q6 q7 q8 q9 q10 q11 q12 q13 q14 q15
    refine Evo2.start' (ℓ := none) (S := Evo2.SB (w.heap.size + 1)) (E := Evo2.EB (w.heap.size + 1)) (by kernel_rfl) ⟨Evo2.preB _, by decide +kernel, (by intro c a d v w h; cases d <;> exact h), by decide +kernel⟩ (fun ok => ?_)
    refine Evo2.va ok 0 _ _ ?_
    refine Evo2.va ok 1 _ _ ?_
    first | (refine Evo2.vl ok 2 KT.out (Evo2.SK.refl _ _) _ _ ?_) | (refine Evo2.va ok 2 _ _ ?_)
    refine Evo2.va ok 4 _ _ ?_
    first | (refine Evo2.vl ok 5 KT.out (Evo2.SK.refl _ _) _ _ ?_) | (refine Evo2.va ok 5 _ _ ?_)
    refine Evo2.va ok 7 _ _ ?_
    first | (refine Evo2.vl ok 8 KT.out (Evo2.SK.refl _ _) _ _ ?_) | (refine Evo2.va ok 8 _ _ ?_)
    refine Evo2.va ok 9 _ _ ?_
    refine Evo2.all [3, 10] (by decide +kernel) rfl ?_
    intro wp1 gp1 iq hq
    simp only [List.mem_cons, List.mem_nil_iff, or_false] at hq
    have AP1 := Evo2.SK.trans (Evo2.SK.refl _ _) (Evo2.sk_of gp1)
    have OP1 := own_later OW1 gp1.1
    have SP1 := Nat.le_trans HB AP1.size
    rcases hq with rfl | rfl
    ·
     refine Evo2.enters 45 _ (by rfl) (by rfl) (by go_simp; exact ⟨rfl, rfl⟩) ?_
     refine (rtext_any (w.heap.size + 1) _ (([2] ++ fourB n ++ txtB rn ++ txtB rc ++ [rr, (ts.length : Int)]) ++ tgtsB (ts.take i)) rv wp1 OP1 SP1 ⟨by simp, by simp [fourB, txtB, oneB, numsOf_len]; omega⟩ (by omega)).mono ?_
     rintro e wc1 ⟨vw1, rfl, OW1, fr1⟩
     have hb1 := fr1.sk OP1 SP1 ⟨_, _, rfl⟩
     have AC1 := Evo2.SK.trans AP1 hb1
     refine ⟨_, rfl, .inr hb1, ?_⟩
     simp only [Act.put, L0, L1, L2]
     refine Evo2.all [6, 10] (by decide +kernel) rfl ?_
     intro wp2 gp2 iq hq
     simp only [List.mem_cons, List.mem_nil_iff, or_false] at hq
     have AP2 := Evo2.SK.trans AC1 (Evo2.sk_of gp2)
     have OP2 := own_later OW1 gp2.1
     have SP2 := Nat.le_trans HB AP2.size
     rcases hq with rfl | rfl
     ·
      refine Evo2.enters 45 _ (by rfl) (by rfl) (by go_simp; exact ⟨rfl, rfl⟩) ?_
      refine (rtext_any (w.heap.size + 1) _ ((([2] ++ fourB n ++ txtB rn ++ txtB rc ++ [rr, (ts.length : Int)]) ++ tgtsB (ts.take i)) ++ txtB rv) tgx wp2 OP2 SP2 ⟨by simp, by simp [fourB, txtB, oneB, numsOf_len]; omega⟩ (by omega)).mono ?_
      rintro e wc2 ⟨vw2, rfl, OW2, fr2⟩
      have hb2 := fr2.sk OP2 SP2 ⟨_, _, rfl⟩
      have AC2 := Evo2.SK.trans AP2 hb2
      refine ⟨_, rfl, .inr hb2, ?_⟩
      simp only [Act.put, L0, L1, L2]
      refine Evo2.all [10] (by decide +kernel) rfl ?_
      intro wp3 gp3 iq hq
      simp only [List.mem_cons, List.mem_nil_iff, or_false] at hq
      have AP3 := Evo2.SK.trans AC2 (Evo2.sk_of gp3)
      have OP3 := own_later OW2 gp3.1
      have SP3 := Nat.le_trans HB AP3.size
      subst hq
      refine Evo2.runs (by rfl) (by rfl) (fun K' hK' => ?_)
      go_simp
      (try (simp only [Evo.after_value, Evo.after_skip]))
      refine hK'.out _ _ ?_
      clear hK'
      simp only [Act.put, L0, L1, L2]
      refine ⟨.inr (Evo2.SK.alloc (Evo2.SK.refl _ _) SP3 _), ?_⟩
      generalize hG3 : World.alloc wp3 _ = wg3
      have GG3 : Grow.G wp3 wg3 := hG3 ▸ Grow.G.alloc (Grow.G.refl _) _
      have NC3 := (congrArg (fun W : World => W.heap[wp3.heap.size]?) hG3).symm.trans (MapKept.heap_alloc wp3 _).1
      have NK3 := Fr.own_ne OP3
      have NL3 : wp3.heap.size < wg3.heap.size := by rw [← hG3]; simp
      clear hG3
      refine Evo2.all [11] (by decide +kernel) rfl ?_
      intro wp4 gp4 iq hq
      simp only [List.mem_cons, List.mem_nil_iff, or_false] at hq
      have AP4 := Evo2.SK.trans (Evo2.SK.trans AP3 (Evo2.SK.grow GG3 (Below.mono GG3 SP3))) (Evo2.sk_of gp4)
      have OP4 := own_later (own_later OP3 GG3) gp4.1
      have SP4 := Nat.le_trans HB AP4.size
      have NC3 := (gp4.1.block _ NL3).trans NC3
      have NL3 := Nat.lt_of_lt_of_le NL3 gp4.1.size
      subst hq
      refine Fr.own_fr (by rfl) (by rfl) (Operand.tmp 91) (Operand.tmp 95) 41 (by rfl) (w.heap.size + 1) 5 i0 (.int .u8 0) 1 1 Tryz.underlying41 HI.out HZ0.out HZ1.out HZ2.out rfl (by decide) _ _ _ (by rfl) OP4 _ 1 1 [_] (by rfl) rfl (news_blk NC3) ?_ ?_ ?_ ?_ ?_ 
      ·
       exact one1 rfl 
      ·
       simp [fourB, txtB, oneB, numsOf_len]; unfold maxLen; omega 
      ·
       simp [fourB, txtB, oneB, numsOf_len]; omega 
      ·
       exact SP4
      intro vw4 wc4 OW4 fr4
      have hb4 := fr4.sk OP4 SP4 ⟨_, _, rfl⟩
      have AC4 := Evo2.SK.trans AP4 hb4
      have ⟨eq3, NK3⟩ := fr4.keep NL3 NK3
      have NC3 := eq3.trans NC3
      have NL3 := Nat.lt_of_lt_of_le NL3 fr4.g.size
      refine ⟨.inr hb4, ?_⟩
      simp only [Act.put, L0, L1, L2]
      refine Evo2.va ok 12 _ _ ?_
      refine Evo2.done (by decide +kernel) (fun wz gz => ?_)
      have AZ := Evo2.SK.trans AC4 (Evo2.sk_of gz)
      have OZ := own_later OW4 gz.1
      go_wp2_with fail 
      go_roundw 
      case rel => exact ⟨i + 1, by omega, by go_num, Lib.hid (own_fin (zs := (([2] ++ fourB n ++ txtB rn ++ txtB rc ++ [rr, (ts.length : Int)]) ++ tgtsB (ts.take i)) ++ txtB rv ++ txtB tgx ++ [pc]) OZ (by first | rfl | (simp [fourB, txtB, oneB, numsOf_len]; done) | (simp [fourB, txtB, oneB, numsOf_len]; omega)) (by simp [WPC.out]) (Nat.le_refl _) (by rw [SN.out]; simp [tgtB', oneB]; omega)), Lib.hid (Evo2.SK.trans AI.out (Evo2.SK.trans AW1 AZ))⟩ 
      case measure => simp [intOf]; omega
     ·
      refine Evo2.runs (by rfl) (by rfl) (fun K' hK' => ?_)
      go_simp
      (try (simp only [Evo.after_value, Evo.after_skip]))
      refine hK'.out _ _ ?_
      clear hK'
      simp only [Act.put, L0, L1, L2]
      refine ⟨.inr (Evo2.SK.alloc (Evo2.SK.refl _ _) SP2 _), ?_⟩
      generalize hG2 : World.alloc wp2 _ = wg2
      have GG2 : Grow.G wp2 wg2 := hG2 ▸ Grow.G.alloc (Grow.G.refl _) _
      have NC2 := (congrArg (fun W : World => W.heap[wp2.heap.size]?) hG2).symm.trans (MapKept.heap_alloc wp2 _).1
      have NK2 := Fr.own_ne OP2
      have NL2 : wp2.heap.size < wg2.heap.size := by rw [← hG2]; simp
      clear hG2
      refine Evo2.all [6] (by decide +kernel) rfl ?_
      intro wp3 gp3 iq hq
      simp only [List.mem_cons, List.mem_nil_iff, or_false] at hq
      have AP3 := Evo2.SK.trans (Evo2.SK.trans AP2 (Evo2.SK.grow GG2 (Below.mono GG2 SP2))) (Evo2.sk_of gp3)
      have OP3 := own_later (own_later OP2 GG2) gp3.1
      have SP3 := Nat.le_trans HB AP3.size
      have NC2 := (gp3.1.block _ NL2).trans NC2
      have NL2 := Nat.lt_of_lt_of_le NL2 gp3.1.size
      subst hq
      refine Evo2.enters 45 _ (by rfl) (by rfl) (by go_simp; exact ⟨rfl, rfl⟩) ?_
      refine (rtext_any (w.heap.size + 1) _ ((([2] ++ fourB n ++ txtB rn ++ txtB rc ++ [rr, (ts.length : Int)]) ++ tgtsB (ts.take i)) ++ txtB rv) tgx wp3 OP3 SP3 ⟨by simp, by simp [fourB, txtB, oneB, numsOf_len]; omega⟩ (by omega)).mono ?_
      rintro e wc3 ⟨vw3, rfl, OW3, fr3⟩
      have hb3 := fr3.sk OP3 SP3 ⟨_, _, rfl⟩
      have AC3 := Evo2.SK.trans AP3 hb3
      have ⟨eq2, NK2⟩ := fr3.keep NL2 NK2
      have NC2 := eq2.trans NC2
      have NL2 := Nat.lt_of_lt_of_le NL2 fr3.g.size
      refine ⟨_, rfl, .inr hb3, ?_⟩
      simp only [Act.put, L0, L1, L2]
      refine Evo2.all [11] (by decide +kernel) rfl ?_
      intro wp4 gp4 iq hq
      simp only [List.mem_cons, List.mem_nil_iff, or_false] at hq
      have AP4 := Evo2.SK.trans AC3 (Evo2.sk_of gp4)
      have OP4 := own_later OW3 gp4.1
      have SP4 := Nat.le_trans HB AP4.size
      have NC2 := (gp4.1.block _ NL2).trans NC2
      have NL2 := Nat.lt_of_lt_of_le NL2 gp4.1.size
      subst hq
      refine Fr.own_fr (by rfl) (by rfl) (Operand.tmp 91) (Operand.tmp 95) 41 (by rfl) (w.heap.size + 1) 5 i0 (.int .u8 0) 1 1 Tryz.underlying41 HI.out HZ0.out HZ1.out HZ2.out rfl (by decide) _ _ _ (by rfl) OP4 _ 1 1 [_] (by rfl) rfl (news_blk NC2) ?_ ?_ ?_ ?_ ?_ 
      ·
       exact one1 rfl 
      ·
       simp [fourB, txtB, oneB, numsOf_len]; unfold maxLen; omega 
      ·
       simp [fourB, txtB, oneB, numsOf_len]; omega 
      ·
       exact SP4
      intro vw4 wc4 OW4 fr4
      have hb4 := fr4.sk OP4 SP4 ⟨_, _, rfl⟩
      have AC4 := Evo2.SK.trans AP4 hb4
      have ⟨eq2, NK2⟩ := fr4.keep NL2 NK2
      have NC2 := eq2.trans NC2
      have NL2 := Nat.lt_of_lt_of_le NL2 fr4.g.size
      refine ⟨.inr hb4, ?_⟩
      simp only [Act.put, L0, L1, L2]
      refine Evo2.va ok 12 _ _ ?_
      refine Evo2.done (by decide +kernel) (fun wz gz => ?_)
      have AZ := Evo2.SK.trans AC4 (Evo2.sk_of gz)
      have OZ := own_later OW4 gz.1
      go_wp2_with fail 
      go_roundw 
      case rel => exact ⟨i + 1, by omega, by go_num, Lib.hid (own_fin (zs := (([2] ++ fourB n ++ txtB rn ++ txtB rc ++ [rr, (ts.length : Int)]) ++ tgtsB (ts.take i)) ++ txtB rv ++ txtB tgx ++ [pc]) OZ (by first | rfl | (simp [fourB, txtB, oneB, numsOf_len]; done) | (simp [fourB, txtB, oneB, numsOf_len]; omega)) (by simp [WPC.out]) (Nat.le_refl _) (by rw [SN.out]; simp [tgtB', oneB]; omega)), Lib.hid (Evo2.SK.trans AI.out (Evo2.SK.trans AW1 AZ))⟩ 
      case measure => simp [intOf]; omega
    ·
     refine Evo2.runs (by rfl) (by rfl) (fun K' hK' => ?_)
     go_simp
     (try (simp only [Evo.after_value, Evo.after_skip]))
     refine hK'.out _ _ ?_
     clear hK'
     simp only [Act.put, L0, L1, L2]
     refine ⟨.inr (Evo2.SK.alloc (Evo2.SK.refl _ _) SP1 _), ?_⟩
     generalize hG1 : World.alloc wp1 _ = wg1
     have GG1 : Grow.G wp1 wg1 := hG1 ▸ Grow.G.alloc (Grow.G.refl _) _
     have NC1 := (congrArg (fun W : World => W.heap[wp1.heap.size]?) hG1).symm.trans (MapKept.heap_alloc wp1 _).1
     have NK1 := Fr.own_ne OP1
     have NL1 : wp1.heap.size < wg1.heap.size := by rw [← hG1]; simp
     clear hG1
     refine Evo2.all [3] (by decide +kernel) rfl ?_
     intro wp2 gp2 iq hq
     simp only [List.mem_cons, List.mem_nil_iff, or_false] at hq
     have AP2 := Evo2.SK.trans (Evo2.SK.trans AP1 (Evo2.SK.grow GG1 (Below.mono GG1 SP1))) (Evo2.sk_of gp2)
     have OP2 := own_later (own_later OP1 GG1) gp2.1
     have SP2 := Nat.le_trans HB AP2.size
     have NC1 := (gp2.1.block _ NL1).trans NC1
     have NL1 := Nat.lt_of_lt_of_le NL1 gp2.1.size
     subst hq
     refine Evo2.enters 45 _ (by rfl) (by rfl) (by go_simp; exact ⟨rfl, rfl⟩) ?_
     refine (rtext_any (w.heap.size + 1) _ (([2] ++ fourB n ++ txtB rn ++ txtB rc ++ [rr, (ts.length : Int)]) ++ tgtsB (ts.take i)) rv wp2 OP2 SP2 ⟨by simp, by simp [fourB, txtB, oneB, numsOf_len]; omega⟩ (by omega)).mono ?_
     rintro e wc2 ⟨vw2, rfl, OW2, fr2⟩
     have hb2 := fr2.sk OP2 SP2 ⟨_, _, rfl⟩
     have AC2 := Evo2.SK.trans AP2 hb2
     have ⟨eq1, NK1⟩ := fr2.keep NL1 NK1
     have NC1 := eq1.trans NC1
     have NL1 := Nat.lt_of_lt_of_le NL1 fr2.g.size
     refine ⟨_, rfl, .inr hb2, ?_⟩
     simp only [Act.put, L0, L1, L2]
     refine Evo2.all [6] (by decide +kernel) rfl ?_
     intro wp3 gp3 iq hq
     simp only [List.mem_cons, List.mem_nil_iff, or_false] at hq
     have AP3 := Evo2.SK.trans AC2 (Evo2.sk_of gp3)
     have OP3 := own_later OW2 gp3.1
     have SP3 := Nat.le_trans HB AP3.size
     have NC1 := (gp3.1.block _ NL1).trans NC1
     have NL1 := Nat.lt_of_lt_of_le NL1 gp3.1.size
     subst hq
     refine Evo2.enters 45 _ (by rfl) (by rfl) (by go_simp; exact ⟨rfl, rfl⟩) ?_
     refine (rtext_any (w.heap.size + 1) _ ((([2] ++ fourB n ++ txtB rn ++ txtB rc ++ [rr, (ts.length : Int)]) ++ tgtsB (ts.take i)) ++ txtB rv) tgx wp3 OP3 SP3 ⟨by simp, by simp [fourB, txtB, oneB, numsOf_len]; omega⟩ (by omega)).mono ?_
     rintro e wc3 ⟨vw3, rfl, OW3, fr3⟩
     have hb3 := fr3.sk OP3 SP3 ⟨_, _, rfl⟩
     have AC3 := Evo2.SK.trans AP3 hb3
     have ⟨eq1, NK1⟩ := fr3.keep NL1 NK1
     have NC1 := eq1.trans NC1
     have NL1 := Nat.lt_of_lt_of_le NL1 fr3.g.size
     refine ⟨_, rfl, .inr hb3, ?_⟩
     simp only [Act.put, L0, L1, L2]
     refine Evo2.all [11] (by decide +kernel) rfl ?_
     intro wp4 gp4 iq hq
     simp only [List.mem_cons, List.mem_nil_iff, or_false] at hq
     have AP4 := Evo2.SK.trans AC3 (Evo2.sk_of gp4)
     have OP4 := own_later OW3 gp4.1
     have SP4 := Nat.le_trans HB AP4.size
     have NC1 := (gp4.1.block _ NL1).trans NC1
     have NL1 := Nat.lt_of_lt_of_le NL1 gp4.1.size
     subst hq
     refine Fr.own_fr (by rfl) (by rfl) (Operand.tmp 91) (Operand.tmp 95) 41 (by rfl) (w.heap.size + 1) 5 i0 (.int .u8 0) 1 1 Tryz.underlying41 HI.out HZ0.out HZ1.out HZ2.out rfl (by decide) _ _ _ (by rfl) OP4 _ 1 1 [_] (by rfl) rfl (news_blk NC1) ?_ ?_ ?_ ?_ ?_ 
     ·
      exact one1 rfl 
     ·
      simp [fourB, txtB, oneB, numsOf_len]; unfold maxLen; omega 
     ·
      simp [fourB, txtB, oneB, numsOf_len]; omega 
     ·
      exact SP4
     intro vw4 wc4 OW4 fr4
     have hb4 := fr4.sk OP4 SP4 ⟨_, _, rfl⟩
     have AC4 := Evo2.SK.trans AP4 hb4
     have ⟨eq1, NK1⟩ := fr4.keep NL1 NK1
     have NC1 := eq1.trans NC1
     have NL1 := Nat.lt_of_lt_of_le NL1 fr4.g.size
     refine ⟨.inr hb4, ?_⟩
     simp only [Act.put, L0, L1, L2]
     refine Evo2.va ok 12 _ _ ?_
     refine Evo2.done (by decide +kernel) (fun wz gz => ?_)
     have AZ := Evo2.SK.trans AC4 (Evo2.sk_of gz)
     have OZ := own_later OW4 gz.1
     go_wp2_with fail 
     go_roundw 
     case rel => exact ⟨i + 1, by omega, by go_num, Lib.hid (own_fin (zs := (([2] ++ fourB n ++ txtB rn ++ txtB rc ++ [rr, (ts.length : Int)]) ++ tgtsB (ts.take i)) ++ txtB rv ++ txtB tgx ++ [pc]) OZ (by first | rfl | (simp [fourB, txtB, oneB, numsOf_len]; done) | (simp [fourB, txtB, oneB, numsOf_len]; omega)) (by simp [WPC.out]) (Nat.le_refl _) (by rw [SN.out]; simp [tgtB', oneB]; omega)), Lib.hid (Evo2.SK.trans AI.out (Evo2.SK.trans AW1 AZ))⟩ 
     case measure => simp [intOf]; omega
   ·
    obtain rfl : i = ts.length := by omega
    have OI := OI.out
    rw [List.take_length] at OI
    have OI := Lib.hid OI
    go_wp2_with fail
    refine bodyPost_ret (v := u3) (by simp [results, Tryz.results20, go_sem]) rfl ⟨u3, rfl, own_fin (zs := ([2] ++ fourB n ++ txtB rn ++ txtB rc ++ [rr, (ts.length : Int)]) ++ tgtsB ts) OI.out ?_ ?_ (Nat.le_succ _) ?_, Below.trans G0 (Below.mono AI.out.1 (Nat.le_succ _))⟩
    ·
     first | rfl | (simp; done) | (simp; omega)
    ·
     first | rfl | (simp; done)
    ·
     rw [BY.out]; first | rfl | (simp [oneB]; done) | (simp [oneB]; omega)
theorem rbytes_any (e : EvD) (a : Option Addr) (c : Nat) (w : World) (hk : e.chk = 0) (ht : TgtSl w a e.ts) :
  Calls Tryz.prog 20 #[.agg (e.cells a c)] w fun x w' => ∃ v, x = .returned v ∧ OwnB w' w.heap.size v e.bytes ∧ Below w.heap.size w w' := by
 obtain ⟨h1, h2, _⟩ := chk_ok hk
 have h : e.k = 1 ∨ e.k = 2 ∨ e.k = 3 ∨ e.k = 4 ∨ e.k = 5 ∨ e.k = 6 ∨ e.k = 7 ∨ e.k = 8 ∨ e.k = 9 ∨ e.k = 10 ∨ e.k = 11 ∨ e.k = 12 ∨ e.k = 13 := by omega
 rcases h with h | h | h | h | h | h | h | h | h | h | h | h | h
 ·
  exact rbytes_1 e a c w hk h ht
 ·
  exact rbytes_2 e a c w hk h ht
 ·
  exact rbytes_3 e a c w hk h ht
 ·
  exact rbytes_4 e a c w hk h ht
 ·
  exact rbytes_5 e a c w hk h ht
 ·
  exact rbytes_6 e a c w hk h ht
 ·
  exact rbytes_7 e a c w hk h ht
 ·
  exact rbytes_8 e a c w hk h ht
 ·
  exact rbytes_9 e a c w hk h ht
 ·
  exact rbytes_10 e a c w hk h ht
 ·
  exact rbytes_11 e a c w hk h ht
 ·
  exact rbytes_12 e a c w hk h ht
 ·
  exact rbytes_13 e a c w hk h ht
end Go.Proofs.YtnkekdmikopdgaaGreat

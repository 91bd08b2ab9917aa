/- My own texts RChk1, RChk2, RChk3, RChk4, RChk, laid in one file. -/
import Derived.Test.YtnkekdmikopdgaaGreatZ19

/- What damperref3.Check answers: kinds 5, 6, 7, 8, 9. -/
namespace Go.Proofs.YtnkekdmikopdgaaGreat
set_option maxRecDepth 100000
set_option linter.unusedVariables false
set_option linter.unusedSimpArgs false
set_option linter.unnecessarySimpa false
open Go.RowKit

set_option maxHeartbeats 8000000 in
theorem rchk_5 (nm tg : ByteArray) (n dr : Int) (cn : ByteArray) (im co mn mx gr : Int) (rn rc : ByteArray) (a : Option Addr) (ts : List Tgt) (c : Nat) (rr : Int) (w : World) (hd : EvBd w (⟨5, nm, tg, n, dr, ⟨cn, im, co, mn, mx, gr⟩, rn, rc, ts, rr⟩ : EvD) a) :
  Calls Tryz.prog 15 #[.agg #[.int .i64 5, .string nm, .string tg, .int .i64 n, .int .i64 dr, .string cn, .int .i64 im, .int .i64 co, .int .i64 mn, .int .i64 mx, .int .i64 gr, .string rn, .string rc, .slice a ts.length c, .int .i64 rr]] w fun x w' => x = .returned (.int .i64 (⟨5, nm, tg, n, dr, ⟨cn, im, co, mn, mx, gr⟩, rn, rc, ts, rr⟩ : EvD).chk) ∧ Grow.G w w' := by
 have CE : (Tryz.prog.info? 28).map (·.size) = some 15 := by kernel_rfl
 have CC : (Tryz.prog.info? 23).map (·.size) = some 6 := by kernel_rfl
 have CR : (Tryz.prog.info? 26).map (·.size) = some 4 := by kernel_rfl
 have KP : (⟨5, nm, tg, n, dr, ⟨cn, im, co, mn, mx, gr⟩, rn, rc, ts, rr⟩ : EvD).kept = ({ ev0 with k := 5, n := n } : EvD) := by simp only [EvD.kept, Int.reduceEq, Int.reduceLE, if_true, if_false, and_true, true_and, and_false, false_and, and_self, ev0]
 have CH : Hid ((⟨5, nm, tg, n, dr, ⟨cn, im, co, mn, mx, gr⟩, rn, rc, ts, rr⟩ : EvD).chk = if (⟨5, nm, tg, n, dr, ⟨cn, im, co, mn, mx, gr⟩, rn, rc, ts, rr⟩ : EvD) ≠ ({ ev0 with k := 5, n := n } : EvD) then 2 else numE n 1) := Lib.hid (by
  unfold EvD.chk
  rw [KP]
  simp only [Int.reduceEq, Int.reduceLT, Int.reduceLE, if_true, if_false, or_false, and_true, true_and, and_false, false_and])
 have SM := Lib.hid (fun w (h : TgtSl w a ts) => (show Calls Tryz.prog 21 #[.agg #[.int .i64 5, .string nm, .string tg, .int .i64 n, .int .i64 dr, .string cn, .int .i64 im, .int .i64 co, .int .i64 mn, .int .i64 mx, .int .i64 gr, .string rn, .string rc, .slice a ts.length c, .int .i64 rr], .agg #[.int .i64 5, .string ⟨#[]⟩, .string ⟨#[]⟩, .int .i64 n, .int .i64 0, .string ⟨#[]⟩, .int .i64 0, .int .i64 0, .int .i64 0, .int .i64 0, .int .i64 0, .string ⟨#[]⟩, .string ⟨#[]⟩, .slice none 0 0, .int .i64 0]] w fun x w' => x = .returned (.bool (evB (⟨5, nm, tg, n, dr, ⟨cn, im, co, mn, mx, gr⟩, rn, rc, ts, rr⟩ : EvD) ({ ev0 with k := 5, n := n } : EvD))) ∧ Below w.heap.size w w' from rsame3_any (⟨5, nm, tg, n, dr, ⟨cn, im, co, mn, mx, gr⟩, rn, rc, ts, rr⟩ : EvD) ({ ev0 with k := 5, n := n } : EvD) a c none 0 w h (.inl rfl) hd.tl))
 have EI : Hid (evB (⟨5, nm, tg, n, dr, ⟨cn, im, co, mn, mx, gr⟩, rn, rc, ts, rr⟩ : EvD) ({ ev0 with k := 5, n := n } : EvD) = true ↔ (⟨5, nm, tg, n, dr, ⟨cn, im, co, mn, mx, gr⟩, rn, rc, ts, rr⟩ : EvD) = ({ ev0 with k := 5, n := n } : EvD)) := Lib.hid evB_iff
 have KT := Lib.hid (fun w => rkept_5 nm tg n dr cn im co mn mx gr rn rc a ts c rr w)
 have HTS := Lib.hid hd.ts
 have s1 : nm.size ≤ 281474976710655 := by have := hd.nm; dsimp only at this; omega
 have s2 : nm.size ≤ maxLen := by have := hd.nm; dsimp only at this; unfold maxLen; omega
 have s3 : tg.size ≤ maxLen := by have := hd.tg; dsimp only at this; unfold maxLen; omega
 have s4 : cn.size ≤ maxLen := by have := hd.cn; dsimp only at this; unfold maxLen; omega
 have SP := Lib.hid (fun w => rsplit_any nm w s1)
 have NA := Lib.hid (fun w => rname_any nm w s2)
 have NAv := Lib.hid (fun w => grow_v (rname_any nm w s2))
 have TAv := Lib.hid (fun w => grow_v (rtag_any tg w s3))
 have CF := Lib.hid (fun w => rconfig_at cn im co mn mx gr w s4)
 have RT := Lib.hid (fun w h => rroute_at rn rc a ts ts.length c rr w (routeE rn rc ts rr) rfl hd.rn hd.rc hd.tl h hd.ok rfl)
 generalize evB (⟨5, nm, tg, n, dr, ⟨cn, im, co, mn, mx, gr⟩, rn, rc, ts, rr⟩ : EvD) ({ ev0 with k := 5, n := n } : EvD) = b at *
 generalize (⟨5, nm, tg, n, dr, ⟨cn, im, co, mn, mx, gr⟩, rn, rc, ts, rr⟩ : EvD).chk = ck at *
 clear hd KP s1 s2 s3 s4
 go_enter Tryz.func15, Tryz.ntmps15
 go_wp2_with fail
 have HMa := Lib.hid (Mem.alloc' (Mem.nil w) [.int .i64 5, .string nm, .string tg, .int .i64 n, .int .i64 dr, .string cn, .int .i64 im, .int .i64 co, .int .i64 mn, .int .i64 mx, .int .i64 gr, .string rn, .string rc, .slice a ts.length c, .int .i64 rr] 28 (g := w.heap.size) rfl)
 have HTa := Lib.hid (HTS.out.later (show Grow.G w (w.alloc (.cells #[.int .i64 5, .string nm, .string tg, .int .i64 n, .int .i64 dr, .string cn, .int .i64 im, .int .i64 co, .int .i64 mn, .int .i64 mx, .int .i64 gr, .string rn, .string rc, .slice a ts.length c, .int .i64 rr] 28)) from Grow.G.alloc (Grow.G.refl _) _))
 obtain ⟨W, hW⟩ : ∃ W, W = w.alloc (.cells #[.int .i64 5, .string nm, .string tg, .int .i64 n, .int .i64 dr, .string cn, .int .i64 im, .int .i64 co, .int .i64 mn, .int .i64 mx, .int .i64 gr, .string rn, .string rc, .slice a ts.length c, .int .i64 rr] 28) := ⟨_, rfl⟩
 rw [← hW] at HMa HTa ⊢
 clear hW HTS
 have BE := Lib.hid (HMa.out.blk (i := 0) rfl)
 refine Evo2.start' (ℓ := none) (S := Chg (fun _ => False)) (E := Grow.G) (by kernel_rfl) ⟨Chg.pre _, by decide +kernel, (by intro c a d v w h; cases d <;> exact h), by decide +kernel⟩ (fun ok => ?_)
 first | (refine Evo2.val ok 0 ?_ ?_ ?_; rotate_left; (focus (intro w' hg; refine Box.exec_loadAll ?_ Tryz.underlying28 CE (BE.out.chg (Chg.trans (Chg.refl (fun _ => False) _) hg) id) ?_; (all_goals (first | exact ⟨rfl, rfl⟩ | rfl)))); simp only [Act.put, L0, L1, L2]) | (refine Evo2.va ok 0 _ _ ?_)
 first | (refine Evo2.val ok 1 ?_ ?_ ?_; rotate_left; (focus (intro w' hg; refine Box.exec_loadAll ?_ Tryz.underlying28 CE (BE.out.chg (Chg.trans (Chg.refl (fun _ => False) _) hg) id) ?_; (all_goals (first | exact ⟨rfl, rfl⟩ | rfl)))); simp only [Act.put, L0, L1, L2]) | (refine Evo2.va ok 1 _ _ ?_)
 (refine Evo2.cal ok 2 ?_ 33 ?_ ?_ ?_ ?_; rotate_left 2; (focus (intro w'; go_simp <;> with_reducible rfl)); (focus (intro w' g'; with_reducible exact KT.out w')); simp only [Act.put, L0, L1, L2])
 (refine Evo2.cal ok 3 ?_ 21 ?_ ?_ ?_ ?_; rotate_left 2; (focus (intro w'; go_simp <;> with_reducible rfl)); (focus (intro w' g'; with_reducible exact SM.out w' (HTa.out.chg (Chg.trans (Chg.refl (fun _ => False) _) g') (fun _ _ _ => id)))); simp only [Act.put, L0, L1, L2])
 refine Evo2.va ok 4 _ _ ?_
 refine Evo2.done (by decide +kernel) (fun wz gz => ?_)
 have AZ := Chg.trans (Chg.refl (fun _ => False) _) (Chg.grow gz)
 have HM := Lib.hid (HMa.out.grow (chg_none AZ))
 have HT := Lib.hid (HTa.out.later (chg_none AZ))
 clear AZ BE HMa HTa gz KT SM
 cases b with
 | false =>
  have CH2 : Hid (ck = 2) := Lib.hid (by rw [CH.out, if_pos (fun e => by have := EI.out.2 e; cases this)])
  clear CH EI
  go_wp2_with (first | (refine Mem.load1 0 (t := 3) rfl rfl rfl Tryz.underlying3 rfl HM.out rfl rfl ?_) | (refine Mem.load1 0 (t := 9) rfl rfl rfl Tryz.underlying9 rfl HM.out rfl rfl ?_))
  go_ret
  exact ⟨ret_i64 CH2.out.symm, HM.out.below⟩
 | true =>
  have CH2 : Hid (ck = numE n 1) := Lib.hid (by rw [CH.out, if_neg (fun h => h (EI.out.1 rfl))])
  clear CH EI
  go_wp2_with (first | (refine Mem.load1 0 (t := 3) rfl rfl rfl Tryz.underlying3 rfl HM.out rfl rfl ?_) | (refine Mem.load1 0 (t := 9) rfl rfl rfl Tryz.underlying9 rfl HM.out rfl rfl ?_))
  refine (SP.out _).mono ?_
  rintro e wx ⟨hsp, rfl⟩
  obtain ⟨s0, m0, rfl⟩ := hsp.isB
  clear hsp
  go_wp2_with (first | (refine Mem.load1 0 (t := 3) rfl rfl rfl Tryz.underlying3 rfl HM.out rfl rfl ?_) | (refine Mem.load1 0 (t := 9) rfl rfl rfl Tryz.underlying9 rfl HM.out rfl rfl ?_))
  refine (rnumber_any _ _ _).mono ?_
  rintro e wx ⟨rfl, rfl⟩
  go_wp2_with (first | (refine Mem.load1 0 (t := 3) rfl rfl rfl Tryz.underlying3 rfl HM.out rfl rfl ?_) | (refine Mem.load1 0 (t := 9) rfl rfl rfl Tryz.underlying9 rfl HM.out rfl rfl ?_))
  go_ret
  exact ⟨ret_i64 CH2.out.symm, HM.out.below⟩

set_option maxHeartbeats 8000000 in
theorem rchk_6 (nm tg : ByteArray) (n dr : Int) (cn : ByteArray) (im co mn mx gr : Int) (rn rc : ByteArray) (a : Option Addr) (ts : List Tgt) (c : Nat) (rr : Int) (w : World) (hd : EvBd w (⟨6, nm, tg, n, dr, ⟨cn, im, co, mn, mx, gr⟩, rn, rc, ts, rr⟩ : EvD) a) :
  Calls Tryz.prog 15 #[.agg #[.int .i64 6, .string nm, .string tg, .int .i64 n, .int .i64 dr, .string cn, .int .i64 im, .int .i64 co, .int .i64 mn, .int .i64 mx, .int .i64 gr, .string rn, .string rc, .slice a ts.length c, .int .i64 rr]] w fun x w' => x = .returned (.int .i64 (⟨6, nm, tg, n, dr, ⟨cn, im, co, mn, mx, gr⟩, rn, rc, ts, rr⟩ : EvD).chk) ∧ Grow.G w w' := by
 have CE : (Tryz.prog.info? 28).map (·.size) = some 15 := by kernel_rfl
 have CC : (Tryz.prog.info? 23).map (·.size) = some 6 := by kernel_rfl
 have CR : (Tryz.prog.info? 26).map (·.size) = some 4 := by kernel_rfl
 have KP : (⟨6, nm, tg, n, dr, ⟨cn, im, co, mn, mx, gr⟩, rn, rc, ts, rr⟩ : EvD).kept = ({ ev0 with k := 6, n := n } : EvD) := by simp only [EvD.kept, Int.reduceEq, Int.reduceLE, if_true, if_false, and_true, true_and, and_false, false_and, and_self, ev0]
 have CH : Hid ((⟨6, nm, tg, n, dr, ⟨cn, im, co, mn, mx, gr⟩, rn, rc, ts, rr⟩ : EvD).chk = if (⟨6, nm, tg, n, dr, ⟨cn, im, co, mn, mx, gr⟩, rn, rc, ts, rr⟩ : EvD) ≠ ({ ev0 with k := 6, n := n } : EvD) then 2 else numE n 1) := Lib.hid (by
  unfold EvD.chk
  rw [KP]
  simp only [Int.reduceEq, Int.reduceLT, Int.reduceLE, if_true, if_false, or_false, and_true, true_and, and_false, false_and])
 have SM := Lib.hid (fun w (h : TgtSl w a ts) => (show Calls Tryz.prog 21 #[.agg #[.int .i64 6, .string nm, .string tg, .int .i64 n, .int .i64 dr, .string cn, .int .i64 im, .int .i64 co, .int .i64 mn, .int .i64 mx, .int .i64 gr, .string rn, .string rc, .slice a ts.length c, .int .i64 rr], .agg #[.int .i64 6, .string ⟨#[]⟩, .string ⟨#[]⟩, .int .i64 n, .int .i64 0, .string ⟨#[]⟩, .int .i64 0, .int .i64 0, .int .i64 0, .int .i64 0, .int .i64 0, .string ⟨#[]⟩, .string ⟨#[]⟩, .slice none 0 0, .int .i64 0]] w fun x w' => x = .returned (.bool (evB (⟨6, nm, tg, n, dr, ⟨cn, im, co, mn, mx, gr⟩, rn, rc, ts, rr⟩ : EvD) ({ ev0 with k := 6, n := n } : EvD))) ∧ Below w.heap.size w w' from rsame3_any (⟨6, nm, tg, n, dr, ⟨cn, im, co, mn, mx, gr⟩, rn, rc, ts, rr⟩ : EvD) ({ ev0 with k := 6, n := n } : EvD) a c none 0 w h (.inl rfl) hd.tl))
 have EI : Hid (evB (⟨6, nm, tg, n, dr, ⟨cn, im, co, mn, mx, gr⟩, rn, rc, ts, rr⟩ : EvD) ({ ev0 with k := 6, n := n } : EvD) = true ↔ (⟨6, nm, tg, n, dr, ⟨cn, im, co, mn, mx, gr⟩, rn, rc, ts, rr⟩ : EvD) = ({ ev0 with k := 6, n := n } : EvD)) := Lib.hid evB_iff
 have KT := Lib.hid (fun w => rkept_6 nm tg n dr cn im co mn mx gr rn rc a ts c rr w)
 have HTS := Lib.hid hd.ts
 have s1 : nm.size ≤ 281474976710655 := by have := hd.nm; dsimp only at this; omega
 have s2 : nm.size ≤ maxLen := by have := hd.nm; dsimp only at this; unfold maxLen; omega
 have s3 : tg.size ≤ maxLen := by have := hd.tg; dsimp only at this; unfold maxLen; omega
 have s4 : cn.size ≤ maxLen := by have := hd.cn; dsimp only at this; unfold maxLen; omega
 have SP := Lib.hid (fun w => rsplit_any nm w s1)
 have NA := Lib.hid (fun w => rname_any nm w s2)
 have NAv := Lib.hid (fun w => grow_v (rname_any nm w s2))
 have TAv := Lib.hid (fun w => grow_v (rtag_any tg w s3))
 have CF := Lib.hid (fun w => rconfig_at cn im co mn mx gr w s4)
 have RT := Lib.hid (fun w h => rroute_at rn rc a ts ts.length c rr w (routeE rn rc ts rr) rfl hd.rn hd.rc hd.tl h hd.ok rfl)
 generalize evB (⟨6, nm, tg, n, dr, ⟨cn, im, co, mn, mx, gr⟩, rn, rc, ts, rr⟩ : EvD) ({ ev0 with k := 6, n := n } : EvD) = b at *
 generalize (⟨6, nm, tg, n, dr, ⟨cn, im, co, mn, mx, gr⟩, rn, rc, ts, rr⟩ : EvD).chk = ck at *
 clear hd KP s1 s2 s3 s4
 go_enter Tryz.func15, Tryz.ntmps15
 go_wp2_with fail
 have HMa := Lib.hid (Mem.alloc' (Mem.nil w) [.int .i64 6, .string nm, .string tg, .int .i64 n, .int .i64 dr, .string cn, .int .i64 im, .int .i64 co, .int .i64 mn, .int .i64 mx, .int .i64 gr, .string rn, .string rc, .slice a ts.length c, .int .i64 rr] 28 (g := w.heap.size) rfl)
 have HTa := Lib.hid (HTS.out.later (show Grow.G w (w.alloc (.cells #[.int .i64 6, .string nm, .string tg, .int .i64 n, .int .i64 dr, .string cn, .int .i64 im, .int .i64 co, .int .i64 mn, .int .i64 mx, .int .i64 gr, .string rn, .string rc, .slice a ts.length c, .int .i64 rr] 28)) from Grow.G.alloc (Grow.G.refl _) _))
 obtain ⟨W, hW⟩ : ∃ W, W = w.alloc (.cells #[.int .i64 6, .string nm, .string tg, .int .i64 n, .int .i64 dr, .string cn, .int .i64 im, .int .i64 co, .int .i64 mn, .int .i64 mx, .int .i64 gr, .string rn, .string rc, .slice a ts.length c, .int .i64 rr] 28) := ⟨_, rfl⟩
 rw [← hW] at HMa HTa ⊢
 clear hW HTS
 have BE := Lib.hid (HMa.out.blk (i := 0) rfl)
 refine Evo2.start' (ℓ := none) (S := Chg (fun _ => False)) (E := Grow.G) (by kernel_rfl) ⟨Chg.pre _, by decide +kernel, (by intro c a d v w h; cases d <;> exact h), by decide +kernel⟩ (fun ok => ?_)
 first | (refine Evo2.val ok 0 ?_ ?_ ?_; rotate_left; (focus (intro w' hg; refine Box.exec_loadAll ?_ Tryz.underlying28 CE (BE.out.chg (Chg.trans (Chg.refl (fun _ => False) _) hg) id) ?_; (all_goals (first | exact ⟨rfl, rfl⟩ | rfl)))); simp only [Act.put, L0, L1, L2]) | (refine Evo2.va ok 0 _ _ ?_)
 first | (refine Evo2.val ok 1 ?_ ?_ ?_; rotate_left; (focus (intro w' hg; refine Box.exec_loadAll ?_ Tryz.underlying28 CE (BE.out.chg (Chg.trans (Chg.refl (fun _ => False) _) hg) id) ?_; (all_goals (first | exact ⟨rfl, rfl⟩ | rfl)))); simp only [Act.put, L0, L1, L2]) | (refine Evo2.va ok 1 _ _ ?_)
 (refine Evo2.cal ok 2 ?_ 33 ?_ ?_ ?_ ?_; rotate_left 2; (focus (intro w'; go_simp <;> with_reducible rfl)); (focus (intro w' g'; with_reducible exact KT.out w')); simp only [Act.put, L0, L1, L2])
 (refine Evo2.cal ok 3 ?_ 21 ?_ ?_ ?_ ?_; rotate_left 2; (focus (intro w'; go_simp <;> with_reducible rfl)); (focus (intro w' g'; with_reducible exact SM.out w' (HTa.out.chg (Chg.trans (Chg.refl (fun _ => False) _) g') (fun _ _ _ => id)))); simp only [Act.put, L0, L1, L2])
 refine Evo2.va ok 4 _ _ ?_
 refine Evo2.done (by decide +kernel) (fun wz gz => ?_)
 have AZ := Chg.trans (Chg.refl (fun _ => False) _) (Chg.grow gz)
 have HM := Lib.hid (HMa.out.grow (chg_none AZ))
 have HT := Lib.hid (HTa.out.later (chg_none AZ))
 clear AZ BE HMa HTa gz KT SM
 cases b with
 | false =>
  have CH2 : Hid (ck = 2) := Lib.hid (by rw [CH.out, if_pos (fun e => by have := EI.out.2 e; cases this)])
  clear CH EI
  go_wp2_with (first | (refine Mem.load1 0 (t := 3) rfl rfl rfl Tryz.underlying3 rfl HM.out rfl rfl ?_) | (refine Mem.load1 0 (t := 9) rfl rfl rfl Tryz.underlying9 rfl HM.out rfl rfl ?_))
  go_ret
  exact ⟨ret_i64 CH2.out.symm, HM.out.below⟩
 | true =>
  have CH2 : Hid (ck = numE n 1) := Lib.hid (by rw [CH.out, if_neg (fun h => h (EI.out.1 rfl))])
  clear CH EI
  go_wp2_with (first | (refine Mem.load1 0 (t := 3) rfl rfl rfl Tryz.underlying3 rfl HM.out rfl rfl ?_) | (refine Mem.load1 0 (t := 9) rfl rfl rfl Tryz.underlying9 rfl HM.out rfl rfl ?_))
  refine (SP.out _).mono ?_
  rintro e wx ⟨hsp, rfl⟩
  obtain ⟨s0, m0, rfl⟩ := hsp.isB
  clear hsp
  go_wp2_with (first | (refine Mem.load1 0 (t := 3) rfl rfl rfl Tryz.underlying3 rfl HM.out rfl rfl ?_) | (refine Mem.load1 0 (t := 9) rfl rfl rfl Tryz.underlying9 rfl HM.out rfl rfl ?_))
  refine (rnumber_any _ _ _).mono ?_
  rintro e wx ⟨rfl, rfl⟩
  go_wp2_with (first | (refine Mem.load1 0 (t := 3) rfl rfl rfl Tryz.underlying3 rfl HM.out rfl rfl ?_) | (refine Mem.load1 0 (t := 9) rfl rfl rfl Tryz.underlying9 rfl HM.out rfl rfl ?_))
  go_ret
  exact ⟨ret_i64 CH2.out.symm, HM.out.below⟩

set_option maxHeartbeats 8000000 in
theorem rchk_7 (nm tg : ByteArray) (n dr : Int) (cn : ByteArray) (im co mn mx gr : Int) (rn rc : ByteArray) (a : Option Addr) (ts : List Tgt) (c : Nat) (rr : Int) (w : World) (hd : EvBd w (⟨7, nm, tg, n, dr, ⟨cn, im, co, mn, mx, gr⟩, rn, rc, ts, rr⟩ : EvD) a) :
  Calls Tryz.prog 15 #[.agg #[.int .i64 7, .string nm, .string tg, .int .i64 n, .int .i64 dr, .string cn, .int .i64 im, .int .i64 co, .int .i64 mn, .int .i64 mx, .int .i64 gr, .string rn, .string rc, .slice a ts.length c, .int .i64 rr]] w fun x w' => x = .returned (.int .i64 (⟨7, nm, tg, n, dr, ⟨cn, im, co, mn, mx, gr⟩, rn, rc, ts, rr⟩ : EvD).chk) ∧ Grow.G w w' := by
 have CE : (Tryz.prog.info? 28).map (·.size) = some 15 := by kernel_rfl
 have CC : (Tryz.prog.info? 23).map (·.size) = some 6 := by kernel_rfl
 have CR : (Tryz.prog.info? 26).map (·.size) = some 4 := by kernel_rfl
 have KP : (⟨7, nm, tg, n, dr, ⟨cn, im, co, mn, mx, gr⟩, rn, rc, ts, rr⟩ : EvD).kept = ({ ev0 with k := 7, n := n } : EvD) := by simp only [EvD.kept, Int.reduceEq, Int.reduceLE, if_true, if_false, and_true, true_and, and_false, false_and, and_self, ev0]
 have CH : Hid ((⟨7, nm, tg, n, dr, ⟨cn, im, co, mn, mx, gr⟩, rn, rc, ts, rr⟩ : EvD).chk = if (⟨7, nm, tg, n, dr, ⟨cn, im, co, mn, mx, gr⟩, rn, rc, ts, rr⟩ : EvD) ≠ ({ ev0 with k := 7, n := n } : EvD) then 2 else numE n 1) := Lib.hid (by
  unfold EvD.chk
  rw [KP]
  simp only [Int.reduceEq, Int.reduceLT, Int.reduceLE, if_true, if_false, or_false, and_true, true_and, and_false, false_and])
 have SM := Lib.hid (fun w (h : TgtSl w a ts) => (show Calls Tryz.prog 21 #[.agg #[.int .i64 7, .string nm, .string tg, .int .i64 n, .int .i64 dr, .string cn, .int .i64 im, .int .i64 co, .int .i64 mn, .int .i64 mx, .int .i64 gr, .string rn, .string rc, .slice a ts.length c, .int .i64 rr], .agg #[.int .i64 7, .string ⟨#[]⟩, .string ⟨#[]⟩, .int .i64 n, .int .i64 0, .string ⟨#[]⟩, .int .i64 0, .int .i64 0, .int .i64 0, .int .i64 0, .int .i64 0, .string ⟨#[]⟩, .string ⟨#[]⟩, .slice none 0 0, .int .i64 0]] w fun x w' => x = .returned (.bool (evB (⟨7, nm, tg, n, dr, ⟨cn, im, co, mn, mx, gr⟩, rn, rc, ts, rr⟩ : EvD) ({ ev0 with k := 7, n := n } : EvD))) ∧ Below w.heap.size w w' from rsame3_any (⟨7, nm, tg, n, dr, ⟨cn, im, co, mn, mx, gr⟩, rn, rc, ts, rr⟩ : EvD) ({ ev0 with k := 7, n := n } : EvD) a c none 0 w h (.inl rfl) hd.tl))
 have EI : Hid (evB (⟨7, nm, tg, n, dr, ⟨cn, im, co, mn, mx, gr⟩, rn, rc, ts, rr⟩ : EvD) ({ ev0 with k := 7, n := n } : EvD) = true ↔ (⟨7, nm, tg, n, dr, ⟨cn, im, co, mn, mx, gr⟩, rn, rc, ts, rr⟩ : EvD) = ({ ev0 with k := 7, n := n } : EvD)) := Lib.hid evB_iff
 have KT := Lib.hid (fun w => rkept_7 nm tg n dr cn im co mn mx gr rn rc a ts c rr w)
 have HTS := Lib.hid hd.ts
 have s1 : nm.size ≤ 281474976710655 := by have := hd.nm; dsimp only at this; omega
 have s2 : nm.size ≤ maxLen := by have := hd.nm; dsimp only at this; unfold maxLen; omega
 have s3 : tg.size ≤ maxLen := by have := hd.tg; dsimp only at this; unfold maxLen; omega
 have s4 : cn.size ≤ maxLen := by have := hd.cn; dsimp only at this; unfold maxLen; omega
 have SP := Lib.hid (fun w => rsplit_any nm w s1)
 have NA := Lib.hid (fun w => rname_any nm w s2)
 have NAv := Lib.hid (fun w => grow_v (rname_any nm w s2))
 have TAv := Lib.hid (fun w => grow_v (rtag_any tg w s3))
 have CF := Lib.hid (fun w => rconfig_at cn im co mn mx gr w s4)
 have RT := Lib.hid (fun w h => rroute_at rn rc a ts ts.length c rr w (routeE rn rc ts rr) rfl hd.rn hd.rc hd.tl h hd.ok rfl)
 generalize evB (⟨7, nm, tg, n, dr, ⟨cn, im, co, mn, mx, gr⟩, rn, rc, ts, rr⟩ : EvD) ({ ev0 with k := 7, n := n } : EvD) = b at *
 generalize (⟨7, nm, tg, n, dr, ⟨cn, im, co, mn, mx, gr⟩, rn, rc, ts, rr⟩ : EvD).chk = ck at *
 clear hd KP s1 s2 s3 s4
 go_enter Tryz.func15, Tryz.ntmps15
 go_wp2_with fail
 have HMa := Lib.hid (Mem.alloc' (Mem.nil w) [.int .i64 7, .string nm, .string tg, .int .i64 n, .int .i64 dr, .string cn, .int .i64 im, .int .i64 co, .int .i64 mn, .int .i64 mx, .int .i64 gr, .string rn, .string rc, .slice a ts.length c, .int .i64 rr] 28 (g := w.heap.size) rfl)
 have HTa := Lib.hid (HTS.out.later (show Grow.G w (w.alloc (.cells #[.int .i64 7, .string nm, .string tg, .int .i64 n, .int .i64 dr, .string cn, .int .i64 im, .int .i64 co, .int .i64 mn, .int .i64 mx, .int .i64 gr, .string rn, .string rc, .slice a ts.length c, .int .i64 rr] 28)) from Grow.G.alloc (Grow.G.refl _) _))
 obtain ⟨W, hW⟩ : ∃ W, W = w.alloc (.cells #[.int .i64 7, .string nm, .string tg, .int .i64 n, .int .i64 dr, .string cn, .int .i64 im, .int .i64 co, .int .i64 mn, .int .i64 mx, .int .i64 gr, .string rn, .string rc, .slice a ts.length c, .int .i64 rr] 28) := ⟨_, rfl⟩
 rw [← hW] at HMa HTa ⊢
 clear hW HTS
 have BE := Lib.hid (HMa.out.blk (i := 0) rfl)
 refine Evo2.start' (ℓ := none) (S := Chg (fun _ => False)) (E := Grow.G) (by kernel_rfl) ⟨Chg.pre _, by decide +kernel, (by intro c a d v w h; cases d <;> exact h), by decide +kernel⟩ (fun ok => ?_)
 first | (refine Evo2.val ok 0 ?_ ?_ ?_; rotate_left; (focus (intro w' hg; refine Box.exec_loadAll ?_ Tryz.underlying28 CE (BE.out.chg (Chg.trans (Chg.refl (fun _ => False) _) hg) id) ?_; (all_goals (first | exact ⟨rfl, rfl⟩ | rfl)))); simp only [Act.put, L0, L1, L2]) | (refine Evo2.va ok 0 _ _ ?_)
 first | (refine Evo2.val ok 1 ?_ ?_ ?_; rotate_left; (focus (intro w' hg; refine Box.exec_loadAll ?_ Tryz.underlying28 CE (BE.out.chg (Chg.trans (Chg.refl (fun _ => False) _) hg) id) ?_; (all_goals (first | exact ⟨rfl, rfl⟩ | rfl)))); simp only [Act.put, L0, L1, L2]) | (refine Evo2.va ok 1 _ _ ?_)
 (refine Evo2.cal ok 2 ?_ 33 ?_ ?_ ?_ ?_; rotate_left 2; (focus (intro w'; go_simp <;> with_reducible rfl)); (focus (intro w' g'; with_reducible exact KT.out w')); simp only [Act.put, L0, L1, L2])
 (refine Evo2.cal ok 3 ?_ 21 ?_ ?_ ?_ ?_; rotate_left 2; (focus (intro w'; go_simp <;> with_reducible rfl)); (focus (intro w' g'; with_reducible exact SM.out w' (HTa.out.chg (Chg.trans (Chg.refl (fun _ => False) _) g') (fun _ _ _ => id)))); simp only [Act.put, L0, L1, L2])
 refine Evo2.va ok 4 _ _ ?_
 refine Evo2.done (by decide +kernel) (fun wz gz => ?_)
 have AZ := Chg.trans (Chg.refl (fun _ => False) _) (Chg.grow gz)
 have HM := Lib.hid (HMa.out.grow (chg_none AZ))
 have HT := Lib.hid (HTa.out.later (chg_none AZ))
 clear AZ BE HMa HTa gz KT SM
 cases b with
 | false =>
  have CH2 : Hid (ck = 2) := Lib.hid (by rw [CH.out, if_pos (fun e => by have := EI.out.2 e; cases this)])
  clear CH EI
  go_wp2_with (first | (refine Mem.load1 0 (t := 3) rfl rfl rfl Tryz.underlying3 rfl HM.out rfl rfl ?_) | (refine Mem.load1 0 (t := 9) rfl rfl rfl Tryz.underlying9 rfl HM.out rfl rfl ?_))
  go_ret
  exact ⟨ret_i64 CH2.out.symm, HM.out.below⟩
 | true =>
  have CH2 : Hid (ck = numE n 1) := Lib.hid (by rw [CH.out, if_neg (fun h => h (EI.out.1 rfl))])
  clear CH EI
  go_wp2_with (first | (refine Mem.load1 0 (t := 3) rfl rfl rfl Tryz.underlying3 rfl HM.out rfl rfl ?_) | (refine Mem.load1 0 (t := 9) rfl rfl rfl Tryz.underlying9 rfl HM.out rfl rfl ?_))
  refine (SP.out _).mono ?_
  rintro e wx ⟨hsp, rfl⟩
  obtain ⟨s0, m0, rfl⟩ := hsp.isB
  clear hsp
  go_wp2_with (first | (refine Mem.load1 0 (t := 3) rfl rfl rfl Tryz.underlying3 rfl HM.out rfl rfl ?_) | (refine Mem.load1 0 (t := 9) rfl rfl rfl Tryz.underlying9 rfl HM.out rfl rfl ?_))
  refine (rnumber_any _ _ _).mono ?_
  rintro e wx ⟨rfl, rfl⟩
  go_wp2_with (first | (refine Mem.load1 0 (t := 3) rfl rfl rfl Tryz.underlying3 rfl HM.out rfl rfl ?_) | (refine Mem.load1 0 (t := 9) rfl rfl rfl Tryz.underlying9 rfl HM.out rfl rfl ?_))
  go_ret
  exact ⟨ret_i64 CH2.out.symm, HM.out.below⟩

set_option maxHeartbeats 8000000 in
theorem rchk_8 (nm tg : ByteArray) (n dr : Int) (cn : ByteArray) (im co mn mx gr : Int) (rn rc : ByteArray) (a : Option Addr) (ts : List Tgt) (c : Nat) (rr : Int) (w : World) (hd : EvBd w (⟨8, nm, tg, n, dr, ⟨cn, im, co, mn, mx, gr⟩, rn, rc, ts, rr⟩ : EvD) a) :
  Calls Tryz.prog 15 #[.agg #[.int .i64 8, .string nm, .string tg, .int .i64 n, .int .i64 dr, .string cn, .int .i64 im, .int .i64 co, .int .i64 mn, .int .i64 mx, .int .i64 gr, .string rn, .string rc, .slice a ts.length c, .int .i64 rr]] w fun x w' => x = .returned (.int .i64 (⟨8, nm, tg, n, dr, ⟨cn, im, co, mn, mx, gr⟩, rn, rc, ts, rr⟩ : EvD).chk) ∧ Grow.G w w' := by
 have CE : (Tryz.prog.info? 28).map (·.size) = some 15 := by kernel_rfl
 have CC : (Tryz.prog.info? 23).map (·.size) = some 6 := by kernel_rfl
 have CR : (Tryz.prog.info? 26).map (·.size) = some 4 := by kernel_rfl
 have KP : (⟨8, nm, tg, n, dr, ⟨cn, im, co, mn, mx, gr⟩, rn, rc, ts, rr⟩ : EvD).kept = ({ ev0 with k := 8, n := n } : EvD) := by simp only [EvD.kept, Int.reduceEq, Int.reduceLE, if_true, if_false, and_true, true_and, and_false, false_and, and_self, ev0]
 have CH : Hid ((⟨8, nm, tg, n, dr, ⟨cn, im, co, mn, mx, gr⟩, rn, rc, ts, rr⟩ : EvD).chk = if (⟨8, nm, tg, n, dr, ⟨cn, im, co, mn, mx, gr⟩, rn, rc, ts, rr⟩ : EvD) ≠ ({ ev0 with k := 8, n := n } : EvD) then 2 else numE n 1) := Lib.hid (by
  unfold EvD.chk
  rw [KP]
  simp only [Int.reduceEq, Int.reduceLT, Int.reduceLE, if_true, if_false, or_false, and_true, true_and, and_false, false_and])
 have SM := Lib.hid (fun w (h : TgtSl w a ts) => (show Calls Tryz.prog 21 #[.agg #[.int .i64 8, .string nm, .string tg, .int .i64 n, .int .i64 dr, .string cn, .int .i64 im, .int .i64 co, .int .i64 mn, .int .i64 mx, .int .i64 gr, .string rn, .string rc, .slice a ts.length c, .int .i64 rr], .agg #[.int .i64 8, .string ⟨#[]⟩, .string ⟨#[]⟩, .int .i64 n, .int .i64 0, .string ⟨#[]⟩, .int .i64 0, .int .i64 0, .int .i64 0, .int .i64 0, .int .i64 0, .string ⟨#[]⟩, .string ⟨#[]⟩, .slice none 0 0, .int .i64 0]] w fun x w' => x = .returned (.bool (evB (⟨8, nm, tg, n, dr, ⟨cn, im, co, mn, mx, gr⟩, rn, rc, ts, rr⟩ : EvD) ({ ev0 with k := 8, n := n } : EvD))) ∧ Below w.heap.size w w' from rsame3_any (⟨8, nm, tg, n, dr, ⟨cn, im, co, mn, mx, gr⟩, rn, rc, ts, rr⟩ : EvD) ({ ev0 with k := 8, n := n } : EvD) a c none 0 w h (.inl rfl) hd.tl))
 have EI : Hid (evB (⟨8, nm, tg, n, dr, ⟨cn, im, co, mn, mx, gr⟩, rn, rc, ts, rr⟩ : EvD) ({ ev0 with k := 8, n := n } : EvD) = true ↔ (⟨8, nm, tg, n, dr, ⟨cn, im, co, mn, mx, gr⟩, rn, rc, ts, rr⟩ : EvD) = ({ ev0 with k := 8, n := n } : EvD)) := Lib.hid evB_iff
 have KT := Lib.hid (fun w => rkept_8 nm tg n dr cn im co mn mx gr rn rc a ts c rr w)
 have HTS := Lib.hid hd.ts
 have s1 : nm.size ≤ 281474976710655 := by have := hd.nm; dsimp only at this; omega
 have s2 : nm.size ≤ maxLen := by have := hd.nm; dsimp only at this; unfold maxLen; omega
 have s3 : tg.size ≤ maxLen := by have := hd.tg; dsimp only at this; unfold maxLen; omega
 have s4 : cn.size ≤ maxLen := by have := hd.cn; dsimp only at this; unfold maxLen; omega
 have SP := Lib.hid (fun w => rsplit_any nm w s1)
 have NA := Lib.hid (fun w => rname_any nm w s2)
 have NAv := Lib.hid (fun w => grow_v (rname_any nm w s2))
 have TAv := Lib.hid (fun w => grow_v (rtag_any tg w s3))
 have CF := Lib.hid (fun w => rconfig_at cn im co mn mx gr w s4)
 have RT := Lib.hid (fun w h => rroute_at rn rc a ts ts.length c rr w (routeE rn rc ts rr) rfl hd.rn hd.rc hd.tl h hd.ok rfl)
 generalize evB (⟨8, nm, tg, n, dr, ⟨cn, im, co, mn, mx, gr⟩, rn, rc, ts, rr⟩ : EvD) ({ ev0 with k := 8, n := n } : EvD) = b at *
 generalize (⟨8, nm, tg, n, dr, ⟨cn, im, co, mn, mx, gr⟩, rn, rc, ts, rr⟩ : EvD).chk = ck at *
 clear hd KP s1 s2 s3 s4
 go_enter Tryz.func15, Tryz.ntmps15
 go_wp2_with fail
 have HMa := Lib.hid (Mem.alloc' (Mem.nil w) [.int .i64 8, .string nm, .string tg, .int .i64 n, .int .i64 dr, .string cn, .int .i64 im, .int .i64 co, .int .i64 mn, .int .i64 mx, .int .i64 gr, .string rn, .string rc, .slice a ts.length c, .int .i64 rr] 28 (g := w.heap.size) rfl)
 have HTa := Lib.hid (HTS.out.later (show Grow.G w (w.alloc (.cells #[.int .i64 8, .string nm, .string tg, .int .i64 n, .int .i64 dr, .string cn, .int .i64 im, .int .i64 co, .int .i64 mn, .int .i64 mx, .int .i64 gr, .string rn, .string rc, .slice a ts.length c, .int .i64 rr] 28)) from Grow.G.alloc (Grow.G.refl _) _))
 obtain ⟨W, hW⟩ : ∃ W, W = w.alloc (.cells #[.int .i64 8, .string nm, .string tg, .int .i64 n, .int .i64 dr, .string cn, .int .i64 im, .int .i64 co, .int .i64 mn, .int .i64 mx, .int .i64 gr, .string rn, .string rc, .slice a ts.length c, .int .i64 rr] 28) := ⟨_, rfl⟩
 rw [← hW] at HMa HTa ⊢
 clear hW HTS
 have BE := Lib.hid (HMa.out.blk (i := 0) rfl)
 refine Evo2.start' (ℓ := none) (S := Chg (fun _ => False)) (E := Grow.G) (by kernel_rfl) ⟨Chg.pre _, by decide +kernel, (by intro c a d v w h; cases d <;> exact h), by decide +kernel⟩ (fun ok => ?_)
 first | (refine Evo2.val ok 0 ?_ ?_ ?_; rotate_left; (focus (intro w' hg; refine Box.exec_loadAll ?_ Tryz.underlying28 CE (BE.out.chg (Chg.trans (Chg.refl (fun _ => False) _) hg) id) ?_; (all_goals (first | exact ⟨rfl, rfl⟩ | rfl)))); simp only [Act.put, L0, L1, L2]) | (refine Evo2.va ok 0 _ _ ?_)
 first | (refine Evo2.val ok 1 ?_ ?_ ?_; rotate_left; (focus (intro w' hg; refine Box.exec_loadAll ?_ Tryz.underlying28 CE (BE.out.chg (Chg.trans (Chg.refl (fun _ => False) _) hg) id) ?_; (all_goals (first | exact ⟨rfl, rfl⟩ | rfl)))); simp only [Act.put, L0, L1, L2]) | (refine Evo2.va ok 1 _ _ ?_)
 (refine Evo2.cal ok 2 ?_ 33 ?_ ?_ ?_ ?_; rotate_left 2; (focus (intro w'; go_simp <;> with_reducible rfl)); (focus (intro w' g'; with_reducible exact KT.out w')); simp only [Act.put, L0, L1, L2])
 (refine Evo2.cal ok 3 ?_ 21 ?_ ?_ ?_ ?_; rotate_left 2; (focus (intro w'; go_simp <;> with_reducible rfl)); (focus (intro w' g'; with_reducible exact SM.out w' (HTa.out.chg (Chg.trans (Chg.refl (fun _ => False) _) g') (fun _ _ _ => id)))); simp only [Act.put, L0, L1, L2])
 refine Evo2.va ok 4 _ _ ?_
 refine Evo2.done (by decide +kernel) (fun wz gz => ?_)
 have AZ := Chg.trans (Chg.refl (fun _ => False) _) (Chg.grow gz)
 have HM := Lib.hid (HMa.out.grow (chg_none AZ))
 have HT := Lib.hid (HTa.out.later (chg_none AZ))
 clear AZ BE HMa HTa gz KT SM
 cases b with
 | false =>
  have CH2 : Hid (ck = 2) := Lib.hid (by rw [CH.out, if_pos (fun e => by have := EI.out.2 e; cases this)])
  clear CH EI
  go_wp2_with (first | (refine Mem.load1 0 (t := 3) rfl rfl rfl Tryz.underlying3 rfl HM.out rfl rfl ?_) | (refine Mem.load1 0 (t := 9) rfl rfl rfl Tryz.underlying9 rfl HM.out rfl rfl ?_))
  go_ret
  exact ⟨ret_i64 CH2.out.symm, HM.out.below⟩
 | true =>
  have CH2 : Hid (ck = numE n 1) := Lib.hid (by rw [CH.out, if_neg (fun h => h (EI.out.1 rfl))])
  clear CH EI
  go_wp2_with (first | (refine Mem.load1 0 (t := 3) rfl rfl rfl Tryz.underlying3 rfl HM.out rfl rfl ?_) | (refine Mem.load1 0 (t := 9) rfl rfl rfl Tryz.underlying9 rfl HM.out rfl rfl ?_))
  refine (SP.out _).mono ?_
  rintro e wx ⟨hsp, rfl⟩
  obtain ⟨s0, m0, rfl⟩ := hsp.isB
  clear hsp
  go_wp2_with (first | (refine Mem.load1 0 (t := 3) rfl rfl rfl Tryz.underlying3 rfl HM.out rfl rfl ?_) | (refine Mem.load1 0 (t := 9) rfl rfl rfl Tryz.underlying9 rfl HM.out rfl rfl ?_))
  refine (rnumber_any _ _ _).mono ?_
  rintro e wx ⟨rfl, rfl⟩
  go_wp2_with (first | (refine Mem.load1 0 (t := 3) rfl rfl rfl Tryz.underlying3 rfl HM.out rfl rfl ?_) | (refine Mem.load1 0 (t := 9) rfl rfl rfl Tryz.underlying9 rfl HM.out rfl rfl ?_))
  go_ret
  exact ⟨ret_i64 CH2.out.symm, HM.out.below⟩

set_option maxHeartbeats 8000000 in
theorem rchk_9 (nm tg : ByteArray) (n dr : Int) (cn : ByteArray) (im co mn mx gr : Int) (rn rc : ByteArray) (a : Option Addr) (ts : List Tgt) (c : Nat) (rr : Int) (w : World) (hd : EvBd w (⟨9, nm, tg, n, dr, ⟨cn, im, co, mn, mx, gr⟩, rn, rc, ts, rr⟩ : EvD) a) :
  Calls Tryz.prog 15 #[.agg #[.int .i64 9, .string nm, .string tg, .int .i64 n, .int .i64 dr, .string cn, .int .i64 im, .int .i64 co, .int .i64 mn, .int .i64 mx, .int .i64 gr, .string rn, .string rc, .slice a ts.length c, .int .i64 rr]] w fun x w' => x = .returned (.int .i64 (⟨9, nm, tg, n, dr, ⟨cn, im, co, mn, mx, gr⟩, rn, rc, ts, rr⟩ : EvD).chk) ∧ Grow.G w w' := by
 have CE : (Tryz.prog.info? 28).map (·.size) = some 15 := by kernel_rfl
 have CC : (Tryz.prog.info? 23).map (·.size) = some 6 := by kernel_rfl
 have CR : (Tryz.prog.info? 26).map (·.size) = some 4 := by kernel_rfl
 have KP : (⟨9, nm, tg, n, dr, ⟨cn, im, co, mn, mx, gr⟩, rn, rc, ts, rr⟩ : EvD).kept = ({ ev0 with k := 9 } : EvD) := by simp only [EvD.kept, Int.reduceEq, Int.reduceLE, if_true, if_false, and_true, true_and, and_false, false_and, and_self, ev0]
 have CH : Hid ((⟨9, nm, tg, n, dr, ⟨cn, im, co, mn, mx, gr⟩, rn, rc, ts, rr⟩ : EvD).chk = if (⟨9, nm, tg, n, dr, ⟨cn, im, co, mn, mx, gr⟩, rn, rc, ts, rr⟩ : EvD) ≠ ({ ev0 with k := 9 } : EvD) then 2 else 0) := Lib.hid (by
  unfold EvD.chk
  rw [KP]
  simp only [Int.reduceEq, Int.reduceLT, Int.reduceLE, if_true, if_false, or_false, and_true, true_and, and_false, false_and])
 have SM := Lib.hid (fun w (h : TgtSl w a ts) => (show Calls Tryz.prog 21 #[.agg #[.int .i64 9, .string nm, .string tg, .int .i64 n, .int .i64 dr, .string cn, .int .i64 im, .int .i64 co, .int .i64 mn, .int .i64 mx, .int .i64 gr, .string rn, .string rc, .slice a ts.length c, .int .i64 rr], .agg #[.int .i64 9, .string ⟨#[]⟩, .string ⟨#[]⟩, .int .i64 0, .int .i64 0, .string ⟨#[]⟩, .int .i64 0, .int .i64 0, .int .i64 0, .int .i64 0, .int .i64 0, .string ⟨#[]⟩, .string ⟨#[]⟩, .slice none 0 0, .int .i64 0]] w fun x w' => x = .returned (.bool (evB (⟨9, nm, tg, n, dr, ⟨cn, im, co, mn, mx, gr⟩, rn, rc, ts, rr⟩ : EvD) ({ ev0 with k := 9 } : EvD))) ∧ Below w.heap.size w w' from rsame3_any (⟨9, nm, tg, n, dr, ⟨cn, im, co, mn, mx, gr⟩, rn, rc, ts, rr⟩ : EvD) ({ ev0 with k := 9 } : EvD) a c none 0 w h (.inl rfl) hd.tl))
 have EI : Hid (evB (⟨9, nm, tg, n, dr, ⟨cn, im, co, mn, mx, gr⟩, rn, rc, ts, rr⟩ : EvD) ({ ev0 with k := 9 } : EvD) = true ↔ (⟨9, nm, tg, n, dr, ⟨cn, im, co, mn, mx, gr⟩, rn, rc, ts, rr⟩ : EvD) = ({ ev0 with k := 9 } : EvD)) := Lib.hid evB_iff
 have KT := Lib.hid (fun w => rkept_9 nm tg n dr cn im co mn mx gr rn rc a ts c rr w)
 have HTS := Lib.hid hd.ts
 have s1 : nm.size ≤ 281474976710655 := by have := hd.nm; dsimp only at this; omega
 have s2 : nm.size ≤ maxLen := by have := hd.nm; dsimp only at this; unfold maxLen; omega
 have s3 : tg.size ≤ maxLen := by have := hd.tg; dsimp only at this; unfold maxLen; omega
 have s4 : cn.size ≤ maxLen := by have := hd.cn; dsimp only at this; unfold maxLen; omega
 have SP := Lib.hid (fun w => rsplit_any nm w s1)
 have NA := Lib.hid (fun w => rname_any nm w s2)
 have NAv := Lib.hid (fun w => grow_v (rname_any nm w s2))
 have TAv := Lib.hid (fun w => grow_v (rtag_any tg w s3))
 have CF := Lib.hid (fun w => rconfig_at cn im co mn mx gr w s4)
 have RT := Lib.hid (fun w h => rroute_at rn rc a ts ts.length c rr w (routeE rn rc ts rr) rfl hd.rn hd.rc hd.tl h hd.ok rfl)
 generalize evB (⟨9, nm, tg, n, dr, ⟨cn, im, co, mn, mx, gr⟩, rn, rc, ts, rr⟩ : EvD) ({ ev0 with k := 9 } : EvD) = b at *
 generalize (⟨9, nm, tg, n, dr, ⟨cn, im, co, mn, mx, gr⟩, rn, rc, ts, rr⟩ : EvD).chk = ck at *
 clear hd KP s1 s2 s3 s4
 go_enter Tryz.func15, Tryz.ntmps15
 go_wp2_with fail
 have HMa := Lib.hid (Mem.alloc' (Mem.nil w) [.int .i64 9, .string nm, .string tg, .int .i64 n, .int .i64 dr, .string cn, .int .i64 im, .int .i64 co, .int .i64 mn, .int .i64 mx, .int .i64 gr, .string rn, .string rc, .slice a ts.length c, .int .i64 rr] 28 (g := w.heap.size) rfl)
 have HTa := Lib.hid (HTS.out.later (show Grow.G w (w.alloc (.cells #[.int .i64 9, .string nm, .string tg, .int .i64 n, .int .i64 dr, .string cn, .int .i64 im, .int .i64 co, .int .i64 mn, .int .i64 mx, .int .i64 gr, .string rn, .string rc, .slice a ts.length c, .int .i64 rr] 28)) from Grow.G.alloc (Grow.G.refl _) _))
 obtain ⟨W, hW⟩ : ∃ W, W = w.alloc (.cells #[.int .i64 9, .string nm, .string tg, .int .i64 n, .int .i64 dr, .string cn, .int .i64 im, .int .i64 co, .int .i64 mn, .int .i64 mx, .int .i64 gr, .string rn, .string rc, .slice a ts.length c, .int .i64 rr] 28) := ⟨_, rfl⟩
 rw [← hW] at HMa HTa ⊢
 clear hW HTS
 have BE := Lib.hid (HMa.out.blk (i := 0) rfl)
 refine Evo2.start' (ℓ := none) (S := Chg (fun _ => False)) (E := Grow.G) (by kernel_rfl) ⟨Chg.pre _, by decide +kernel, (by intro c a d v w h; cases d <;> exact h), by decide +kernel⟩ (fun ok => ?_)
 first | (refine Evo2.val ok 0 ?_ ?_ ?_; rotate_left; (focus (intro w' hg; refine Box.exec_loadAll ?_ Tryz.underlying28 CE (BE.out.chg (Chg.trans (Chg.refl (fun _ => False) _) hg) id) ?_; (all_goals (first | exact ⟨rfl, rfl⟩ | rfl)))); simp only [Act.put, L0, L1, L2]) | (refine Evo2.va ok 0 _ _ ?_)
 first | (refine Evo2.val ok 1 ?_ ?_ ?_; rotate_left; (focus (intro w' hg; refine Box.exec_loadAll ?_ Tryz.underlying28 CE (BE.out.chg (Chg.trans (Chg.refl (fun _ => False) _) hg) id) ?_; (all_goals (first | exact ⟨rfl, rfl⟩ | rfl)))); simp only [Act.put, L0, L1, L2]) | (refine Evo2.va ok 1 _ _ ?_)
 (refine Evo2.cal ok 2 ?_ 33 ?_ ?_ ?_ ?_; rotate_left 2; (focus (intro w'; go_simp <;> with_reducible rfl)); (focus (intro w' g'; with_reducible exact KT.out w')); simp only [Act.put, L0, L1, L2])
 (refine Evo2.cal ok 3 ?_ 21 ?_ ?_ ?_ ?_; rotate_left 2; (focus (intro w'; go_simp <;> with_reducible rfl)); (focus (intro w' g'; with_reducible exact SM.out w' (HTa.out.chg (Chg.trans (Chg.refl (fun _ => False) _) g') (fun _ _ _ => id)))); simp only [Act.put, L0, L1, L2])
 refine Evo2.va ok 4 _ _ ?_
 refine Evo2.done (by decide +kernel) (fun wz gz => ?_)
 have AZ := Chg.trans (Chg.refl (fun _ => False) _) (Chg.grow gz)
 have HM := Lib.hid (HMa.out.grow (chg_none AZ))
 have HT := Lib.hid (HTa.out.later (chg_none AZ))
 clear AZ BE HMa HTa gz KT SM
 cases b with
 | false =>
  have CH2 : Hid (ck = 2) := Lib.hid (by rw [CH.out, if_pos (fun e => by have := EI.out.2 e; cases this)])
  clear CH EI
  go_wp2_with (first | (refine Mem.load1 0 (t := 3) rfl rfl rfl Tryz.underlying3 rfl HM.out rfl rfl ?_) | (refine Mem.load1 0 (t := 9) rfl rfl rfl Tryz.underlying9 rfl HM.out rfl rfl ?_))
  go_ret
  exact ⟨ret_i64 CH2.out.symm, HM.out.below⟩
 | true =>
  have CH2 : Hid (ck = 0) := Lib.hid (by rw [CH.out, if_neg (fun h => h (EI.out.1 rfl))])
  clear CH EI
  go_wp2_with (first | (refine Mem.load1 0 (t := 3) rfl rfl rfl Tryz.underlying3 rfl HM.out rfl rfl ?_) | (refine Mem.load1 0 (t := 9) rfl rfl rfl Tryz.underlying9 rfl HM.out rfl rfl ?_))
  refine (SP.out _).mono ?_
  rintro e wx ⟨hsp, rfl⟩
  obtain ⟨s0, m0, rfl⟩ := hsp.isB
  clear hsp
  go_wp2_with (first | (refine Mem.load1 0 (t := 3) rfl rfl rfl Tryz.underlying3 rfl HM.out rfl rfl ?_) | (refine Mem.load1 0 (t := 9) rfl rfl rfl Tryz.underlying9 rfl HM.out rfl rfl ?_))
  go_ret
  exact ⟨ret_i64 CH2.out.symm, HM.out.below⟩

set_option maxHeartbeats 8000000 in
theorem rchk_1 (nm tg : ByteArray) (n dr : Int) (cn : ByteArray) (im co mn mx gr : Int) (rn rc : ByteArray) (a : Option Addr) (ts : List Tgt) (c : Nat) (rr : Int) (w : World) (hd : EvBd w (⟨1, nm, tg, n, dr, ⟨cn, im, co, mn, mx, gr⟩, rn, rc, ts, rr⟩ : EvD) a) :
  Calls Tryz.prog 15 #[.agg #[.int .i64 1, .string nm, .string tg, .int .i64 n, .int .i64 dr, .string cn, .int .i64 im, .int .i64 co, .int .i64 mn, .int .i64 mx, .int .i64 gr, .string rn, .string rc, .slice a ts.length c, .int .i64 rr]] w fun x w' => x = .returned (.int .i64 (⟨1, nm, tg, n, dr, ⟨cn, im, co, mn, mx, gr⟩, rn, rc, ts, rr⟩ : EvD).chk) ∧ Grow.G w w' := by
 have CE : (Tryz.prog.info? 28).map (·.size) = some 15 := by kernel_rfl
 have CC : (Tryz.prog.info? 23).map (·.size) = some 6 := by kernel_rfl
 have CR : (Tryz.prog.info? 26).map (·.size) = some 4 := by kernel_rfl
 have KP : (⟨1, nm, tg, n, dr, ⟨cn, im, co, mn, mx, gr⟩, rn, rc, ts, rr⟩ : EvD).kept = ({ ev0 with k := 1, n := n, c := ⟨cn, im, co, mn, mx, gr⟩ } : EvD) := by simp only [EvD.kept, Int.reduceEq, Int.reduceLE, if_true, if_false, and_true, true_and, and_false, false_and, and_self, ev0]
 have CH : Hid ((⟨1, nm, tg, n, dr, ⟨cn, im, co, mn, mx, gr⟩, rn, rc, ts, rr⟩ : EvD).chk = if (⟨1, nm, tg, n, dr, ⟨cn, im, co, mn, mx, gr⟩, rn, rc, ts, rr⟩ : EvD) ≠ ({ ev0 with k := 1, n := n, c := ⟨cn, im, co, mn, mx, gr⟩ } : EvD) then 2 else fst0 [numE n 0, Cfg.err ⟨cn, im, co, mn, mx, gr⟩]) := Lib.hid (by
  unfold EvD.chk
  rw [KP]
  simp only [Int.reduceEq, Int.reduceLT, Int.reduceLE, if_true, if_false, or_false, and_true, true_and, and_false, false_and])
 have SM := Lib.hid (fun w (h : TgtSl w a ts) => (show Calls Tryz.prog 21 #[.agg #[.int .i64 1, .string nm, .string tg, .int .i64 n, .int .i64 dr, .string cn, .int .i64 im, .int .i64 co, .int .i64 mn, .int .i64 mx, .int .i64 gr, .string rn, .string rc, .slice a ts.length c, .int .i64 rr], .agg #[.int .i64 1, .string ⟨#[]⟩, .string ⟨#[]⟩, .int .i64 n, .int .i64 0, .string cn, .int .i64 im, .int .i64 co, .int .i64 mn, .int .i64 mx, .int .i64 gr, .string ⟨#[]⟩, .string ⟨#[]⟩, .slice none 0 0, .int .i64 0]] w fun x w' => x = .returned (.bool (evB (⟨1, nm, tg, n, dr, ⟨cn, im, co, mn, mx, gr⟩, rn, rc, ts, rr⟩ : EvD) ({ ev0 with k := 1, n := n, c := ⟨cn, im, co, mn, mx, gr⟩ } : EvD))) ∧ Below w.heap.size w w' from rsame3_any (⟨1, nm, tg, n, dr, ⟨cn, im, co, mn, mx, gr⟩, rn, rc, ts, rr⟩ : EvD) ({ ev0 with k := 1, n := n, c := ⟨cn, im, co, mn, mx, gr⟩ } : EvD) a c none 0 w h (.inl rfl) hd.tl))
 have EI : Hid (evB (⟨1, nm, tg, n, dr, ⟨cn, im, co, mn, mx, gr⟩, rn, rc, ts, rr⟩ : EvD) ({ ev0 with k := 1, n := n, c := ⟨cn, im, co, mn, mx, gr⟩ } : EvD) = true ↔ (⟨1, nm, tg, n, dr, ⟨cn, im, co, mn, mx, gr⟩, rn, rc, ts, rr⟩ : EvD) = ({ ev0 with k := 1, n := n, c := ⟨cn, im, co, mn, mx, gr⟩ } : EvD)) := Lib.hid evB_iff
 have KT := Lib.hid (fun w => rkept_1 nm tg n dr cn im co mn mx gr rn rc a ts c rr w)
 have HTS := Lib.hid hd.ts
 have s1 : nm.size ≤ 281474976710655 := by have := hd.nm; dsimp only at this; omega
 have s2 : nm.size ≤ maxLen := by have := hd.nm; dsimp only at this; unfold maxLen; omega
 have s3 : tg.size ≤ maxLen := by have := hd.tg; dsimp only at this; unfold maxLen; omega
 have s4 : cn.size ≤ maxLen := by have := hd.cn; dsimp only at this; unfold maxLen; omega
 have SP := Lib.hid (fun w => rsplit_any nm w s1)
 have NA := Lib.hid (fun w => rname_any nm w s2)
 have NAv := Lib.hid (fun w => grow_v (rname_any nm w s2))
 have TAv := Lib.hid (fun w => grow_v (rtag_any tg w s3))
 have CF := Lib.hid (fun w => rconfig_at cn im co mn mx gr w s4)
 have RT := Lib.hid (fun w h => rroute_at rn rc a ts ts.length c rr w (routeE rn rc ts rr) rfl hd.rn hd.rc hd.tl h hd.ok rfl)
 generalize evB (⟨1, nm, tg, n, dr, ⟨cn, im, co, mn, mx, gr⟩, rn, rc, ts, rr⟩ : EvD) ({ ev0 with k := 1, n := n, c := ⟨cn, im, co, mn, mx, gr⟩ } : EvD) = b at *
 generalize (⟨1, nm, tg, n, dr, ⟨cn, im, co, mn, mx, gr⟩, rn, rc, ts, rr⟩ : EvD).chk = ck at *
 clear hd KP s1 s2 s3 s4
 go_enter Tryz.func15, Tryz.ntmps15
 go_wp2_with fail
 have HMa := Lib.hid (Mem.alloc' (Mem.nil w) [.int .i64 1, .string nm, .string tg, .int .i64 n, .int .i64 dr, .string cn, .int .i64 im, .int .i64 co, .int .i64 mn, .int .i64 mx, .int .i64 gr, .string rn, .string rc, .slice a ts.length c, .int .i64 rr] 28 (g := w.heap.size) rfl)
 have HTa := Lib.hid (HTS.out.later (show Grow.G w (w.alloc (.cells #[.int .i64 1, .string nm, .string tg, .int .i64 n, .int .i64 dr, .string cn, .int .i64 im, .int .i64 co, .int .i64 mn, .int .i64 mx, .int .i64 gr, .string rn, .string rc, .slice a ts.length c, .int .i64 rr] 28)) from Grow.G.alloc (Grow.G.refl _) _))
 obtain ⟨W, hW⟩ : ∃ W, W = w.alloc (.cells #[.int .i64 1, .string nm, .string tg, .int .i64 n, .int .i64 dr, .string cn, .int .i64 im, .int .i64 co, .int .i64 mn, .int .i64 mx, .int .i64 gr, .string rn, .string rc, .slice a ts.length c, .int .i64 rr] 28) := ⟨_, rfl⟩
 rw [← hW] at HMa HTa ⊢
 clear hW HTS
 have BE := Lib.hid (HMa.out.blk (i := 0) rfl)
 refine Evo2.start' (ℓ := none) (S := Chg (fun _ => False)) (E := Grow.G) (by kernel_rfl) ⟨Chg.pre _, by decide +kernel, (by intro c a d v w h; cases d <;> exact h), by decide +kernel⟩ (fun ok => ?_)
 first | (refine Evo2.val ok 0 ?_ ?_ ?_; rotate_left; (focus (intro w' hg; refine Box.exec_loadAll ?_ Tryz.underlying28 CE (BE.out.chg (Chg.trans (Chg.refl (fun _ => False) _) hg) id) ?_; (all_goals (first | exact ⟨rfl, rfl⟩ | rfl)))); simp only [Act.put, L0, L1, L2]) | (refine Evo2.va ok 0 _ _ ?_)
 first | (refine Evo2.val ok 1 ?_ ?_ ?_; rotate_left; (focus (intro w' hg; refine Box.exec_loadAll ?_ Tryz.underlying28 CE (BE.out.chg (Chg.trans (Chg.refl (fun _ => False) _) hg) id) ?_; (all_goals (first | exact ⟨rfl, rfl⟩ | rfl)))); simp only [Act.put, L0, L1, L2]) | (refine Evo2.va ok 1 _ _ ?_)
 (refine Evo2.cal ok 2 ?_ 33 ?_ ?_ ?_ ?_; rotate_left 2; (focus (intro w'; go_simp <;> with_reducible rfl)); (focus (intro w' g'; with_reducible exact KT.out w')); simp only [Act.put, L0, L1, L2])
 (refine Evo2.cal ok 3 ?_ 21 ?_ ?_ ?_ ?_; rotate_left 2; (focus (intro w'; go_simp <;> with_reducible rfl)); (focus (intro w' g'; with_reducible exact SM.out w' (HTa.out.chg (Chg.trans (Chg.refl (fun _ => False) _) g') (fun _ _ _ => id)))); simp only [Act.put, L0, L1, L2])
 refine Evo2.va ok 4 _ _ ?_
 refine Evo2.done (by decide +kernel) (fun wz gz => ?_)
 have AZ := Chg.trans (Chg.refl (fun _ => False) _) (Chg.grow gz)
 have HM := Lib.hid (HMa.out.grow (chg_none AZ))
 have HT := Lib.hid (HTa.out.later (chg_none AZ))
 clear AZ BE HMa HTa gz KT SM
 cases b with
 | false =>
  have CH2 : Hid (ck = 2) := Lib.hid (by rw [CH.out, if_pos (fun e => by have := EI.out.2 e; cases this)])
  clear CH EI
  go_wp2_with (first | (refine Mem.load1 0 (t := 3) rfl rfl rfl Tryz.underlying3 rfl HM.out rfl rfl ?_) | (refine Mem.load1 0 (t := 9) rfl rfl rfl Tryz.underlying9 rfl HM.out rfl rfl ?_))
  go_ret
  exact ⟨ret_i64 CH2.out.symm, HM.out.below⟩
 | true =>
  have CH2 : Hid (ck = fst0 [numE n 0, Cfg.err ⟨cn, im, co, mn, mx, gr⟩]) := Lib.hid (by rw [CH.out, if_neg (fun h => h (EI.out.1 rfl))])
  clear CH EI
  go_wp2_with (first | (refine Mem.load1 0 (t := 3) rfl rfl rfl Tryz.underlying3 rfl HM.out rfl rfl ?_) | (refine Mem.load1 0 (t := 9) rfl rfl rfl Tryz.underlying9 rfl HM.out rfl rfl ?_))
  refine (SP.out _).mono ?_
  rintro e wx ⟨hsp, rfl⟩
  obtain ⟨s0, m0, rfl⟩ := hsp.isB
  clear hsp
  go_wp2_with (first | (refine Mem.load1 0 (t := 3) rfl rfl rfl Tryz.underlying3 rfl HM.out rfl rfl ?_) | (refine Mem.load1 0 (t := 9) rfl rfl rfl Tryz.underlying9 rfl HM.out rfl rfl ?_))
  have BE := Lib.hid (HM.out.blk (i := 0) rfl)
  refine Evo2.start' (ℓ := none) (S := Chg (fun _ => False)) (E := Grow.G) (by kernel_rfl) ⟨Chg.pre _, by decide +kernel, (by intro c a d v w h; cases d <;> exact h), by decide +kernel⟩ (fun ok => ?_)
  refine Evo2.va ok 0 _ _ ?_
  first | (refine Evo2.val ok 1 ?_ ?_ ?_; rotate_left; (focus (intro w' hg; refine Box.exec_load (off := 5) ?_ Tryz.underlying23 CC (BE.out.chg (Chg.trans (Chg.refl (fun _ => False) _) hg) id) (vs := [.string cn, .int .i64 im, .int .i64 co, .int .i64 mn, .int .i64 mx, .int .i64 gr]) ?_ ?_; (all_goals (first | exact ⟨rfl, rfl⟩ | rfl)))); simp only [Act.put, L0, L1, L2]) | (refine Evo2.val ok 1 ?_ ?_ ?_; rotate_left; (focus (intro w' hg; refine Box.exec_load1 (off := 3) ?_ Tryz.underlying3 rfl (BE.out.chg (Chg.trans (Chg.refl (fun _ => False) _) hg) id) ?_; (all_goals (first | exact ⟨rfl, rfl⟩ | rfl)))); simp only [Act.put, L0, L1, L2]) | (refine Evo2.va ok 1 _ _ ?_)
  (refine Evo2.cal ok 2 ?_ 36 ?_ ?_ ?_ ?_; rotate_left 2; (focus (intro w'; go_simp <;> with_reducible rfl)); (focus (intro w' g'; with_reducible exact rnumber_v n 0 w')); simp only [Act.put, L0, L1, L2])
  refine Evo2.va ok 3 _ _ ?_
  first | (refine Evo2.val ok 4 ?_ ?_ ?_; rotate_left; (focus (intro w' hg; refine Box.exec_load (off := 5) ?_ Tryz.underlying23 CC (BE.out.chg (Chg.trans (Chg.refl (fun _ => False) _) hg) id) (vs := [.string cn, .int .i64 im, .int .i64 co, .int .i64 mn, .int .i64 mx, .int .i64 gr]) ?_ ?_; (all_goals (first | exact ⟨rfl, rfl⟩ | rfl)))); simp only [Act.put, L0, L1, L2]) | (refine Evo2.val ok 4 ?_ ?_ ?_; rotate_left; (focus (intro w' hg; refine Box.exec_load1 (off := 3) ?_ Tryz.underlying3 rfl (BE.out.chg (Chg.trans (Chg.refl (fun _ => False) _) hg) id) ?_; (all_goals (first | exact ⟨rfl, rfl⟩ | rfl)))); simp only [Act.put, L0, L1, L2]) | (refine Evo2.va ok 4 _ _ ?_)
  (refine Evo2.cal ok 5 ?_ 37 ?_ ?_ ?_ ?_; rotate_left 2; (focus (intro w'; go_simp <;> with_reducible rfl)); (focus (intro w' g'; with_reducible exact CF.out w')); simp only [Act.put, L0, L1, L2])
  refine Evo2.all [6] (by decide +kernel) rfl ?_
  intro wp1 gp1 iq hq
  simp only [List.mem_cons, List.mem_nil_iff, or_false] at hq
  have AP1 := Chg.trans (Chg.refl (fun _ => False) _) (Chg.grow gp1)
  subst hq
  refine Evo2.runs (by rfl) (by rfl) (fun K' hK' => ?_)
  go_simp
  (try (simp only [Evo.after_value, Evo.after_skip]))
  refine hK'.out _ _ ?_
  clear hK'
  simp only [Act.put, L0, L1, L2]
  refine ⟨.inr (Chg.alloc (Chg.refl _ _) _), ?_⟩
  generalize hG1 : World.alloc wp1 _ = wg1
  have GG1 : Grow.G wp1 wg1 := hG1 ▸ Grow.G.alloc (Grow.G.refl _) _
  have NC1 := (congrArg (fun W : World => W.heap[wp1.heap.size]?) hG1).symm.trans (MapKept.heap_alloc wp1 _).1
  have NL1 : wp1.heap.size < wg1.heap.size := by rw [← hG1]; simp
  clear hG1
  (refine Evo2.cal ok 7 ?_ 35 ?_ ?_ ?_ ?_; rotate_left 2; (focus (intro w'; go_simp <;> with_reducible rfl)); (focus (intro w' g'; with_reducible exact rfirst_v [numE n 0, Cfg.err ⟨cn, im, co, mn, mx, gr⟩] _ w' (by simp) (g'.blk NC1 id) (by simp) (n := 2) (by simp))); simp only [Act.put, L0, L1, L2])
  refine Evo2.va ok 8 _ _ ?_
  refine Evo2.done (by decide +kernel) (fun wz gz => ?_)
  have AZ := Chg.trans (Chg.trans AP1 (Chg.grow GG1)) (Chg.grow gz)
  have NC1 := (gz.block _ NL1).trans NC1
  have HM9 := Lib.hid (HM.out.grow (chg_none AZ))
  clear AZ BE
  go_wp2_with fail
  go_ret
  exact ⟨ret_i64 CH2.out.symm, HM9.out.below⟩

set_option maxHeartbeats 8000000 in
theorem rchk_2 (nm tg : ByteArray) (n dr : Int) (cn : ByteArray) (im co mn mx gr : Int) (rn rc : ByteArray) (a : Option Addr) (ts : List Tgt) (c : Nat) (rr : Int) (w : World) (hd : EvBd w (⟨2, nm, tg, n, dr, ⟨cn, im, co, mn, mx, gr⟩, rn, rc, ts, rr⟩ : EvD) a) :
  Calls Tryz.prog 15 #[.agg #[.int .i64 2, .string nm, .string tg, .int .i64 n, .int .i64 dr, .string cn, .int .i64 im, .int .i64 co, .int .i64 mn, .int .i64 mx, .int .i64 gr, .string rn, .string rc, .slice a ts.length c, .int .i64 rr]] w fun x w' => x = .returned (.int .i64 (⟨2, nm, tg, n, dr, ⟨cn, im, co, mn, mx, gr⟩, rn, rc, ts, rr⟩ : EvD).chk) ∧ Grow.G w w' := by
 have CE : (Tryz.prog.info? 28).map (·.size) = some 15 := by kernel_rfl
 have CC : (Tryz.prog.info? 23).map (·.size) = some 6 := by kernel_rfl
 have CR : (Tryz.prog.info? 26).map (·.size) = some 4 := by kernel_rfl
 have KP : (⟨2, nm, tg, n, dr, ⟨cn, im, co, mn, mx, gr⟩, rn, rc, ts, rr⟩ : EvD).kept = ({ ev0 with k := 2, n := n, rn := rn, rc := rc, ts := ts, rr := rr } : EvD) := by simp only [EvD.kept, Int.reduceEq, Int.reduceLE, if_true, if_false, and_true, true_and, and_false, false_and, and_self, ev0]
 have CH : Hid ((⟨2, nm, tg, n, dr, ⟨cn, im, co, mn, mx, gr⟩, rn, rc, ts, rr⟩ : EvD).chk = if (⟨2, nm, tg, n, dr, ⟨cn, im, co, mn, mx, gr⟩, rn, rc, ts, rr⟩ : EvD) ≠ ({ ev0 with k := 2, n := n, rn := rn, rc := rc, ts := ts, rr := rr } : EvD) then 2 else fst0 [numE n 0, routeE rn rc ts rr]) := Lib.hid (by
  unfold EvD.chk
  rw [KP]
  simp only [Int.reduceEq, Int.reduceLT, Int.reduceLE, if_true, if_false, or_false, and_true, true_and, and_false, false_and])
 have SM := Lib.hid (fun w (h : TgtSl w a ts) => (show Calls Tryz.prog 21 #[.agg #[.int .i64 2, .string nm, .string tg, .int .i64 n, .int .i64 dr, .string cn, .int .i64 im, .int .i64 co, .int .i64 mn, .int .i64 mx, .int .i64 gr, .string rn, .string rc, .slice a ts.length c, .int .i64 rr], .agg #[.int .i64 2, .string ⟨#[]⟩, .string ⟨#[]⟩, .int .i64 n, .int .i64 0, .string ⟨#[]⟩, .int .i64 0, .int .i64 0, .int .i64 0, .int .i64 0, .int .i64 0, .string rn, .string rc, .slice a ts.length c, .int .i64 rr]] w fun x w' => x = .returned (.bool (evB (⟨2, nm, tg, n, dr, ⟨cn, im, co, mn, mx, gr⟩, rn, rc, ts, rr⟩ : EvD) ({ ev0 with k := 2, n := n, rn := rn, rc := rc, ts := ts, rr := rr } : EvD))) ∧ Below w.heap.size w w' from rsame3_any (⟨2, nm, tg, n, dr, ⟨cn, im, co, mn, mx, gr⟩, rn, rc, ts, rr⟩ : EvD) ({ ev0 with k := 2, n := n, rn := rn, rc := rc, ts := ts, rr := rr } : EvD) a c a c w h h hd.tl))
 have EI : Hid (evB (⟨2, nm, tg, n, dr, ⟨cn, im, co, mn, mx, gr⟩, rn, rc, ts, rr⟩ : EvD) ({ ev0 with k := 2, n := n, rn := rn, rc := rc, ts := ts, rr := rr } : EvD) = true ↔ (⟨2, nm, tg, n, dr, ⟨cn, im, co, mn, mx, gr⟩, rn, rc, ts, rr⟩ : EvD) = ({ ev0 with k := 2, n := n, rn := rn, rc := rc, ts := ts, rr := rr } : EvD)) := Lib.hid evB_iff
 have KT := Lib.hid (fun w => rkept_2 nm tg n dr cn im co mn mx gr rn rc a ts c rr w)
 have HTS := Lib.hid hd.ts
 have s1 : nm.size ≤ 281474976710655 := by have := hd.nm; dsimp only at this; omega
 have s2 : nm.size ≤ maxLen := by have := hd.nm; dsimp only at this; unfold maxLen; omega
 have s3 : tg.size ≤ maxLen := by have := hd.tg; dsimp only at this; unfold maxLen; omega
 have s4 : cn.size ≤ maxLen := by have := hd.cn; dsimp only at this; unfold maxLen; omega
 have SP := Lib.hid (fun w => rsplit_any nm w s1)
 have NA := Lib.hid (fun w => rname_any nm w s2)
 have NAv := Lib.hid (fun w => grow_v (rname_any nm w s2))
 have TAv := Lib.hid (fun w => grow_v (rtag_any tg w s3))
 have CF := Lib.hid (fun w => rconfig_at cn im co mn mx gr w s4)
 have RT := Lib.hid (fun w h => rroute_at rn rc a ts ts.length c rr w (routeE rn rc ts rr) rfl hd.rn hd.rc hd.tl h hd.ok rfl)
 generalize evB (⟨2, nm, tg, n, dr, ⟨cn, im, co, mn, mx, gr⟩, rn, rc, ts, rr⟩ : EvD) ({ ev0 with k := 2, n := n, rn := rn, rc := rc, ts := ts, rr := rr } : EvD) = b at *
 generalize (⟨2, nm, tg, n, dr, ⟨cn, im, co, mn, mx, gr⟩, rn, rc, ts, rr⟩ : EvD).chk = ck at *
 clear hd KP s1 s2 s3 s4
 go_enter Tryz.func15, Tryz.ntmps15
 go_wp2_with fail
 have HMa := Lib.hid (Mem.alloc' (Mem.nil w) [.int .i64 2, .string nm, .string tg, .int .i64 n, .int .i64 dr, .string cn, .int .i64 im, .int .i64 co, .int .i64 mn, .int .i64 mx, .int .i64 gr, .string rn, .string rc, .slice a ts.length c, .int .i64 rr] 28 (g := w.heap.size) rfl)
 have HTa := Lib.hid (HTS.out.later (show Grow.G w (w.alloc (.cells #[.int .i64 2, .string nm, .string tg, .int .i64 n, .int .i64 dr, .string cn, .int .i64 im, .int .i64 co, .int .i64 mn, .int .i64 mx, .int .i64 gr, .string rn, .string rc, .slice a ts.length c, .int .i64 rr] 28)) from Grow.G.alloc (Grow.G.refl _) _))
 obtain ⟨W, hW⟩ : ∃ W, W = w.alloc (.cells #[.int .i64 2, .string nm, .string tg, .int .i64 n, .int .i64 dr, .string cn, .int .i64 im, .int .i64 co, .int .i64 mn, .int .i64 mx, .int .i64 gr, .string rn, .string rc, .slice a ts.length c, .int .i64 rr] 28) := ⟨_, rfl⟩
 rw [← hW] at HMa HTa ⊢
 clear hW HTS
 have BE := Lib.hid (HMa.out.blk (i := 0) rfl)
 refine Evo2.start' (ℓ := none) (S := Chg (fun _ => False)) (E := Grow.G) (by kernel_rfl) ⟨Chg.pre _, by decide +kernel, (by intro c a d v w h; cases d <;> exact h), by decide +kernel⟩ (fun ok => ?_)
 first | (refine Evo2.val ok 0 ?_ ?_ ?_; rotate_left; (focus (intro w' hg; refine Box.exec_loadAll ?_ Tryz.underlying28 CE (BE.out.chg (Chg.trans (Chg.refl (fun _ => False) _) hg) id) ?_; (all_goals (first | exact ⟨rfl, rfl⟩ | rfl)))); simp only [Act.put, L0, L1, L2]) | (refine Evo2.va ok 0 _ _ ?_)
 first | (refine Evo2.val ok 1 ?_ ?_ ?_; rotate_left; (focus (intro w' hg; refine Box.exec_loadAll ?_ Tryz.underlying28 CE (BE.out.chg (Chg.trans (Chg.refl (fun _ => False) _) hg) id) ?_; (all_goals (first | exact ⟨rfl, rfl⟩ | rfl)))); simp only [Act.put, L0, L1, L2]) | (refine Evo2.va ok 1 _ _ ?_)
 (refine Evo2.cal ok 2 ?_ 33 ?_ ?_ ?_ ?_; rotate_left 2; (focus (intro w'; go_simp <;> with_reducible rfl)); (focus (intro w' g'; with_reducible exact KT.out w')); simp only [Act.put, L0, L1, L2])
 (refine Evo2.cal ok 3 ?_ 21 ?_ ?_ ?_ ?_; rotate_left 2; (focus (intro w'; go_simp <;> with_reducible rfl)); (focus (intro w' g'; with_reducible exact SM.out w' (HTa.out.chg (Chg.trans (Chg.refl (fun _ => False) _) g') (fun _ _ _ => id)))); simp only [Act.put, L0, L1, L2])
 refine Evo2.va ok 4 _ _ ?_
 refine Evo2.done (by decide +kernel) (fun wz gz => ?_)
 have AZ := Chg.trans (Chg.refl (fun _ => False) _) (Chg.grow gz)
 have HM := Lib.hid (HMa.out.grow (chg_none AZ))
 have HT := Lib.hid (HTa.out.later (chg_none AZ))
 clear AZ BE HMa HTa gz KT SM
 cases b with
 | false =>
  have CH2 : Hid (ck = 2) := Lib.hid (by rw [CH.out, if_pos (fun e => by have := EI.out.2 e; cases this)])
  clear CH EI
  go_wp2_with (first | (refine Mem.load1 0 (t := 3) rfl rfl rfl Tryz.underlying3 rfl HM.out rfl rfl ?_) | (refine Mem.load1 0 (t := 9) rfl rfl rfl Tryz.underlying9 rfl HM.out rfl rfl ?_))
  go_ret
  exact ⟨ret_i64 CH2.out.symm, HM.out.below⟩
 | true =>
  have CH2 : Hid (ck = fst0 [numE n 0, routeE rn rc ts rr]) := Lib.hid (by rw [CH.out, if_neg (fun h => h (EI.out.1 rfl))])
  clear CH EI
  go_wp2_with (first | (refine Mem.load1 0 (t := 3) rfl rfl rfl Tryz.underlying3 rfl HM.out rfl rfl ?_) | (refine Mem.load1 0 (t := 9) rfl rfl rfl Tryz.underlying9 rfl HM.out rfl rfl ?_))
  refine (SP.out _).mono ?_
  rintro e wx ⟨hsp, rfl⟩
  obtain ⟨s0, m0, rfl⟩ := hsp.isB
  clear hsp
  go_wp2_with (first | (refine Mem.load1 0 (t := 3) rfl rfl rfl Tryz.underlying3 rfl HM.out rfl rfl ?_) | (refine Mem.load1 0 (t := 9) rfl rfl rfl Tryz.underlying9 rfl HM.out rfl rfl ?_))
  have BE := Lib.hid (HM.out.blk (i := 0) rfl)
  refine Evo2.start' (ℓ := none) (S := Chg (fun _ => False)) (E := Grow.G) (by kernel_rfl) ⟨Chg.pre _, by decide +kernel, (by intro c a d v w h; cases d <;> exact h), by decide +kernel⟩ (fun ok => ?_)
  refine Evo2.va ok 0 _ _ ?_
  first | (refine Evo2.val ok 1 ?_ ?_ ?_; rotate_left; (focus (intro w' hg; refine Box.exec_load (off := 11) ?_ Tryz.underlying26 CR (BE.out.chg (Chg.trans (Chg.refl (fun _ => False) _) hg) id) (vs := [.string rn, .string rc, .slice a ts.length c, .int .i64 rr]) ?_ ?_; (all_goals (first | exact ⟨rfl, rfl⟩ | rfl)))); simp only [Act.put, L0, L1, L2]) | (refine Evo2.val ok 1 ?_ ?_ ?_; rotate_left; (focus (intro w' hg; refine Box.exec_load1 (off := 3) ?_ Tryz.underlying3 rfl (BE.out.chg (Chg.trans (Chg.refl (fun _ => False) _) hg) id) ?_; (all_goals (first | exact ⟨rfl, rfl⟩ | rfl)))); simp only [Act.put, L0, L1, L2]) | (refine Evo2.va ok 1 _ _ ?_)
  (refine Evo2.cal ok 2 ?_ 36 ?_ ?_ ?_ ?_; rotate_left 2; (focus (intro w'; go_simp <;> with_reducible rfl)); (focus (intro w' g'; with_reducible exact rnumber_v n 0 w')); simp only [Act.put, L0, L1, L2])
  refine Evo2.va ok 3 _ _ ?_
  first | (refine Evo2.val ok 4 ?_ ?_ ?_; rotate_left; (focus (intro w' hg; refine Box.exec_load (off := 11) ?_ Tryz.underlying26 CR (BE.out.chg (Chg.trans (Chg.refl (fun _ => False) _) hg) id) (vs := [.string rn, .string rc, .slice a ts.length c, .int .i64 rr]) ?_ ?_; (all_goals (first | exact ⟨rfl, rfl⟩ | rfl)))); simp only [Act.put, L0, L1, L2]) | (refine Evo2.val ok 4 ?_ ?_ ?_; rotate_left; (focus (intro w' hg; refine Box.exec_load1 (off := 3) ?_ Tryz.underlying3 rfl (BE.out.chg (Chg.trans (Chg.refl (fun _ => False) _) hg) id) ?_; (all_goals (first | exact ⟨rfl, rfl⟩ | rfl)))); simp only [Act.put, L0, L1, L2]) | (refine Evo2.va ok 4 _ _ ?_)
  (refine Evo2.cal ok 5 ?_ 38 ?_ ?_ ?_ ?_; rotate_left 2; (focus (intro w'; go_simp <;> with_reducible rfl)); (focus (intro w' g'; with_reducible exact RT.out w' (HT.out.chg (Chg.trans (Chg.refl (fun _ => False) _) g') (fun _ _ _ => id)))); simp only [Act.put, L0, L1, L2])
  refine Evo2.all [6] (by decide +kernel) rfl ?_
  intro wp1 gp1 iq hq
  simp only [List.mem_cons, List.mem_nil_iff, or_false] at hq
  have AP1 := Chg.trans (Chg.refl (fun _ => False) _) (Chg.grow gp1)
  subst hq
  refine Evo2.runs (by rfl) (by rfl) (fun K' hK' => ?_)
  go_simp
  (try (simp only [Evo.after_value, Evo.after_skip]))
  refine hK'.out _ _ ?_
  clear hK'
  simp only [Act.put, L0, L1, L2]
  refine ⟨.inr (Chg.alloc (Chg.refl _ _) _), ?_⟩
  generalize hG1 : World.alloc wp1 _ = wg1
  have GG1 : Grow.G wp1 wg1 := hG1 ▸ Grow.G.alloc (Grow.G.refl _) _
  have NC1 := (congrArg (fun W : World => W.heap[wp1.heap.size]?) hG1).symm.trans (MapKept.heap_alloc wp1 _).1
  have NL1 : wp1.heap.size < wg1.heap.size := by rw [← hG1]; simp
  clear hG1
  (refine Evo2.cal ok 7 ?_ 35 ?_ ?_ ?_ ?_; rotate_left 2; (focus (intro w'; go_simp <;> with_reducible rfl)); (focus (intro w' g'; with_reducible exact rfirst_v [numE n 0, routeE rn rc ts rr] _ w' (by simp) (g'.blk NC1 id) (by simp) (n := 2) (by simp))); simp only [Act.put, L0, L1, L2])
  refine Evo2.va ok 8 _ _ ?_
  refine Evo2.done (by decide +kernel) (fun wz gz => ?_)
  have AZ := Chg.trans (Chg.trans AP1 (Chg.grow GG1)) (Chg.grow gz)
  have NC1 := (gz.block _ NL1).trans NC1
  have HM9 := Lib.hid (HM.out.grow (chg_none AZ))
  clear AZ BE
  go_wp2_with fail
  go_ret
  exact ⟨ret_i64 CH2.out.symm, HM9.out.below⟩

set_option maxHeartbeats 8000000 in
theorem rchk_3 (nm tg : ByteArray) (n dr : Int) (cn : ByteArray) (im co mn mx gr : Int) (rn rc : ByteArray) (a : Option Addr) (ts : List Tgt) (c : Nat) (rr : Int) (w : World) (hd : EvBd w (⟨3, nm, tg, n, dr, ⟨cn, im, co, mn, mx, gr⟩, rn, rc, ts, rr⟩ : EvD) a) :
  Calls Tryz.prog 15 #[.agg #[.int .i64 3, .string nm, .string tg, .int .i64 n, .int .i64 dr, .string cn, .int .i64 im, .int .i64 co, .int .i64 mn, .int .i64 mx, .int .i64 gr, .string rn, .string rc, .slice a ts.length c, .int .i64 rr]] w fun x w' => x = .returned (.int .i64 (⟨3, nm, tg, n, dr, ⟨cn, im, co, mn, mx, gr⟩, rn, rc, ts, rr⟩ : EvD).chk) ∧ Grow.G w w' := by
 have CE : (Tryz.prog.info? 28).map (·.size) = some 15 := by kernel_rfl
 have CC : (Tryz.prog.info? 23).map (·.size) = some 6 := by kernel_rfl
 have CR : (Tryz.prog.info? 26).map (·.size) = some 4 := by kernel_rfl
 have KP : (⟨3, nm, tg, n, dr, ⟨cn, im, co, mn, mx, gr⟩, rn, rc, ts, rr⟩ : EvD).kept = ({ ev0 with k := 3, n := n, nm := nm, dr := dr } : EvD) := by simp only [EvD.kept, Int.reduceEq, Int.reduceLE, if_true, if_false, and_true, true_and, and_false, false_and, and_self, ev0]
 have CH : Hid ((⟨3, nm, tg, n, dr, ⟨cn, im, co, mn, mx, gr⟩, rn, rc, ts, rr⟩ : EvD).chk = if (⟨3, nm, tg, n, dr, ⟨cn, im, co, mn, mx, gr⟩, rn, rc, ts, rr⟩ : EvD) ≠ ({ ev0 with k := 3, n := n, nm := nm, dr := dr } : EvD) then 2 else if 2 < n then 2 else fst0 [numE n 1, nmdE (nameB 16 nm), numE dr 0]) := Lib.hid (by
  unfold EvD.chk
  rw [KP]
  simp only [Int.reduceEq, Int.reduceLT, Int.reduceLE, if_true, if_false, or_false, and_true, true_and, and_false, false_and])
 have SM := Lib.hid (fun w (h : TgtSl w a ts) => (show Calls Tryz.prog 21 #[.agg #[.int .i64 3, .string nm, .string tg, .int .i64 n, .int .i64 dr, .string cn, .int .i64 im, .int .i64 co, .int .i64 mn, .int .i64 mx, .int .i64 gr, .string rn, .string rc, .slice a ts.length c, .int .i64 rr], .agg #[.int .i64 3, .string nm, .string ⟨#[]⟩, .int .i64 n, .int .i64 dr, .string ⟨#[]⟩, .int .i64 0, .int .i64 0, .int .i64 0, .int .i64 0, .int .i64 0, .string ⟨#[]⟩, .string ⟨#[]⟩, .slice none 0 0, .int .i64 0]] w fun x w' => x = .returned (.bool (evB (⟨3, nm, tg, n, dr, ⟨cn, im, co, mn, mx, gr⟩, rn, rc, ts, rr⟩ : EvD) ({ ev0 with k := 3, n := n, nm := nm, dr := dr } : EvD))) ∧ Below w.heap.size w w' from rsame3_any (⟨3, nm, tg, n, dr, ⟨cn, im, co, mn, mx, gr⟩, rn, rc, ts, rr⟩ : EvD) ({ ev0 with k := 3, n := n, nm := nm, dr := dr } : EvD) a c none 0 w h (.inl rfl) hd.tl))
 have EI : Hid (evB (⟨3, nm, tg, n, dr, ⟨cn, im, co, mn, mx, gr⟩, rn, rc, ts, rr⟩ : EvD) ({ ev0 with k := 3, n := n, nm := nm, dr := dr } : EvD) = true ↔ (⟨3, nm, tg, n, dr, ⟨cn, im, co, mn, mx, gr⟩, rn, rc, ts, rr⟩ : EvD) = ({ ev0 with k := 3, n := n, nm := nm, dr := dr } : EvD)) := Lib.hid evB_iff
 have KT := Lib.hid (fun w => rkept_3 nm tg n dr cn im co mn mx gr rn rc a ts c rr w)
 have HTS := Lib.hid hd.ts
 have s1 : nm.size ≤ 281474976710655 := by have := hd.nm; dsimp only at this; omega
 have s2 : nm.size ≤ maxLen := by have := hd.nm; dsimp only at this; unfold maxLen; omega
 have s3 : tg.size ≤ maxLen := by have := hd.tg; dsimp only at this; unfold maxLen; omega
 have s4 : cn.size ≤ maxLen := by have := hd.cn; dsimp only at this; unfold maxLen; omega
 have SP := Lib.hid (fun w => rsplit_any nm w s1)
 have NA := Lib.hid (fun w => rname_any nm w s2)
 have NAv := Lib.hid (fun w => grow_v (rname_any nm w s2))
 have TAv := Lib.hid (fun w => grow_v (rtag_any tg w s3))
 have CF := Lib.hid (fun w => rconfig_at cn im co mn mx gr w s4)
 have RT := Lib.hid (fun w h => rroute_at rn rc a ts ts.length c rr w (routeE rn rc ts rr) rfl hd.rn hd.rc hd.tl h hd.ok rfl)
 generalize evB (⟨3, nm, tg, n, dr, ⟨cn, im, co, mn, mx, gr⟩, rn, rc, ts, rr⟩ : EvD) ({ ev0 with k := 3, n := n, nm := nm, dr := dr } : EvD) = b at *
 generalize (⟨3, nm, tg, n, dr, ⟨cn, im, co, mn, mx, gr⟩, rn, rc, ts, rr⟩ : EvD).chk = ck at *
 clear hd KP s1 s2 s3 s4
 go_enter Tryz.func15, Tryz.ntmps15
 go_wp2_with fail
 have HMa := Lib.hid (Mem.alloc' (Mem.nil w) [.int .i64 3, .string nm, .string tg, .int .i64 n, .int .i64 dr, .string cn, .int .i64 im, .int .i64 co, .int .i64 mn, .int .i64 mx, .int .i64 gr, .string rn, .string rc, .slice a ts.length c, .int .i64 rr] 28 (g := w.heap.size) rfl)
 have HTa := Lib.hid (HTS.out.later (show Grow.G w (w.alloc (.cells #[.int .i64 3, .string nm, .string tg, .int .i64 n, .int .i64 dr, .string cn, .int .i64 im, .int .i64 co, .int .i64 mn, .int .i64 mx, .int .i64 gr, .string rn, .string rc, .slice a ts.length c, .int .i64 rr] 28)) from Grow.G.alloc (Grow.G.refl _) _))
 obtain ⟨W, hW⟩ : ∃ W, W = w.alloc (.cells #[.int .i64 3, .string nm, .string tg, .int .i64 n, .int .i64 dr, .string cn, .int .i64 im, .int .i64 co, .int .i64 mn, .int .i64 mx, .int .i64 gr, .string rn, .string rc, .slice a ts.length c, .int .i64 rr] 28) := ⟨_, rfl⟩
 rw [← hW] at HMa HTa ⊢
 clear hW HTS
 have BE := Lib.hid (HMa.out.blk (i := 0) rfl)
 refine Evo2.start' (ℓ := none) (S := Chg (fun _ => False)) (E := Grow.G) (by kernel_rfl) ⟨Chg.pre _, by decide +kernel, (by intro c a d v w h; cases d <;> exact h), by decide +kernel⟩ (fun ok => ?_)
 first | (refine Evo2.val ok 0 ?_ ?_ ?_; rotate_left; (focus (intro w' hg; refine Box.exec_loadAll ?_ Tryz.underlying28 CE (BE.out.chg (Chg.trans (Chg.refl (fun _ => False) _) hg) id) ?_; (all_goals (first | exact ⟨rfl, rfl⟩ | rfl)))); simp only [Act.put, L0, L1, L2]) | (refine Evo2.va ok 0 _ _ ?_)
 first | (refine Evo2.val ok 1 ?_ ?_ ?_; rotate_left; (focus (intro w' hg; refine Box.exec_loadAll ?_ Tryz.underlying28 CE (BE.out.chg (Chg.trans (Chg.refl (fun _ => False) _) hg) id) ?_; (all_goals (first | exact ⟨rfl, rfl⟩ | rfl)))); simp only [Act.put, L0, L1, L2]) | (refine Evo2.va ok 1 _ _ ?_)
 (refine Evo2.cal ok 2 ?_ 33 ?_ ?_ ?_ ?_; rotate_left 2; (focus (intro w'; go_simp <;> with_reducible rfl)); (focus (intro w' g'; with_reducible exact KT.out w')); simp only [Act.put, L0, L1, L2])
 (refine Evo2.cal ok 3 ?_ 21 ?_ ?_ ?_ ?_; rotate_left 2; (focus (intro w'; go_simp <;> with_reducible rfl)); (focus (intro w' g'; with_reducible exact SM.out w' (HTa.out.chg (Chg.trans (Chg.refl (fun _ => False) _) g') (fun _ _ _ => id)))); simp only [Act.put, L0, L1, L2])
 refine Evo2.va ok 4 _ _ ?_
 refine Evo2.done (by decide +kernel) (fun wz gz => ?_)
 have AZ := Chg.trans (Chg.refl (fun _ => False) _) (Chg.grow gz)
 have HM := Lib.hid (HMa.out.grow (chg_none AZ))
 have HT := Lib.hid (HTa.out.later (chg_none AZ))
 clear AZ BE HMa HTa gz KT SM
 cases b with
 | false =>
  have CH2 : Hid (ck = 2) := Lib.hid (by rw [CH.out, if_pos (fun e => by have := EI.out.2 e; cases this)])
  clear CH EI
  go_wp2_with (first | (refine Mem.load1 0 (t := 3) rfl rfl rfl Tryz.underlying3 rfl HM.out rfl rfl ?_) | (refine Mem.load1 0 (t := 9) rfl rfl rfl Tryz.underlying9 rfl HM.out rfl rfl ?_))
  go_ret
  exact ⟨ret_i64 CH2.out.symm, HM.out.below⟩
 | true =>
  have CH2 : Hid (ck = if 2 < n then 2 else fst0 [numE n 1, nmdE (nameB 16 nm), numE dr 0]) := Lib.hid (by rw [CH.out, if_neg (fun h => h (EI.out.1 rfl))])
  clear CH EI
  go_wp2_with (first | (refine Mem.load1 0 (t := 3) rfl rfl rfl Tryz.underlying3 rfl HM.out rfl rfl ?_) | (refine Mem.load1 0 (t := 9) rfl rfl rfl Tryz.underlying9 rfl HM.out rfl rfl ?_))
  refine (SP.out _).mono ?_
  rintro e wx ⟨hsp, rfl⟩
  obtain ⟨s0, m0, rfl⟩ := hsp.isB
  clear hsp
  by_cases h2 : 2 < n
  ·
   have CH3 : Hid (ck = 2) := Lib.hid (by rw [CH2.out, if_pos h2])
   go_wp2_with (first | (refine Mem.load1 0 (t := 3) rfl rfl rfl Tryz.underlying3 rfl HM.out rfl rfl ?_) | (refine Mem.load1 0 (t := 9) rfl rfl rfl Tryz.underlying9 rfl HM.out rfl rfl ?_))
   go_ret
   exact ⟨ret_i64 CH3.out.symm, HM.out.below⟩
  have CH3 : Hid (ck = fst0 [numE n 1, nmdE (nameB 16 nm), numE dr 0]) := Lib.hid (by rw [CH2.out, if_neg h2])
  clear CH2
  go_wp2_with (first | (refine Mem.load1 0 (t := 3) rfl rfl rfl Tryz.underlying3 rfl HM.out rfl rfl ?_) | (refine Mem.load1 0 (t := 9) rfl rfl rfl Tryz.underlying9 rfl HM.out rfl rfl ?_))
  have BE := Lib.hid (HM.out.blk (i := 0) rfl)
  refine Evo2.start' (ℓ := none) (S := Chg (fun _ => False)) (E := Grow.G) (by kernel_rfl) ⟨Chg.pre _, by decide +kernel, (by intro c a d v w h; cases d <;> exact h), by decide +kernel⟩ (fun ok => ?_)
  refine Evo2.va ok 0 _ _ ?_
  first | (refine Evo2.val ok 1 ?_ ?_ ?_; rotate_left; (focus (intro w' hg; refine Box.exec_load1 (off := 3) ?_ Tryz.underlying3 rfl (BE.out.chg (Chg.trans (Chg.refl (fun _ => False) _) hg) id) ?_; (all_goals (first | exact ⟨rfl, rfl⟩ | rfl)))); simp only [Act.put, L0, L1, L2]) | (refine Evo2.val ok 1 ?_ ?_ ?_; rotate_left; (focus (intro w' hg; refine Box.exec_load1 (off := 1) ?_ Tryz.underlying9 rfl (BE.out.chg (Chg.trans (Chg.refl (fun _ => False) _) hg) id) ?_; (all_goals (first | exact ⟨rfl, rfl⟩ | rfl)))); simp only [Act.put, L0, L1, L2]) | (refine Evo2.val ok 1 ?_ ?_ ?_; rotate_left; (focus (intro w' hg; refine Box.exec_load1 (off := 4) ?_ Tryz.underlying3 rfl (BE.out.chg (Chg.trans (Chg.refl (fun _ => False) _) hg) id) ?_; (all_goals (first | exact ⟨rfl, rfl⟩ | rfl)))); simp only [Act.put, L0, L1, L2]) | (refine Evo2.va ok 1 _ _ ?_)
  (refine Evo2.cal ok 2 ?_ 36 ?_ ?_ ?_ ?_; rotate_left 2; (focus (intro w'; go_simp <;> with_reducible rfl)); (focus (intro w' g'; with_reducible exact rnumber_v n 1 w')); simp only [Act.put, L0, L1, L2])
  refine Evo2.va ok 3 _ _ ?_
  first | (refine Evo2.val ok 4 ?_ ?_ ?_; rotate_left; (focus (intro w' hg; refine Box.exec_load1 (off := 3) ?_ Tryz.underlying3 rfl (BE.out.chg (Chg.trans (Chg.refl (fun _ => False) _) hg) id) ?_; (all_goals (first | exact ⟨rfl, rfl⟩ | rfl)))); simp only [Act.put, L0, L1, L2]) | (refine Evo2.val ok 4 ?_ ?_ ?_; rotate_left; (focus (intro w' hg; refine Box.exec_load1 (off := 1) ?_ Tryz.underlying9 rfl (BE.out.chg (Chg.trans (Chg.refl (fun _ => False) _) hg) id) ?_; (all_goals (first | exact ⟨rfl, rfl⟩ | rfl)))); simp only [Act.put, L0, L1, L2]) | (refine Evo2.val ok 4 ?_ ?_ ?_; rotate_left; (focus (intro w' hg; refine Box.exec_load1 (off := 4) ?_ Tryz.underlying3 rfl (BE.out.chg (Chg.trans (Chg.refl (fun _ => False) _) hg) id) ?_; (all_goals (first | exact ⟨rfl, rfl⟩ | rfl)))); simp only [Act.put, L0, L1, L2]) | (refine Evo2.va ok 4 _ _ ?_)
  (refine Evo2.cal ok 5 ?_ 40 ?_ ?_ ?_ ?_; rotate_left 2; (focus (intro w'; go_simp <;> with_reducible rfl)); (focus (intro w' g'; with_reducible exact NAv.out w')); simp only [Act.put, L0, L1, L2])
  (refine Evo2.cal ok 6 ?_ 39 ?_ ?_ ?_ ?_; rotate_left 2; (focus (intro w'; go_simp <;> with_reducible rfl)); (focus (intro w' g'; with_reducible exact rnamed_v _ w')); simp only [Act.put, L0, L1, L2])
  refine Evo2.va ok 7 _ _ ?_
  first | (refine Evo2.val ok 8 ?_ ?_ ?_; rotate_left; (focus (intro w' hg; refine Box.exec_load1 (off := 3) ?_ Tryz.underlying3 rfl (BE.out.chg (Chg.trans (Chg.refl (fun _ => False) _) hg) id) ?_; (all_goals (first | exact ⟨rfl, rfl⟩ | rfl)))); simp only [Act.put, L0, L1, L2]) | (refine Evo2.val ok 8 ?_ ?_ ?_; rotate_left; (focus (intro w' hg; refine Box.exec_load1 (off := 1) ?_ Tryz.underlying9 rfl (BE.out.chg (Chg.trans (Chg.refl (fun _ => False) _) hg) id) ?_; (all_goals (first | exact ⟨rfl, rfl⟩ | rfl)))); simp only [Act.put, L0, L1, L2]) | (refine Evo2.val ok 8 ?_ ?_ ?_; rotate_left; (focus (intro w' hg; refine Box.exec_load1 (off := 4) ?_ Tryz.underlying3 rfl (BE.out.chg (Chg.trans (Chg.refl (fun _ => False) _) hg) id) ?_; (all_goals (first | exact ⟨rfl, rfl⟩ | rfl)))); simp only [Act.put, L0, L1, L2]) | (refine Evo2.va ok 8 _ _ ?_)
  (refine Evo2.cal ok 9 ?_ 36 ?_ ?_ ?_ ?_; rotate_left 2; (focus (intro w'; go_simp <;> with_reducible rfl)); (focus (intro w' g'; with_reducible exact rnumber_v dr 0 w')); simp only [Act.put, L0, L1, L2])
  refine Evo2.all [10] (by decide +kernel) rfl ?_
  intro wp1 gp1 iq hq
  simp only [List.mem_cons, List.mem_nil_iff, or_false] at hq
  have AP1 := Chg.trans (Chg.refl (fun _ => False) _) (Chg.grow gp1)
  subst hq
  refine Evo2.runs (by rfl) (by rfl) (fun K' hK' => ?_)
  go_simp
  (try (simp only [Evo.after_value, Evo.after_skip]))
  refine hK'.out _ _ ?_
  clear hK'
  simp only [Act.put, L0, L1, L2]
  refine ⟨.inr (Chg.alloc (Chg.refl _ _) _), ?_⟩
  generalize hG1 : World.alloc wp1 _ = wg1
  have GG1 : Grow.G wp1 wg1 := hG1 ▸ Grow.G.alloc (Grow.G.refl _) _
  have NC1 := (congrArg (fun W : World => W.heap[wp1.heap.size]?) hG1).symm.trans (MapKept.heap_alloc wp1 _).1
  have NL1 : wp1.heap.size < wg1.heap.size := by rw [← hG1]; simp
  clear hG1
  (refine Evo2.cal ok 11 ?_ 35 ?_ ?_ ?_ ?_; rotate_left 2; (focus (intro w'; go_simp <;> with_reducible rfl)); (focus (intro w' g'; with_reducible exact rfirst_v [numE n 1, nmdE (nameB 16 nm), numE dr 0] _ w' (by simp) (g'.blk NC1 id) (by simp) (n := 3) (by simp))); simp only [Act.put, L0, L1, L2])
  refine Evo2.va ok 12 _ _ ?_
  refine Evo2.done (by decide +kernel) (fun wz gz => ?_)
  have AZ := Chg.trans (Chg.trans AP1 (Chg.grow GG1)) (Chg.grow gz)
  have NC1 := (gz.block _ NL1).trans NC1
  have HM9 := Lib.hid (HM.out.grow (chg_none AZ))
  clear AZ BE
  go_wp2_with fail
  go_ret
  exact ⟨ret_i64 CH3.out.symm, HM9.out.below⟩

set_option maxHeartbeats 8000000 in
theorem rchk_4 (nm tg : ByteArray) (n dr : Int) (cn : ByteArray) (im co mn mx gr : Int) (rn rc : ByteArray) (a : Option Addr) (ts : List Tgt) (c : Nat) (rr : Int) (w : World) (hd : EvBd w (⟨4, nm, tg, n, dr, ⟨cn, im, co, mn, mx, gr⟩, rn, rc, ts, rr⟩ : EvD) a) :
  Calls Tryz.prog 15 #[.agg #[.int .i64 4, .string nm, .string tg, .int .i64 n, .int .i64 dr, .string cn, .int .i64 im, .int .i64 co, .int .i64 mn, .int .i64 mx, .int .i64 gr, .string rn, .string rc, .slice a ts.length c, .int .i64 rr]] w fun x w' => x = .returned (.int .i64 (⟨4, nm, tg, n, dr, ⟨cn, im, co, mn, mx, gr⟩, rn, rc, ts, rr⟩ : EvD).chk) ∧ Grow.G w w' := by
 have CE : (Tryz.prog.info? 28).map (·.size) = some 15 := by kernel_rfl
 have CC : (Tryz.prog.info? 23).map (·.size) = some 6 := by kernel_rfl
 have CR : (Tryz.prog.info? 26).map (·.size) = some 4 := by kernel_rfl
 have KP : (⟨4, nm, tg, n, dr, ⟨cn, im, co, mn, mx, gr⟩, rn, rc, ts, rr⟩ : EvD).kept = ({ ev0 with k := 4, n := n, nm := nm, tg := tg, dr := dr } : EvD) := by simp only [EvD.kept, Int.reduceEq, Int.reduceLE, if_true, if_false, and_true, true_and, and_false, false_and, and_self, ev0]
 have CH : Hid ((⟨4, nm, tg, n, dr, ⟨cn, im, co, mn, mx, gr⟩, rn, rc, ts, rr⟩ : EvD).chk = if (⟨4, nm, tg, n, dr, ⟨cn, im, co, mn, mx, gr⟩, rn, rc, ts, rr⟩ : EvD) ≠ ({ ev0 with k := 4, n := n, nm := nm, tg := tg, dr := dr } : EvD) then 2 else fst0 [numE n 1, nmdE (nameB 16 nm), nmdE (strE tg || nameB 8 tg), numE dr 0]) := Lib.hid (by
  unfold EvD.chk
  rw [KP]
  simp only [Int.reduceEq, Int.reduceLT, Int.reduceLE, if_true, if_false, or_false, and_true, true_and, and_false, false_and])
 have SM := Lib.hid (fun w (h : TgtSl w a ts) => (show Calls Tryz.prog 21 #[.agg #[.int .i64 4, .string nm, .string tg, .int .i64 n, .int .i64 dr, .string cn, .int .i64 im, .int .i64 co, .int .i64 mn, .int .i64 mx, .int .i64 gr, .string rn, .string rc, .slice a ts.length c, .int .i64 rr], .agg #[.int .i64 4, .string nm, .string tg, .int .i64 n, .int .i64 dr, .string ⟨#[]⟩, .int .i64 0, .int .i64 0, .int .i64 0, .int .i64 0, .int .i64 0, .string ⟨#[]⟩, .string ⟨#[]⟩, .slice none 0 0, .int .i64 0]] w fun x w' => x = .returned (.bool (evB (⟨4, nm, tg, n, dr, ⟨cn, im, co, mn, mx, gr⟩, rn, rc, ts, rr⟩ : EvD) ({ ev0 with k := 4, n := n, nm := nm, tg := tg, dr := dr } : EvD))) ∧ Below w.heap.size w w' from rsame3_any (⟨4, nm, tg, n, dr, ⟨cn, im, co, mn, mx, gr⟩, rn, rc, ts, rr⟩ : EvD) ({ ev0 with k := 4, n := n, nm := nm, tg := tg, dr := dr } : EvD) a c none 0 w h (.inl rfl) hd.tl))
 have EI : Hid (evB (⟨4, nm, tg, n, dr, ⟨cn, im, co, mn, mx, gr⟩, rn, rc, ts, rr⟩ : EvD) ({ ev0 with k := 4, n := n, nm := nm, tg := tg, dr := dr } : EvD) = true ↔ (⟨4, nm, tg, n, dr, ⟨cn, im, co, mn, mx, gr⟩, rn, rc, ts, rr⟩ : EvD) = ({ ev0 with k := 4, n := n, nm := nm, tg := tg, dr := dr } : EvD)) := Lib.hid evB_iff
 have KT := Lib.hid (fun w => rkept_4 nm tg n dr cn im co mn mx gr rn rc a ts c rr w)
 have HTS := Lib.hid hd.ts
 have s1 : nm.size ≤ 281474976710655 := by have := hd.nm; dsimp only at this; omega
 have s2 : nm.size ≤ maxLen := by have := hd.nm; dsimp only at this; unfold maxLen; omega
 have s3 : tg.size ≤ maxLen := by have := hd.tg; dsimp only at this; unfold maxLen; omega
 have s4 : cn.size ≤ maxLen := by have := hd.cn; dsimp only at this; unfold maxLen; omega
 have SP := Lib.hid (fun w => rsplit_any nm w s1)
 have NA := Lib.hid (fun w => rname_any nm w s2)
 have NAv := Lib.hid (fun w => grow_v (rname_any nm w s2))
 have TAv := Lib.hid (fun w => grow_v (rtag_any tg w s3))
 have CF := Lib.hid (fun w => rconfig_at cn im co mn mx gr w s4)
 have RT := Lib.hid (fun w h => rroute_at rn rc a ts ts.length c rr w (routeE rn rc ts rr) rfl hd.rn hd.rc hd.tl h hd.ok rfl)
 generalize evB (⟨4, nm, tg, n, dr, ⟨cn, im, co, mn, mx, gr⟩, rn, rc, ts, rr⟩ : EvD) ({ ev0 with k := 4, n := n, nm := nm, tg := tg, dr := dr } : EvD) = b at *
 generalize (⟨4, nm, tg, n, dr, ⟨cn, im, co, mn, mx, gr⟩, rn, rc, ts, rr⟩ : EvD).chk = ck at *
 clear hd KP s1 s2 s3 s4
 go_enter Tryz.func15, Tryz.ntmps15
 go_wp2_with fail
 have HMa := Lib.hid (Mem.alloc' (Mem.nil w) [.int .i64 4, .string nm, .string tg, .int .i64 n, .int .i64 dr, .string cn, .int .i64 im, .int .i64 co, .int .i64 mn, .int .i64 mx, .int .i64 gr, .string rn, .string rc, .slice a ts.length c, .int .i64 rr] 28 (g := w.heap.size) rfl)
 have HTa := Lib.hid (HTS.out.later (show Grow.G w (w.alloc (.cells #[.int .i64 4, .string nm, .string tg, .int .i64 n, .int .i64 dr, .string cn, .int .i64 im, .int .i64 co, .int .i64 mn, .int .i64 mx, .int .i64 gr, .string rn, .string rc, .slice a ts.length c, .int .i64 rr] 28)) from Grow.G.alloc (Grow.G.refl _) _))
 obtain ⟨W, hW⟩ : ∃ W, W = w.alloc (.cells #[.int .i64 4, .string nm, .string tg, .int .i64 n, .int .i64 dr, .string cn, .int .i64 im, .int .i64 co, .int .i64 mn, .int .i64 mx, .int .i64 gr, .string rn, .string rc, .slice a ts.length c, .int .i64 rr] 28) := ⟨_, rfl⟩
 rw [← hW] at HMa HTa ⊢
 clear hW HTS
 have BE := Lib.hid (HMa.out.blk (i := 0) rfl)
 refine Evo2.start' (ℓ := none) (S := Chg (fun _ => False)) (E := Grow.G) (by kernel_rfl) ⟨Chg.pre _, by decide +kernel, (by intro c a d v w h; cases d <;> exact h), by decide +kernel⟩ (fun ok => ?_)
 first | (refine Evo2.val ok 0 ?_ ?_ ?_; rotate_left; (focus (intro w' hg; refine Box.exec_loadAll ?_ Tryz.underlying28 CE (BE.out.chg (Chg.trans (Chg.refl (fun _ => False) _) hg) id) ?_; (all_goals (first | exact ⟨rfl, rfl⟩ | rfl)))); simp only [Act.put, L0, L1, L2]) | (refine Evo2.va ok 0 _ _ ?_)
 first | (refine Evo2.val ok 1 ?_ ?_ ?_; rotate_left; (focus (intro w' hg; refine Box.exec_loadAll ?_ Tryz.underlying28 CE (BE.out.chg (Chg.trans (Chg.refl (fun _ => False) _) hg) id) ?_; (all_goals (first | exact ⟨rfl, rfl⟩ | rfl)))); simp only [Act.put, L0, L1, L2]) | (refine Evo2.va ok 1 _ _ ?_)
 (refine Evo2.cal ok 2 ?_ 33 ?_ ?_ ?_ ?_; rotate_left 2; (focus (intro w'; go_simp <;> with_reducible rfl)); (focus (intro w' g'; with_reducible exact KT.out w')); simp only [Act.put, L0, L1, L2])
 (refine Evo2.cal ok 3 ?_ 21 ?_ ?_ ?_ ?_; rotate_left 2; (focus (intro w'; go_simp <;> with_reducible rfl)); (focus (intro w' g'; with_reducible exact SM.out w' (HTa.out.chg (Chg.trans (Chg.refl (fun _ => False) _) g') (fun _ _ _ => id)))); simp only [Act.put, L0, L1, L2])
 refine Evo2.va ok 4 _ _ ?_
 refine Evo2.done (by decide +kernel) (fun wz gz => ?_)
 have AZ := Chg.trans (Chg.refl (fun _ => False) _) (Chg.grow gz)
 have HM := Lib.hid (HMa.out.grow (chg_none AZ))
 have HT := Lib.hid (HTa.out.later (chg_none AZ))
 clear AZ BE HMa HTa gz KT SM
 cases b with
 | false =>
  have CH2 : Hid (ck = 2) := Lib.hid (by rw [CH.out, if_pos (fun e => by have := EI.out.2 e; cases this)])
  clear CH EI
  go_wp2_with (first | (refine Mem.load1 0 (t := 3) rfl rfl rfl Tryz.underlying3 rfl HM.out rfl rfl ?_) | (refine Mem.load1 0 (t := 9) rfl rfl rfl Tryz.underlying9 rfl HM.out rfl rfl ?_))
  go_ret
  exact ⟨ret_i64 CH2.out.symm, HM.out.below⟩
 | true =>
  have CH2 : Hid (ck = fst0 [numE n 1, nmdE (nameB 16 nm), nmdE (strE tg || nameB 8 tg), numE dr 0]) := Lib.hid (by rw [CH.out, if_neg (fun h => h (EI.out.1 rfl))])
  clear CH EI
  go_wp2_with (first | (refine Mem.load1 0 (t := 3) rfl rfl rfl Tryz.underlying3 rfl HM.out rfl rfl ?_) | (refine Mem.load1 0 (t := 9) rfl rfl rfl Tryz.underlying9 rfl HM.out rfl rfl ?_))
  refine (SP.out _).mono ?_
  rintro e wx ⟨hsp, rfl⟩
  obtain ⟨s0, m0, rfl⟩ := hsp.isB
  clear hsp
  go_wp2_with (first | (refine Mem.load1 0 (t := 3) rfl rfl rfl Tryz.underlying3 rfl HM.out rfl rfl ?_) | (refine Mem.load1 0 (t := 9) rfl rfl rfl Tryz.underlying9 rfl HM.out rfl rfl ?_))
  by_cases htg : tg.toList = []
  ·
   have CH3 : Hid (ck = fst0 [numE n 1, nmdE (nameB 16 nm), nmdE true, numE dr 0]) := Lib.hid (by rw [CH2.out, show (strE tg || nameB 8 tg) = true from by simp [strE, htg]])
   clear CH2
   have BE := Lib.hid (HM.out.blk (i := 0) rfl)
   refine Evo2.start' (ℓ := none) (S := Chg (fun _ => False)) (E := Grow.G) (by kernel_rfl) ⟨Chg.pre _, by decide +kernel, (by intro c a d v w h; cases d <;> exact h), by decide +kernel⟩ (fun ok => ?_)
   refine Evo2.va ok 0 _ _ ?_
   first | (refine Evo2.val ok 1 ?_ ?_ ?_; rotate_left; (focus (intro w' hg; refine Box.exec_load1 (off := 3) ?_ Tryz.underlying3 rfl (BE.out.chg (Chg.trans (Chg.refl (fun _ => False) _) hg) id) ?_; (all_goals (first | exact ⟨rfl, rfl⟩ | rfl)))); simp only [Act.put, L0, L1, L2]) | (refine Evo2.val ok 1 ?_ ?_ ?_; rotate_left; (focus (intro w' hg; refine Box.exec_load1 (off := 1) ?_ Tryz.underlying9 rfl (BE.out.chg (Chg.trans (Chg.refl (fun _ => False) _) hg) id) ?_; (all_goals (first | exact ⟨rfl, rfl⟩ | rfl)))); simp only [Act.put, L0, L1, L2]) | (refine Evo2.val ok 1 ?_ ?_ ?_; rotate_left; (focus (intro w' hg; refine Box.exec_load1 (off := 2) ?_ Tryz.underlying9 rfl (BE.out.chg (Chg.trans (Chg.refl (fun _ => False) _) hg) id) ?_; (all_goals (first | exact ⟨rfl, rfl⟩ | rfl)))); simp only [Act.put, L0, L1, L2]) | (refine Evo2.val ok 1 ?_ ?_ ?_; rotate_left; (focus (intro w' hg; refine Box.exec_load1 (off := 4) ?_ Tryz.underlying3 rfl (BE.out.chg (Chg.trans (Chg.refl (fun _ => False) _) hg) id) ?_; (all_goals (first | exact ⟨rfl, rfl⟩ | rfl)))); simp only [Act.put, L0, L1, L2]) | (refine Evo2.va ok 1 _ _ ?_)
   (refine Evo2.cal ok 2 ?_ 36 ?_ ?_ ?_ ?_; rotate_left 2; (focus (intro w'; go_simp <;> with_reducible rfl)); (focus (intro w' g'; with_reducible exact rnumber_v n 1 w')); simp only [Act.put, L0, L1, L2])
   refine Evo2.va ok 3 _ _ ?_
   first | (refine Evo2.val ok 4 ?_ ?_ ?_; rotate_left; (focus (intro w' hg; refine Box.exec_load1 (off := 3) ?_ Tryz.underlying3 rfl (BE.out.chg (Chg.trans (Chg.refl (fun _ => False) _) hg) id) ?_; (all_goals (first | exact ⟨rfl, rfl⟩ | rfl)))); simp only [Act.put, L0, L1, L2]) | (refine Evo2.val ok 4 ?_ ?_ ?_; rotate_left; (focus (intro w' hg; refine Box.exec_load1 (off := 1) ?_ Tryz.underlying9 rfl (BE.out.chg (Chg.trans (Chg.refl (fun _ => False) _) hg) id) ?_; (all_goals (first | exact ⟨rfl, rfl⟩ | rfl)))); simp only [Act.put, L0, L1, L2]) | (refine Evo2.val ok 4 ?_ ?_ ?_; rotate_left; (focus (intro w' hg; refine Box.exec_load1 (off := 2) ?_ Tryz.underlying9 rfl (BE.out.chg (Chg.trans (Chg.refl (fun _ => False) _) hg) id) ?_; (all_goals (first | exact ⟨rfl, rfl⟩ | rfl)))); simp only [Act.put, L0, L1, L2]) | (refine Evo2.val ok 4 ?_ ?_ ?_; rotate_left; (focus (intro w' hg; refine Box.exec_load1 (off := 4) ?_ Tryz.underlying3 rfl (BE.out.chg (Chg.trans (Chg.refl (fun _ => False) _) hg) id) ?_; (all_goals (first | exact ⟨rfl, rfl⟩ | rfl)))); simp only [Act.put, L0, L1, L2]) | (refine Evo2.va ok 4 _ _ ?_)
   (refine Evo2.cal ok 5 ?_ 40 ?_ ?_ ?_ ?_; rotate_left 2; (focus (intro w'; go_simp <;> with_reducible rfl)); (focus (intro w' g'; with_reducible exact NAv.out w')); simp only [Act.put, L0, L1, L2])
   (refine Evo2.cal ok 6 ?_ 39 ?_ ?_ ?_ ?_; rotate_left 2; (focus (intro w'; go_simp <;> with_reducible rfl)); (focus (intro w' g'; with_reducible exact rnamed_v _ w')); simp only [Act.put, L0, L1, L2])
   refine Evo2.va ok 7 _ _ ?_
   first | (refine Evo2.val ok 8 ?_ ?_ ?_; rotate_left; (focus (intro w' hg; refine Box.exec_load1 (off := 3) ?_ Tryz.underlying3 rfl (BE.out.chg (Chg.trans (Chg.refl (fun _ => False) _) hg) id) ?_; (all_goals (first | exact ⟨rfl, rfl⟩ | rfl)))); simp only [Act.put, L0, L1, L2]) | (refine Evo2.val ok 8 ?_ ?_ ?_; rotate_left; (focus (intro w' hg; refine Box.exec_load1 (off := 1) ?_ Tryz.underlying9 rfl (BE.out.chg (Chg.trans (Chg.refl (fun _ => False) _) hg) id) ?_; (all_goals (first | exact ⟨rfl, rfl⟩ | rfl)))); simp only [Act.put, L0, L1, L2]) | (refine Evo2.val ok 8 ?_ ?_ ?_; rotate_left; (focus (intro w' hg; refine Box.exec_load1 (off := 2) ?_ Tryz.underlying9 rfl (BE.out.chg (Chg.trans (Chg.refl (fun _ => False) _) hg) id) ?_; (all_goals (first | exact ⟨rfl, rfl⟩ | rfl)))); simp only [Act.put, L0, L1, L2]) | (refine Evo2.val ok 8 ?_ ?_ ?_; rotate_left; (focus (intro w' hg; refine Box.exec_load1 (off := 4) ?_ Tryz.underlying3 rfl (BE.out.chg (Chg.trans (Chg.refl (fun _ => False) _) hg) id) ?_; (all_goals (first | exact ⟨rfl, rfl⟩ | rfl)))); simp only [Act.put, L0, L1, L2]) | (refine Evo2.va ok 8 _ _ ?_)
   refine Evo2.va ok 9 _ _ ?_
   refine Evo2.va ok 10 _ _ ?_
   first | (refine Evo2.va ok 11 _ _ ?_) | (refine Evo2.vi ok 11 _ ?_)
   first | (refine Evo2.val ok 12 ?_ ?_ ?_; rotate_left; (focus (intro w' hg; refine Box.exec_load1 (off := 3) ?_ Tryz.underlying3 rfl (BE.out.chg (Chg.trans (Chg.refl (fun _ => False) _) hg) id) ?_; (all_goals (first | exact ⟨rfl, rfl⟩ | rfl)))); simp only [Act.put, L0, L1, L2]) | (refine Evo2.val ok 12 ?_ ?_ ?_; rotate_left; (focus (intro w' hg; refine Box.exec_load1 (off := 1) ?_ Tryz.underlying9 rfl (BE.out.chg (Chg.trans (Chg.refl (fun _ => False) _) hg) id) ?_; (all_goals (first | exact ⟨rfl, rfl⟩ | rfl)))); simp only [Act.put, L0, L1, L2]) | (refine Evo2.val ok 12 ?_ ?_ ?_; rotate_left; (focus (intro w' hg; refine Box.exec_load1 (off := 2) ?_ Tryz.underlying9 rfl (BE.out.chg (Chg.trans (Chg.refl (fun _ => False) _) hg) id) ?_; (all_goals (first | exact ⟨rfl, rfl⟩ | rfl)))); simp only [Act.put, L0, L1, L2]) | (refine Evo2.val ok 12 ?_ ?_ ?_; rotate_left; (focus (intro w' hg; refine Box.exec_load1 (off := 4) ?_ Tryz.underlying3 rfl (BE.out.chg (Chg.trans (Chg.refl (fun _ => False) _) hg) id) ?_; (all_goals (first | exact ⟨rfl, rfl⟩ | rfl)))); simp only [Act.put, L0, L1, L2]) | (refine Evo2.va ok 12 _ _ ?_) | (refine Evo2.vi ok 12 _ ?_)
   first | (refine Evo2.cal ok 13 ?_ 41 ?_ ?_ ?_ ?_; rotate_left 2; (focus (intro w'; go_simp <;> with_reducible rfl)); (focus (intro w' g'; with_reducible exact TAv.out w')); simp only [Act.put, L0, L1, L2]) | (refine Evo2.vi ok 13 _ ?_)
   refine Evo2.va ok 14 _ _ ?_
   (refine Evo2.cal ok 15 ?_ 39 ?_ ?_ ?_ ?_; rotate_left 2; (focus (intro w'; go_simp <;> with_reducible rfl)); (focus (intro w' g'; with_reducible exact rnamed_v _ w')); simp only [Act.put, L0, L1, L2])
   refine Evo2.va ok 16 _ _ ?_
   first | (refine Evo2.val ok 17 ?_ ?_ ?_; rotate_left; (focus (intro w' hg; refine Box.exec_load1 (off := 3) ?_ Tryz.underlying3 rfl (BE.out.chg (Chg.trans (Chg.refl (fun _ => False) _) hg) id) ?_; (all_goals (first | exact ⟨rfl, rfl⟩ | rfl)))); simp only [Act.put, L0, L1, L2]) | (refine Evo2.val ok 17 ?_ ?_ ?_; rotate_left; (focus (intro w' hg; refine Box.exec_load1 (off := 1) ?_ Tryz.underlying9 rfl (BE.out.chg (Chg.trans (Chg.refl (fun _ => False) _) hg) id) ?_; (all_goals (first | exact ⟨rfl, rfl⟩ | rfl)))); simp only [Act.put, L0, L1, L2]) | (refine Evo2.val ok 17 ?_ ?_ ?_; rotate_left; (focus (intro w' hg; refine Box.exec_load1 (off := 2) ?_ Tryz.underlying9 rfl (BE.out.chg (Chg.trans (Chg.refl (fun _ => False) _) hg) id) ?_; (all_goals (first | exact ⟨rfl, rfl⟩ | rfl)))); simp only [Act.put, L0, L1, L2]) | (refine Evo2.val ok 17 ?_ ?_ ?_; rotate_left; (focus (intro w' hg; refine Box.exec_load1 (off := 4) ?_ Tryz.underlying3 rfl (BE.out.chg (Chg.trans (Chg.refl (fun _ => False) _) hg) id) ?_; (all_goals (first | exact ⟨rfl, rfl⟩ | rfl)))); simp only [Act.put, L0, L1, L2]) | (refine Evo2.va ok 17 _ _ ?_)
   (refine Evo2.cal ok 18 ?_ 36 ?_ ?_ ?_ ?_; rotate_left 2; (focus (intro w'; go_simp <;> with_reducible rfl)); (focus (intro w' g'; with_reducible exact rnumber_v dr 0 w')); simp only [Act.put, L0, L1, L2])
   refine Evo2.all [19] (by decide +kernel) rfl ?_
   intro wp1 gp1 iq hq
   simp only [List.mem_cons, List.mem_nil_iff, or_false] at hq
   have AP1 := Chg.trans (Chg.refl (fun _ => False) _) (Chg.grow gp1)
   subst hq
   refine Evo2.runs (by rfl) (by rfl) (fun K' hK' => ?_)
   go_simp
   (try (simp only [Evo.after_value, Evo.after_skip]))
   refine hK'.out _ _ ?_
   clear hK'
   simp only [Act.put, L0, L1, L2]
   refine ⟨.inr (Chg.alloc (Chg.refl _ _) _), ?_⟩
   generalize hG1 : World.alloc wp1 _ = wg1
   have GG1 : Grow.G wp1 wg1 := hG1 ▸ Grow.G.alloc (Grow.G.refl _) _
   have NC1 := (congrArg (fun W : World => W.heap[wp1.heap.size]?) hG1).symm.trans (MapKept.heap_alloc wp1 _).1
   have NL1 : wp1.heap.size < wg1.heap.size := by rw [← hG1]; simp
   clear hG1
   (refine Evo2.cal ok 20 ?_ 35 ?_ ?_ ?_ ?_; rotate_left 2; (focus (intro w'; go_simp <;> with_reducible rfl)); (focus (intro w' g'; with_reducible exact rfirst_v [numE n 1, nmdE (nameB 16 nm), nmdE true, numE dr 0] _ w' (by simp) (g'.blk NC1 id) (by simp) (n := 4) (by simp))); simp only [Act.put, L0, L1, L2])
   refine Evo2.va ok 21 _ _ ?_
   refine Evo2.done (by decide +kernel) (fun wz gz => ?_)
   have AZ := Chg.trans (Chg.trans AP1 (Chg.grow GG1)) (Chg.grow gz)
   have NC1 := (gz.block _ NL1).trans NC1
   have HM9 := Lib.hid (HM.out.grow (chg_none AZ))
   clear AZ BE
   go_wp2_with fail
   go_ret
   exact ⟨ret_i64 CH3.out.symm, HM9.out.below⟩
  
  ·
   have CH3 : Hid (ck = fst0 [numE n 1, nmdE (nameB 16 nm), nmdE (nameB 8 tg), numE dr 0]) := Lib.hid (by rw [CH2.out, show (strE tg || nameB 8 tg) = nameB 8 tg from by simp [strE, htg]])
   clear CH2
   have ht1 : tg.toList.isEmpty = false := by simpa using htg
   have ht2 : (tg.toList == []) = false := by simpa using htg
   have ht3 : decide (tg.toList = []) = false := decide_eq_false htg
   have BE := Lib.hid (HM.out.blk (i := 0) rfl)
   refine Evo2.start' (ℓ := none) (S := Chg (fun _ => False)) (E := Grow.G) (by kernel_rfl) ⟨Chg.pre _, by decide +kernel, (by intro c a d v w h; cases d <;> exact h), by decide +kernel⟩ (fun ok => ?_)
   refine Evo2.va ok 0 _ _ ?_
   first | (refine Evo2.val ok 1 ?_ ?_ ?_; rotate_left; (focus (intro w' hg; refine Box.exec_load1 (off := 3) ?_ Tryz.underlying3 rfl (BE.out.chg (Chg.trans (Chg.refl (fun _ => False) _) hg) id) ?_; (all_goals (first | exact ⟨rfl, rfl⟩ | rfl)))); simp only [Act.put, L0, L1, L2]) | (refine Evo2.val ok 1 ?_ ?_ ?_; rotate_left; (focus (intro w' hg; refine Box.exec_load1 (off := 1) ?_ Tryz.underlying9 rfl (BE.out.chg (Chg.trans (Chg.refl (fun _ => False) _) hg) id) ?_; (all_goals (first | exact ⟨rfl, rfl⟩ | rfl)))); simp only [Act.put, L0, L1, L2]) | (refine Evo2.val ok 1 ?_ ?_ ?_; rotate_left; (focus (intro w' hg; refine Box.exec_load1 (off := 2) ?_ Tryz.underlying9 rfl (BE.out.chg (Chg.trans (Chg.refl (fun _ => False) _) hg) id) ?_; (all_goals (first | exact ⟨rfl, rfl⟩ | rfl)))); simp only [Act.put, L0, L1, L2]) | (refine Evo2.val ok 1 ?_ ?_ ?_; rotate_left; (focus (intro w' hg; refine Box.exec_load1 (off := 4) ?_ Tryz.underlying3 rfl (BE.out.chg (Chg.trans (Chg.refl (fun _ => False) _) hg) id) ?_; (all_goals (first | exact ⟨rfl, rfl⟩ | rfl)))); simp only [Act.put, L0, L1, L2]) | (refine Evo2.va ok 1 _ _ ?_)
   (refine Evo2.cal ok 2 ?_ 36 ?_ ?_ ?_ ?_; rotate_left 2; (focus (intro w'; go_simp <;> with_reducible rfl)); (focus (intro w' g'; with_reducible exact rnumber_v n 1 w')); simp only [Act.put, L0, L1, L2])
   refine Evo2.va ok 3 _ _ ?_
   first | (refine Evo2.val ok 4 ?_ ?_ ?_; rotate_left; (focus (intro w' hg; refine Box.exec_load1 (off := 3) ?_ Tryz.underlying3 rfl (BE.out.chg (Chg.trans (Chg.refl (fun _ => False) _) hg) id) ?_; (all_goals (first | exact ⟨rfl, rfl⟩ | rfl)))); simp only [Act.put, L0, L1, L2]) | (refine Evo2.val ok 4 ?_ ?_ ?_; rotate_left; (focus (intro w' hg; refine Box.exec_load1 (off := 1) ?_ Tryz.underlying9 rfl (BE.out.chg (Chg.trans (Chg.refl (fun _ => False) _) hg) id) ?_; (all_goals (first | exact ⟨rfl, rfl⟩ | rfl)))); simp only [Act.put, L0, L1, L2]) | (refine Evo2.val ok 4 ?_ ?_ ?_; rotate_left; (focus (intro w' hg; refine Box.exec_load1 (off := 2) ?_ Tryz.underlying9 rfl (BE.out.chg (Chg.trans (Chg.refl (fun _ => False) _) hg) id) ?_; (all_goals (first | exact ⟨rfl, rfl⟩ | rfl)))); simp only [Act.put, L0, L1, L2]) | (refine Evo2.val ok 4 ?_ ?_ ?_; rotate_left; (focus (intro w' hg; refine Box.exec_load1 (off := 4) ?_ Tryz.underlying3 rfl (BE.out.chg (Chg.trans (Chg.refl (fun _ => False) _) hg) id) ?_; (all_goals (first | exact ⟨rfl, rfl⟩ | rfl)))); simp only [Act.put, L0, L1, L2]) | (refine Evo2.va ok 4 _ _ ?_)
   (refine Evo2.cal ok 5 ?_ 40 ?_ ?_ ?_ ?_; rotate_left 2; (focus (intro w'; go_simp <;> with_reducible rfl)); (focus (intro w' g'; with_reducible exact NAv.out w')); simp only [Act.put, L0, L1, L2])
   (refine Evo2.cal ok 6 ?_ 39 ?_ ?_ ?_ ?_; rotate_left 2; (focus (intro w'; go_simp <;> with_reducible rfl)); (focus (intro w' g'; with_reducible exact rnamed_v _ w')); simp only [Act.put, L0, L1, L2])
   refine Evo2.va ok 7 _ _ ?_
   first | (refine Evo2.val ok 8 ?_ ?_ ?_; rotate_left; (focus (intro w' hg; refine Box.exec_load1 (off := 3) ?_ Tryz.underlying3 rfl (BE.out.chg (Chg.trans (Chg.refl (fun _ => False) _) hg) id) ?_; (all_goals (first | exact ⟨rfl, rfl⟩ | rfl)))); simp only [Act.put, L0, L1, L2]) | (refine Evo2.val ok 8 ?_ ?_ ?_; rotate_left; (focus (intro w' hg; refine Box.exec_load1 (off := 1) ?_ Tryz.underlying9 rfl (BE.out.chg (Chg.trans (Chg.refl (fun _ => False) _) hg) id) ?_; (all_goals (first | exact ⟨rfl, rfl⟩ | rfl)))); simp only [Act.put, L0, L1, L2]) | (refine Evo2.val ok 8 ?_ ?_ ?_; rotate_left; (focus (intro w' hg; refine Box.exec_load1 (off := 2) ?_ Tryz.underlying9 rfl (BE.out.chg (Chg.trans (Chg.refl (fun _ => False) _) hg) id) ?_; (all_goals (first | exact ⟨rfl, rfl⟩ | rfl)))); simp only [Act.put, L0, L1, L2]) | (refine Evo2.val ok 8 ?_ ?_ ?_; rotate_left; (focus (intro w' hg; refine Box.exec_load1 (off := 4) ?_ Tryz.underlying3 rfl (BE.out.chg (Chg.trans (Chg.refl (fun _ => False) _) hg) id) ?_; (all_goals (first | exact ⟨rfl, rfl⟩ | rfl)))); simp only [Act.put, L0, L1, L2]) | (refine Evo2.va ok 8 _ _ ?_)
   refine Evo2.va ok 9 _ _ ?_
   refine Evo2.va ok 10 _ _ ?_
   first | (refine Evo2.va ok 11 _ _ ?_) | (refine Evo2.vi ok 11 _ ?_)
   first | (refine Evo2.val ok 12 ?_ ?_ ?_; rotate_left; (focus (intro w' hg; refine Box.exec_load1 (off := 3) ?_ Tryz.underlying3 rfl (BE.out.chg (Chg.trans (Chg.refl (fun _ => False) _) hg) id) ?_; (all_goals (first | exact ⟨rfl, rfl⟩ | rfl)))); simp only [Act.put, L0, L1, L2]) | (refine Evo2.val ok 12 ?_ ?_ ?_; rotate_left; (focus (intro w' hg; refine Box.exec_load1 (off := 1) ?_ Tryz.underlying9 rfl (BE.out.chg (Chg.trans (Chg.refl (fun _ => False) _) hg) id) ?_; (all_goals (first | exact ⟨rfl, rfl⟩ | rfl)))); simp only [Act.put, L0, L1, L2]) | (refine Evo2.val ok 12 ?_ ?_ ?_; rotate_left; (focus (intro w' hg; refine Box.exec_load1 (off := 2) ?_ Tryz.underlying9 rfl (BE.out.chg (Chg.trans (Chg.refl (fun _ => False) _) hg) id) ?_; (all_goals (first | exact ⟨rfl, rfl⟩ | rfl)))); simp only [Act.put, L0, L1, L2]) | (refine Evo2.val ok 12 ?_ ?_ ?_; rotate_left; (focus (intro w' hg; refine Box.exec_load1 (off := 4) ?_ Tryz.underlying3 rfl (BE.out.chg (Chg.trans (Chg.refl (fun _ => False) _) hg) id) ?_; (all_goals (first | exact ⟨rfl, rfl⟩ | rfl)))); simp only [Act.put, L0, L1, L2]) | (refine Evo2.va ok 12 _ _ ?_) | (refine Evo2.vi ok 12 _ ?_)
   first | (refine Evo2.cal ok 13 ?_ 41 ?_ ?_ ?_ ?_; rotate_left 2; (focus (intro w'; go_simp <;> with_reducible rfl)); (focus (intro w' g'; with_reducible exact TAv.out w')); simp only [Act.put, L0, L1, L2]) | (refine Evo2.vi ok 13 _ ?_)
   refine Evo2.va ok 14 _ _ ?_
   (refine Evo2.cal ok 15 ?_ 39 ?_ ?_ ?_ ?_; rotate_left 2; (focus (intro w'; go_simp <;> with_reducible rfl)); (focus (intro w' g'; with_reducible exact rnamed_v _ w')); simp only [Act.put, L0, L1, L2])
   refine Evo2.va ok 16 _ _ ?_
   first | (refine Evo2.val ok 17 ?_ ?_ ?_; rotate_left; (focus (intro w' hg; refine Box.exec_load1 (off := 3) ?_ Tryz.underlying3 rfl (BE.out.chg (Chg.trans (Chg.refl (fun _ => False) _) hg) id) ?_; (all_goals (first | exact ⟨rfl, rfl⟩ | rfl)))); simp only [Act.put, L0, L1, L2]) | (refine Evo2.val ok 17 ?_ ?_ ?_; rotate_left; (focus (intro w' hg; refine Box.exec_load1 (off := 1) ?_ Tryz.underlying9 rfl (BE.out.chg (Chg.trans (Chg.refl (fun _ => False) _) hg) id) ?_; (all_goals (first | exact ⟨rfl, rfl⟩ | rfl)))); simp only [Act.put, L0, L1, L2]) | (refine Evo2.val ok 17 ?_ ?_ ?_; rotate_left; (focus (intro w' hg; refine Box.exec_load1 (off := 2) ?_ Tryz.underlying9 rfl (BE.out.chg (Chg.trans (Chg.refl (fun _ => False) _) hg) id) ?_; (all_goals (first | exact ⟨rfl, rfl⟩ | rfl)))); simp only [Act.put, L0, L1, L2]) | (refine Evo2.val ok 17 ?_ ?_ ?_; rotate_left; (focus (intro w' hg; refine Box.exec_load1 (off := 4) ?_ Tryz.underlying3 rfl (BE.out.chg (Chg.trans (Chg.refl (fun _ => False) _) hg) id) ?_; (all_goals (first | exact ⟨rfl, rfl⟩ | rfl)))); simp only [Act.put, L0, L1, L2]) | (refine Evo2.va ok 17 _ _ ?_)
   (refine Evo2.cal ok 18 ?_ 36 ?_ ?_ ?_ ?_; rotate_left 2; (focus (intro w'; go_simp <;> with_reducible rfl)); (focus (intro w' g'; with_reducible exact rnumber_v dr 0 w')); simp only [Act.put, L0, L1, L2])
   refine Evo2.all [19] (by decide +kernel) rfl ?_
   intro wp1 gp1 iq hq
   simp only [List.mem_cons, List.mem_nil_iff, or_false] at hq
   have AP1 := Chg.trans (Chg.refl (fun _ => False) _) (Chg.grow gp1)
   subst hq
   refine Evo2.runs (by rfl) (by rfl) (fun K' hK' => ?_)
   go_simp
   (try (simp only [Evo.after_value, Evo.after_skip]))
   refine hK'.out _ _ ?_
   clear hK'
   simp only [Act.put, L0, L1, L2]
   refine ⟨.inr (Chg.alloc (Chg.refl _ _) _), ?_⟩
   generalize hG1 : World.alloc wp1 _ = wg1
   have GG1 : Grow.G wp1 wg1 := hG1 ▸ Grow.G.alloc (Grow.G.refl _) _
   have NC1 := (congrArg (fun W : World => W.heap[wp1.heap.size]?) hG1).symm.trans (MapKept.heap_alloc wp1 _).1
   have NL1 : wp1.heap.size < wg1.heap.size := by rw [← hG1]; simp
   clear hG1
   (refine Evo2.cal ok 20 ?_ 35 ?_ ?_ ?_ ?_; rotate_left 2; (focus (intro w'; go_simp <;> with_reducible rfl)); (focus (intro w' g'; with_reducible exact rfirst_v [numE n 1, nmdE (nameB 16 nm), nmdE (nameB 8 tg), numE dr 0] _ w' (by simp) (g'.blk NC1 id) (by simp) (n := 4) (by simp))); simp only [Act.put, L0, L1, L2])
   refine Evo2.va ok 21 _ _ ?_
   refine Evo2.done (by decide +kernel) (fun wz gz => ?_)
   have AZ := Chg.trans (Chg.trans AP1 (Chg.grow GG1)) (Chg.grow gz)
   have NC1 := (gz.block _ NL1).trans NC1
   have HM9 := Lib.hid (HM.out.grow (chg_none AZ))
   clear AZ BE
   go_wp2_with fail
   go_ret
   exact ⟨ret_i64 CH3.out.symm, HM9.out.below⟩

set_option maxHeartbeats 8000000 in
theorem rchk_10 (nm tg : ByteArray) (n dr : Int) (cn : ByteArray) (im co mn mx gr : Int) (rn rc : ByteArray) (a : Option Addr) (ts : List Tgt) (c : Nat) (rr : Int) (w : World) (hd : EvBd w (⟨10, nm, tg, n, dr, ⟨cn, im, co, mn, mx, gr⟩, rn, rc, ts, rr⟩ : EvD) a) :
  Calls Tryz.prog 15 #[.agg #[.int .i64 10, .string nm, .string tg, .int .i64 n, .int .i64 dr, .string cn, .int .i64 im, .int .i64 co, .int .i64 mn, .int .i64 mx, .int .i64 gr, .string rn, .string rc, .slice a ts.length c, .int .i64 rr]] w fun x w' => x = .returned (.int .i64 (⟨10, nm, tg, n, dr, ⟨cn, im, co, mn, mx, gr⟩, rn, rc, ts, rr⟩ : EvD).chk) ∧ Grow.G w w' := by
 have CE : (Tryz.prog.info? 28).map (·.size) = some 15 := by kernel_rfl
 have CC : (Tryz.prog.info? 23).map (·.size) = some 6 := by kernel_rfl
 have CR : (Tryz.prog.info? 26).map (·.size) = some 4 := by kernel_rfl
 have KP : (⟨10, nm, tg, n, dr, ⟨cn, im, co, mn, mx, gr⟩, rn, rc, ts, rr⟩ : EvD).kept = ({ ev0 with k := 10, nm := nm } : EvD) := by simp only [EvD.kept, Int.reduceEq, Int.reduceLE, if_true, if_false, and_true, true_and, and_false, false_and, and_self, ev0]
 have CH : Hid ((⟨10, nm, tg, n, dr, ⟨cn, im, co, mn, mx, gr⟩, rn, rc, ts, rr⟩ : EvD).chk = if (⟨10, nm, tg, n, dr, ⟨cn, im, co, mn, mx, gr⟩, rn, rc, ts, rr⟩ : EvD) ≠ ({ ev0 with k := 10, nm := nm } : EvD) then 2 else nmdE (nameB 16 nm)) := Lib.hid (by
  unfold EvD.chk
  rw [KP]
  simp only [Int.reduceEq, Int.reduceLT, Int.reduceLE, if_true, if_false, or_false, and_true, true_and, and_false, false_and])
 have SM := Lib.hid (fun w (h : TgtSl w a ts) => (show Calls Tryz.prog 21 #[.agg #[.int .i64 10, .string nm, .string tg, .int .i64 n, .int .i64 dr, .string cn, .int .i64 im, .int .i64 co, .int .i64 mn, .int .i64 mx, .int .i64 gr, .string rn, .string rc, .slice a ts.length c, .int .i64 rr], .agg #[.int .i64 10, .string nm, .string ⟨#[]⟩, .int .i64 0, .int .i64 0, .string ⟨#[]⟩, .int .i64 0, .int .i64 0, .int .i64 0, .int .i64 0, .int .i64 0, .string ⟨#[]⟩, .string ⟨#[]⟩, .slice none 0 0, .int .i64 0]] w fun x w' => x = .returned (.bool (evB (⟨10, nm, tg, n, dr, ⟨cn, im, co, mn, mx, gr⟩, rn, rc, ts, rr⟩ : EvD) ({ ev0 with k := 10, nm := nm } : EvD))) ∧ Below w.heap.size w w' from rsame3_any (⟨10, nm, tg, n, dr, ⟨cn, im, co, mn, mx, gr⟩, rn, rc, ts, rr⟩ : EvD) ({ ev0 with k := 10, nm := nm } : EvD) a c none 0 w h (.inl rfl) hd.tl))
 have EI : Hid (evB (⟨10, nm, tg, n, dr, ⟨cn, im, co, mn, mx, gr⟩, rn, rc, ts, rr⟩ : EvD) ({ ev0 with k := 10, nm := nm } : EvD) = true ↔ (⟨10, nm, tg, n, dr, ⟨cn, im, co, mn, mx, gr⟩, rn, rc, ts, rr⟩ : EvD) = ({ ev0 with k := 10, nm := nm } : EvD)) := Lib.hid evB_iff
 have KT := Lib.hid (fun w => rkept_10 nm tg n dr cn im co mn mx gr rn rc a ts c rr w)
 have HTS := Lib.hid hd.ts
 have s1 : nm.size ≤ 281474976710655 := by have := hd.nm; dsimp only at this; omega
 have s2 : nm.size ≤ maxLen := by have := hd.nm; dsimp only at this; unfold maxLen; omega
 have s3 : tg.size ≤ maxLen := by have := hd.tg; dsimp only at this; unfold maxLen; omega
 have s4 : cn.size ≤ maxLen := by have := hd.cn; dsimp only at this; unfold maxLen; omega
 have SP := Lib.hid (fun w => rsplit_any nm w s1)
 have NA := Lib.hid (fun w => rname_any nm w s2)
 have NAv := Lib.hid (fun w => grow_v (rname_any nm w s2))
 have TAv := Lib.hid (fun w => grow_v (rtag_any tg w s3))
 have CF := Lib.hid (fun w => rconfig_at cn im co mn mx gr w s4)
 have RT := Lib.hid (fun w h => rroute_at rn rc a ts ts.length c rr w (routeE rn rc ts rr) rfl hd.rn hd.rc hd.tl h hd.ok rfl)
 generalize evB (⟨10, nm, tg, n, dr, ⟨cn, im, co, mn, mx, gr⟩, rn, rc, ts, rr⟩ : EvD) ({ ev0 with k := 10, nm := nm } : EvD) = b at *
 generalize (⟨10, nm, tg, n, dr, ⟨cn, im, co, mn, mx, gr⟩, rn, rc, ts, rr⟩ : EvD).chk = ck at *
 clear hd KP s1 s2 s3 s4
 go_enter Tryz.func15, Tryz.ntmps15
 go_wp2_with fail
 have HMa := Lib.hid (Mem.alloc' (Mem.nil w) [.int .i64 10, .string nm, .string tg, .int .i64 n, .int .i64 dr, .string cn, .int .i64 im, .int .i64 co, .int .i64 mn, .int .i64 mx, .int .i64 gr, .string rn, .string rc, .slice a ts.length c, .int .i64 rr] 28 (g := w.heap.size) rfl)
 have HTa := Lib.hid (HTS.out.later (show Grow.G w (w.alloc (.cells #[.int .i64 10, .string nm, .string tg, .int .i64 n, .int .i64 dr, .string cn, .int .i64 im, .int .i64 co, .int .i64 mn, .int .i64 mx, .int .i64 gr, .string rn, .string rc, .slice a ts.length c, .int .i64 rr] 28)) from Grow.G.alloc (Grow.G.refl _) _))
 obtain ⟨W, hW⟩ : ∃ W, W = w.alloc (.cells #[.int .i64 10, .string nm, .string tg, .int .i64 n, .int .i64 dr, .string cn, .int .i64 im, .int .i64 co, .int .i64 mn, .int .i64 mx, .int .i64 gr, .string rn, .string rc, .slice a ts.length c, .int .i64 rr] 28) := ⟨_, rfl⟩
 rw [← hW] at HMa HTa ⊢
 clear hW HTS
 have BE := Lib.hid (HMa.out.blk (i := 0) rfl)
 refine Evo2.start' (ℓ := none) (S := Chg (fun _ => False)) (E := Grow.G) (by kernel_rfl) ⟨Chg.pre _, by decide +kernel, (by intro c a d v w h; cases d <;> exact h), by decide +kernel⟩ (fun ok => ?_)
 first | (refine Evo2.val ok 0 ?_ ?_ ?_; rotate_left; (focus (intro w' hg; refine Box.exec_loadAll ?_ Tryz.underlying28 CE (BE.out.chg (Chg.trans (Chg.refl (fun _ => False) _) hg) id) ?_; (all_goals (first | exact ⟨rfl, rfl⟩ | rfl)))); simp only [Act.put, L0, L1, L2]) | (refine Evo2.va ok 0 _ _ ?_)
 first | (refine Evo2.val ok 1 ?_ ?_ ?_; rotate_left; (focus (intro w' hg; refine Box.exec_loadAll ?_ Tryz.underlying28 CE (BE.out.chg (Chg.trans (Chg.refl (fun _ => False) _) hg) id) ?_; (all_goals (first | exact ⟨rfl, rfl⟩ | rfl)))); simp only [Act.put, L0, L1, L2]) | (refine Evo2.va ok 1 _ _ ?_)
 (refine Evo2.cal ok 2 ?_ 33 ?_ ?_ ?_ ?_; rotate_left 2; (focus (intro w'; go_simp <;> with_reducible rfl)); (focus (intro w' g'; with_reducible exact KT.out w')); simp only [Act.put, L0, L1, L2])
 (refine Evo2.cal ok 3 ?_ 21 ?_ ?_ ?_ ?_; rotate_left 2; (focus (intro w'; go_simp <;> with_reducible rfl)); (focus (intro w' g'; with_reducible exact SM.out w' (HTa.out.chg (Chg.trans (Chg.refl (fun _ => False) _) g') (fun _ _ _ => id)))); simp only [Act.put, L0, L1, L2])
 refine Evo2.va ok 4 _ _ ?_
 refine Evo2.done (by decide +kernel) (fun wz gz => ?_)
 have AZ := Chg.trans (Chg.refl (fun _ => False) _) (Chg.grow gz)
 have HM := Lib.hid (HMa.out.grow (chg_none AZ))
 have HT := Lib.hid (HTa.out.later (chg_none AZ))
 clear AZ BE HMa HTa gz KT SM
 cases b with
 | false =>
  have CH2 : Hid (ck = 2) := Lib.hid (by rw [CH.out, if_pos (fun e => by have := EI.out.2 e; cases this)])
  clear CH EI
  go_wp2_with (first | (refine Mem.load1 0 (t := 3) rfl rfl rfl Tryz.underlying3 rfl HM.out rfl rfl ?_) | (refine Mem.load1 0 (t := 9) rfl rfl rfl Tryz.underlying9 rfl HM.out rfl rfl ?_))
  go_ret
  exact ⟨ret_i64 CH2.out.symm, HM.out.below⟩
 | true =>
  have CH2 : Hid (ck = nmdE (nameB 16 nm)) := Lib.hid (by rw [CH.out, if_neg (fun h => h (EI.out.1 rfl))])
  clear CH EI
  go_wp2_with (first | (refine Mem.load1 0 (t := 3) rfl rfl rfl Tryz.underlying3 rfl HM.out rfl rfl ?_) | (refine Mem.load1 0 (t := 9) rfl rfl rfl Tryz.underlying9 rfl HM.out rfl rfl ?_))
  refine (SP.out _).mono ?_
  rintro e wx ⟨hsp, rfl⟩
  obtain ⟨s0, m0, rfl⟩ := hsp.isB
  clear hsp
  go_wp2_with (first | (refine Mem.load1 0 (t := 3) rfl rfl rfl Tryz.underlying3 rfl HM.out rfl rfl ?_) | (refine Mem.load1 0 (t := 9) rfl rfl rfl Tryz.underlying9 rfl HM.out rfl rfl ?_))
  refine (NA.out _).mono ?_
  rintro e wx ⟨rfl, rfl⟩
  go_wp2_with (first | (refine Mem.load1 0 (t := 3) rfl rfl rfl Tryz.underlying3 rfl HM.out rfl rfl ?_) | (refine Mem.load1 0 (t := 9) rfl rfl rfl Tryz.underlying9 rfl HM.out rfl rfl ?_))
  refine (rnamedE_any _ _).mono ?_
  rintro e wx ⟨rfl, rfl⟩
  go_wp2_with (first | (refine Mem.load1 0 (t := 3) rfl rfl rfl Tryz.underlying3 rfl HM.out rfl rfl ?_) | (refine Mem.load1 0 (t := 9) rfl rfl rfl Tryz.underlying9 rfl HM.out rfl rfl ?_))
  go_ret
  exact ⟨ret_i64 CH2.out.symm, HM.out.below⟩

set_option maxHeartbeats 8000000 in
theorem rchk_11 (nm tg : ByteArray) (n dr : Int) (cn : ByteArray) (im co mn mx gr : Int) (rn rc : ByteArray) (a : Option Addr) (ts : List Tgt) (c : Nat) (rr : Int) (w : World) (hd : EvBd w (⟨11, nm, tg, n, dr, ⟨cn, im, co, mn, mx, gr⟩, rn, rc, ts, rr⟩ : EvD) a) :
  Calls Tryz.prog 15 #[.agg #[.int .i64 11, .string nm, .string tg, .int .i64 n, .int .i64 dr, .string cn, .int .i64 im, .int .i64 co, .int .i64 mn, .int .i64 mx, .int .i64 gr, .string rn, .string rc, .slice a ts.length c, .int .i64 rr]] w fun x w' => x = .returned (.int .i64 (⟨11, nm, tg, n, dr, ⟨cn, im, co, mn, mx, gr⟩, rn, rc, ts, rr⟩ : EvD).chk) ∧ Grow.G w w' := by
 have CE : (Tryz.prog.info? 28).map (·.size) = some 15 := by kernel_rfl
 have CC : (Tryz.prog.info? 23).map (·.size) = some 6 := by kernel_rfl
 have CR : (Tryz.prog.info? 26).map (·.size) = some 4 := by kernel_rfl
 have KP : (⟨11, nm, tg, n, dr, ⟨cn, im, co, mn, mx, gr⟩, rn, rc, ts, rr⟩ : EvD).kept = ({ ev0 with k := 11, nm := nm } : EvD) := by simp only [EvD.kept, Int.reduceEq, Int.reduceLE, if_true, if_false, and_true, true_and, and_false, false_and, and_self, ev0]
 have CH : Hid ((⟨11, nm, tg, n, dr, ⟨cn, im, co, mn, mx, gr⟩, rn, rc, ts, rr⟩ : EvD).chk = if (⟨11, nm, tg, n, dr, ⟨cn, im, co, mn, mx, gr⟩, rn, rc, ts, rr⟩ : EvD) ≠ ({ ev0 with k := 11, nm := nm } : EvD) then 2 else nmdE (nameB 16 nm)) := Lib.hid (by
  unfold EvD.chk
  rw [KP]
  simp only [Int.reduceEq, Int.reduceLT, Int.reduceLE, if_true, if_false, or_false, and_true, true_and, and_false, false_and])
 have SM := Lib.hid (fun w (h : TgtSl w a ts) => (show Calls Tryz.prog 21 #[.agg #[.int .i64 11, .string nm, .string tg, .int .i64 n, .int .i64 dr, .string cn, .int .i64 im, .int .i64 co, .int .i64 mn, .int .i64 mx, .int .i64 gr, .string rn, .string rc, .slice a ts.length c, .int .i64 rr], .agg #[.int .i64 11, .string nm, .string ⟨#[]⟩, .int .i64 0, .int .i64 0, .string ⟨#[]⟩, .int .i64 0, .int .i64 0, .int .i64 0, .int .i64 0, .int .i64 0, .string ⟨#[]⟩, .string ⟨#[]⟩, .slice none 0 0, .int .i64 0]] w fun x w' => x = .returned (.bool (evB (⟨11, nm, tg, n, dr, ⟨cn, im, co, mn, mx, gr⟩, rn, rc, ts, rr⟩ : EvD) ({ ev0 with k := 11, nm := nm } : EvD))) ∧ Below w.heap.size w w' from rsame3_any (⟨11, nm, tg, n, dr, ⟨cn, im, co, mn, mx, gr⟩, rn, rc, ts, rr⟩ : EvD) ({ ev0 with k := 11, nm := nm } : EvD) a c none 0 w h (.inl rfl) hd.tl))
 have EI : Hid (evB (⟨11, nm, tg, n, dr, ⟨cn, im, co, mn, mx, gr⟩, rn, rc, ts, rr⟩ : EvD) ({ ev0 with k := 11, nm := nm } : EvD) = true ↔ (⟨11, nm, tg, n, dr, ⟨cn, im, co, mn, mx, gr⟩, rn, rc, ts, rr⟩ : EvD) = ({ ev0 with k := 11, nm := nm } : EvD)) := Lib.hid evB_iff
 have KT := Lib.hid (fun w => rkept_11 nm tg n dr cn im co mn mx gr rn rc a ts c rr w)
 have HTS := Lib.hid hd.ts
 have s1 : nm.size ≤ 281474976710655 := by have := hd.nm; dsimp only at this; omega
 have s2 : nm.size ≤ maxLen := by have := hd.nm; dsimp only at this; unfold maxLen; omega
 have s3 : tg.size ≤ maxLen := by have := hd.tg; dsimp only at this; unfold maxLen; omega
 have s4 : cn.size ≤ maxLen := by have := hd.cn; dsimp only at this; unfold maxLen; omega
 have SP := Lib.hid (fun w => rsplit_any nm w s1)
 have NA := Lib.hid (fun w => rname_any nm w s2)
 have NAv := Lib.hid (fun w => grow_v (rname_any nm w s2))
 have TAv := Lib.hid (fun w => grow_v (rtag_any tg w s3))
 have CF := Lib.hid (fun w => rconfig_at cn im co mn mx gr w s4)
 have RT := Lib.hid (fun w h => rroute_at rn rc a ts ts.length c rr w (routeE rn rc ts rr) rfl hd.rn hd.rc hd.tl h hd.ok rfl)
 generalize evB (⟨11, nm, tg, n, dr, ⟨cn, im, co, mn, mx, gr⟩, rn, rc, ts, rr⟩ : EvD) ({ ev0 with k := 11, nm := nm } : EvD) = b at *
 generalize (⟨11, nm, tg, n, dr, ⟨cn, im, co, mn, mx, gr⟩, rn, rc, ts, rr⟩ : EvD).chk = ck at *
 clear hd KP s1 s2 s3 s4
 go_enter Tryz.func15, Tryz.ntmps15
 go_wp2_with fail
 have HMa := Lib.hid (Mem.alloc' (Mem.nil w) [.int .i64 11, .string nm, .string tg, .int .i64 n, .int .i64 dr, .string cn, .int .i64 im, .int .i64 co, .int .i64 mn, .int .i64 mx, .int .i64 gr, .string rn, .string rc, .slice a ts.length c, .int .i64 rr] 28 (g := w.heap.size) rfl)
 have HTa := Lib.hid (HTS.out.later (show Grow.G w (w.alloc (.cells #[.int .i64 11, .string nm, .string tg, .int .i64 n, .int .i64 dr, .string cn, .int .i64 im, .int .i64 co, .int .i64 mn, .int .i64 mx, .int .i64 gr, .string rn, .string rc, .slice a ts.length c, .int .i64 rr] 28)) from Grow.G.alloc (Grow.G.refl _) _))
 obtain ⟨W, hW⟩ : ∃ W, W = w.alloc (.cells #[.int .i64 11, .string nm, .string tg, .int .i64 n, .int .i64 dr, .string cn, .int .i64 im, .int .i64 co, .int .i64 mn, .int .i64 mx, .int .i64 gr, .string rn, .string rc, .slice a ts.length c, .int .i64 rr] 28) := ⟨_, rfl⟩
 rw [← hW] at HMa HTa ⊢
 clear hW HTS
 have BE := Lib.hid (HMa.out.blk (i := 0) rfl)
 refine Evo2.start' (ℓ := none) (S := Chg (fun _ => False)) (E := Grow.G) (by kernel_rfl) ⟨Chg.pre _, by decide +kernel, (by intro c a d v w h; cases d <;> exact h), by decide +kernel⟩ (fun ok => ?_)
 first | (refine Evo2.val ok 0 ?_ ?_ ?_; rotate_left; (focus (intro w' hg; refine Box.exec_loadAll ?_ Tryz.underlying28 CE (BE.out.chg (Chg.trans (Chg.refl (fun _ => False) _) hg) id) ?_; (all_goals (first | exact ⟨rfl, rfl⟩ | rfl)))); simp only [Act.put, L0, L1, L2]) | (refine Evo2.va ok 0 _ _ ?_)
 first | (refine Evo2.val ok 1 ?_ ?_ ?_; rotate_left; (focus (intro w' hg; refine Box.exec_loadAll ?_ Tryz.underlying28 CE (BE.out.chg (Chg.trans (Chg.refl (fun _ => False) _) hg) id) ?_; (all_goals (first | exact ⟨rfl, rfl⟩ | rfl)))); simp only [Act.put, L0, L1, L2]) | (refine Evo2.va ok 1 _ _ ?_)
 (refine Evo2.cal ok 2 ?_ 33 ?_ ?_ ?_ ?_; rotate_left 2; (focus (intro w'; go_simp <;> with_reducible rfl)); (focus (intro w' g'; with_reducible exact KT.out w')); simp only [Act.put, L0, L1, L2])
 (refine Evo2.cal ok 3 ?_ 21 ?_ ?_ ?_ ?_; rotate_left 2; (focus (intro w'; go_simp <;> with_reducible rfl)); (focus (intro w' g'; with_reducible exact SM.out w' (HTa.out.chg (Chg.trans (Chg.refl (fun _ => False) _) g') (fun _ _ _ => id)))); simp only [Act.put, L0, L1, L2])
 refine Evo2.va ok 4 _ _ ?_
 refine Evo2.done (by decide +kernel) (fun wz gz => ?_)
 have AZ := Chg.trans (Chg.refl (fun _ => False) _) (Chg.grow gz)
 have HM := Lib.hid (HMa.out.grow (chg_none AZ))
 have HT := Lib.hid (HTa.out.later (chg_none AZ))
 clear AZ BE HMa HTa gz KT SM
 cases b with
 | false =>
  have CH2 : Hid (ck = 2) := Lib.hid (by rw [CH.out, if_pos (fun e => by have := EI.out.2 e; cases this)])
  clear CH EI
  go_wp2_with (first | (refine Mem.load1 0 (t := 3) rfl rfl rfl Tryz.underlying3 rfl HM.out rfl rfl ?_) | (refine Mem.load1 0 (t := 9) rfl rfl rfl Tryz.underlying9 rfl HM.out rfl rfl ?_))
  go_ret
  exact ⟨ret_i64 CH2.out.symm, HM.out.below⟩
 | true =>
  have CH2 : Hid (ck = nmdE (nameB 16 nm)) := Lib.hid (by rw [CH.out, if_neg (fun h => h (EI.out.1 rfl))])
  clear CH EI
  go_wp2_with (first | (refine Mem.load1 0 (t := 3) rfl rfl rfl Tryz.underlying3 rfl HM.out rfl rfl ?_) | (refine Mem.load1 0 (t := 9) rfl rfl rfl Tryz.underlying9 rfl HM.out rfl rfl ?_))
  refine (SP.out _).mono ?_
  rintro e wx ⟨hsp, rfl⟩
  obtain ⟨s0, m0, rfl⟩ := hsp.isB
  clear hsp
  go_wp2_with (first | (refine Mem.load1 0 (t := 3) rfl rfl rfl Tryz.underlying3 rfl HM.out rfl rfl ?_) | (refine Mem.load1 0 (t := 9) rfl rfl rfl Tryz.underlying9 rfl HM.out rfl rfl ?_))
  refine (NA.out _).mono ?_
  rintro e wx ⟨rfl, rfl⟩
  go_wp2_with (first | (refine Mem.load1 0 (t := 3) rfl rfl rfl Tryz.underlying3 rfl HM.out rfl rfl ?_) | (refine Mem.load1 0 (t := 9) rfl rfl rfl Tryz.underlying9 rfl HM.out rfl rfl ?_))
  refine (rnamedE_any _ _).mono ?_
  rintro e wx ⟨rfl, rfl⟩
  go_wp2_with (first | (refine Mem.load1 0 (t := 3) rfl rfl rfl Tryz.underlying3 rfl HM.out rfl rfl ?_) | (refine Mem.load1 0 (t := 9) rfl rfl rfl Tryz.underlying9 rfl HM.out rfl rfl ?_))
  go_ret
  exact ⟨ret_i64 CH2.out.symm, HM.out.below⟩

set_option maxHeartbeats 8000000 in
theorem rchk_12 (nm tg : ByteArray) (n dr : Int) (cn : ByteArray) (im co mn mx gr : Int) (rn rc : ByteArray) (a : Option Addr) (ts : List Tgt) (c : Nat) (rr : Int) (w : World) (hd : EvBd w (⟨12, nm, tg, n, dr, ⟨cn, im, co, mn, mx, gr⟩, rn, rc, ts, rr⟩ : EvD) a) :
  Calls Tryz.prog 15 #[.agg #[.int .i64 12, .string nm, .string tg, .int .i64 n, .int .i64 dr, .string cn, .int .i64 im, .int .i64 co, .int .i64 mn, .int .i64 mx, .int .i64 gr, .string rn, .string rc, .slice a ts.length c, .int .i64 rr]] w fun x w' => x = .returned (.int .i64 (⟨12, nm, tg, n, dr, ⟨cn, im, co, mn, mx, gr⟩, rn, rc, ts, rr⟩ : EvD).chk) ∧ Grow.G w w' := by
 have CE : (Tryz.prog.info? 28).map (·.size) = some 15 := by kernel_rfl
 have CC : (Tryz.prog.info? 23).map (·.size) = some 6 := by kernel_rfl
 have CR : (Tryz.prog.info? 26).map (·.size) = some 4 := by kernel_rfl
 have KP : (⟨12, nm, tg, n, dr, ⟨cn, im, co, mn, mx, gr⟩, rn, rc, ts, rr⟩ : EvD).kept = ({ ev0 with k := 12, nm := nm } : EvD) := by simp only [EvD.kept, Int.reduceEq, Int.reduceLE, if_true, if_false, and_true, true_and, and_false, false_and, and_self, ev0]
 have CH : Hid ((⟨12, nm, tg, n, dr, ⟨cn, im, co, mn, mx, gr⟩, rn, rc, ts, rr⟩ : EvD).chk = if (⟨12, nm, tg, n, dr, ⟨cn, im, co, mn, mx, gr⟩, rn, rc, ts, rr⟩ : EvD) ≠ ({ ev0 with k := 12, nm := nm } : EvD) then 2 else nmdE (revB nm)) := Lib.hid (by
  unfold EvD.chk
  rw [KP]
  simp only [Int.reduceEq, Int.reduceLT, Int.reduceLE, if_true, if_false, or_false, and_true, true_and, and_false, false_and])
 have SM := Lib.hid (fun w (h : TgtSl w a ts) => (show Calls Tryz.prog 21 #[.agg #[.int .i64 12, .string nm, .string tg, .int .i64 n, .int .i64 dr, .string cn, .int .i64 im, .int .i64 co, .int .i64 mn, .int .i64 mx, .int .i64 gr, .string rn, .string rc, .slice a ts.length c, .int .i64 rr], .agg #[.int .i64 12, .string nm, .string ⟨#[]⟩, .int .i64 0, .int .i64 0, .string ⟨#[]⟩, .int .i64 0, .int .i64 0, .int .i64 0, .int .i64 0, .int .i64 0, .string ⟨#[]⟩, .string ⟨#[]⟩, .slice none 0 0, .int .i64 0]] w fun x w' => x = .returned (.bool (evB (⟨12, nm, tg, n, dr, ⟨cn, im, co, mn, mx, gr⟩, rn, rc, ts, rr⟩ : EvD) ({ ev0 with k := 12, nm := nm } : EvD))) ∧ Below w.heap.size w w' from rsame3_any (⟨12, nm, tg, n, dr, ⟨cn, im, co, mn, mx, gr⟩, rn, rc, ts, rr⟩ : EvD) ({ ev0 with k := 12, nm := nm } : EvD) a c none 0 w h (.inl rfl) hd.tl))
 have EI : Hid (evB (⟨12, nm, tg, n, dr, ⟨cn, im, co, mn, mx, gr⟩, rn, rc, ts, rr⟩ : EvD) ({ ev0 with k := 12, nm := nm } : EvD) = true ↔ (⟨12, nm, tg, n, dr, ⟨cn, im, co, mn, mx, gr⟩, rn, rc, ts, rr⟩ : EvD) = ({ ev0 with k := 12, nm := nm } : EvD)) := Lib.hid evB_iff
 have KT := Lib.hid (fun w => rkept_12 nm tg n dr cn im co mn mx gr rn rc a ts c rr w)
 have HTS := Lib.hid hd.ts
 have s1 : nm.size ≤ 281474976710655 := by have := hd.nm; dsimp only at this; omega
 have s2 : nm.size ≤ maxLen := by have := hd.nm; dsimp only at this; unfold maxLen; omega
 have s3 : tg.size ≤ maxLen := by have := hd.tg; dsimp only at this; unfold maxLen; omega
 have s4 : cn.size ≤ maxLen := by have := hd.cn; dsimp only at this; unfold maxLen; omega
 have SP := Lib.hid (fun w => rsplit_any nm w s1)
 have NA := Lib.hid (fun w => rname_any nm w s2)
 have NAv := Lib.hid (fun w => grow_v (rname_any nm w s2))
 have TAv := Lib.hid (fun w => grow_v (rtag_any tg w s3))
 have CF := Lib.hid (fun w => rconfig_at cn im co mn mx gr w s4)
 have RT := Lib.hid (fun w h => rroute_at rn rc a ts ts.length c rr w (routeE rn rc ts rr) rfl hd.rn hd.rc hd.tl h hd.ok rfl)
 generalize evB (⟨12, nm, tg, n, dr, ⟨cn, im, co, mn, mx, gr⟩, rn, rc, ts, rr⟩ : EvD) ({ ev0 with k := 12, nm := nm } : EvD) = b at *
 generalize (⟨12, nm, tg, n, dr, ⟨cn, im, co, mn, mx, gr⟩, rn, rc, ts, rr⟩ : EvD).chk = ck at *
 clear hd KP s1 s2 s3 s4
 go_enter Tryz.func15, Tryz.ntmps15
 go_wp2_with fail
 have HMa := Lib.hid (Mem.alloc' (Mem.nil w) [.int .i64 12, .string nm, .string tg, .int .i64 n, .int .i64 dr, .string cn, .int .i64 im, .int .i64 co, .int .i64 mn, .int .i64 mx, .int .i64 gr, .string rn, .string rc, .slice a ts.length c, .int .i64 rr] 28 (g := w.heap.size) rfl)
 have HTa := Lib.hid (HTS.out.later (show Grow.G w (w.alloc (.cells #[.int .i64 12, .string nm, .string tg, .int .i64 n, .int .i64 dr, .string cn, .int .i64 im, .int .i64 co, .int .i64 mn, .int .i64 mx, .int .i64 gr, .string rn, .string rc, .slice a ts.length c, .int .i64 rr] 28)) from Grow.G.alloc (Grow.G.refl _) _))
 obtain ⟨W, hW⟩ : ∃ W, W = w.alloc (.cells #[.int .i64 12, .string nm, .string tg, .int .i64 n, .int .i64 dr, .string cn, .int .i64 im, .int .i64 co, .int .i64 mn, .int .i64 mx, .int .i64 gr, .string rn, .string rc, .slice a ts.length c, .int .i64 rr] 28) := ⟨_, rfl⟩
 rw [← hW] at HMa HTa ⊢
 clear hW HTS
 have BE := Lib.hid (HMa.out.blk (i := 0) rfl)
 refine Evo2.start' (ℓ := none) (S := Chg (fun _ => False)) (E := Grow.G) (by kernel_rfl) ⟨Chg.pre _, by decide +kernel, (by intro c a d v w h; cases d <;> exact h), by decide +kernel⟩ (fun ok => ?_)
 first | (refine Evo2.val ok 0 ?_ ?_ ?_; rotate_left; (focus (intro w' hg; refine Box.exec_loadAll ?_ Tryz.underlying28 CE (BE.out.chg (Chg.trans (Chg.refl (fun _ => False) _) hg) id) ?_; (all_goals (first | exact ⟨rfl, rfl⟩ | rfl)))); simp only [Act.put, L0, L1, L2]) | (refine Evo2.va ok 0 _ _ ?_)
 first | (refine Evo2.val ok 1 ?_ ?_ ?_; rotate_left; (focus (intro w' hg; refine Box.exec_loadAll ?_ Tryz.underlying28 CE (BE.out.chg (Chg.trans (Chg.refl (fun _ => False) _) hg) id) ?_; (all_goals (first | exact ⟨rfl, rfl⟩ | rfl)))); simp only [Act.put, L0, L1, L2]) | (refine Evo2.va ok 1 _ _ ?_)
 (refine Evo2.cal ok 2 ?_ 33 ?_ ?_ ?_ ?_; rotate_left 2; (focus (intro w'; go_simp <;> with_reducible rfl)); (focus (intro w' g'; with_reducible exact KT.out w')); simp only [Act.put, L0, L1, L2])
 (refine Evo2.cal ok 3 ?_ 21 ?_ ?_ ?_ ?_; rotate_left 2; (focus (intro w'; go_simp <;> with_reducible rfl)); (focus (intro w' g'; with_reducible exact SM.out w' (HTa.out.chg (Chg.trans (Chg.refl (fun _ => False) _) g') (fun _ _ _ => id)))); simp only [Act.put, L0, L1, L2])
 refine Evo2.va ok 4 _ _ ?_
 refine Evo2.done (by decide +kernel) (fun wz gz => ?_)
 have AZ := Chg.trans (Chg.refl (fun _ => False) _) (Chg.grow gz)
 have HM := Lib.hid (HMa.out.grow (chg_none AZ))
 have HT := Lib.hid (HTa.out.later (chg_none AZ))
 clear AZ BE HMa HTa gz KT SM
 cases b with
 | false =>
  have CH2 : Hid (ck = 2) := Lib.hid (by rw [CH.out, if_pos (fun e => by have := EI.out.2 e; cases this)])
  clear CH EI
  go_wp2_with (first | (refine Mem.load1 0 (t := 3) rfl rfl rfl Tryz.underlying3 rfl HM.out rfl rfl ?_) | (refine Mem.load1 0 (t := 9) rfl rfl rfl Tryz.underlying9 rfl HM.out rfl rfl ?_))
  go_ret
  exact ⟨ret_i64 CH2.out.symm, HM.out.below⟩
 | true =>
  have CH2 : Hid (ck = nmdE (revB nm)) := Lib.hid (by rw [CH.out, if_neg (fun h => h (EI.out.1 rfl))])
  clear CH EI
  go_wp2_with (first | (refine Mem.load1 0 (t := 3) rfl rfl rfl Tryz.underlying3 rfl HM.out rfl rfl ?_) | (refine Mem.load1 0 (t := 9) rfl rfl rfl Tryz.underlying9 rfl HM.out rfl rfl ?_))
  refine (SP.out _).mono ?_
  rintro e wx ⟨hsp, rfl⟩
  obtain ⟨s0, m0, rfl⟩ := hsp.isB
  clear hsp
  go_wp2_with (first | (refine Mem.load1 0 (t := 3) rfl rfl rfl Tryz.underlying3 rfl HM.out rfl rfl ?_) | (refine Mem.load1 0 (t := 9) rfl rfl rfl Tryz.underlying9 rfl HM.out rfl rfl ?_))
  refine (rnamedE_any _ _).mono ?_
  rintro e wx ⟨rfl, rfl⟩
  go_wp2_with (first | (refine Mem.load1 0 (t := 3) rfl rfl rfl Tryz.underlying3 rfl HM.out rfl rfl ?_) | (refine Mem.load1 0 (t := 9) rfl rfl rfl Tryz.underlying9 rfl HM.out rfl rfl ?_))
  go_ret
  exact ⟨ret_i64 CH2.out.symm, HM.out.below⟩

set_option maxHeartbeats 8000000 in
theorem rchk_13 (nm tg : ByteArray) (n dr : Int) (cn : ByteArray) (im co mn mx gr : Int) (rn rc : ByteArray) (a : Option Addr) (ts : List Tgt) (c : Nat) (rr : Int) (w : World) (hd : EvBd w (⟨13, nm, tg, n, dr, ⟨cn, im, co, mn, mx, gr⟩, rn, rc, ts, rr⟩ : EvD) a) :
  Calls Tryz.prog 15 #[.agg #[.int .i64 13, .string nm, .string tg, .int .i64 n, .int .i64 dr, .string cn, .int .i64 im, .int .i64 co, .int .i64 mn, .int .i64 mx, .int .i64 gr, .string rn, .string rc, .slice a ts.length c, .int .i64 rr]] w fun x w' => x = .returned (.int .i64 (⟨13, nm, tg, n, dr, ⟨cn, im, co, mn, mx, gr⟩, rn, rc, ts, rr⟩ : EvD).chk) ∧ Grow.G w w' := by
 have CE : (Tryz.prog.info? 28).map (·.size) = some 15 := by kernel_rfl
 have CC : (Tryz.prog.info? 23).map (·.size) = some 6 := by kernel_rfl
 have CR : (Tryz.prog.info? 26).map (·.size) = some 4 := by kernel_rfl
 have KP : (⟨13, nm, tg, n, dr, ⟨cn, im, co, mn, mx, gr⟩, rn, rc, ts, rr⟩ : EvD).kept = ({ ev0 with k := 13, nm := nm } : EvD) := by simp only [EvD.kept, Int.reduceEq, Int.reduceLE, if_true, if_false, and_true, true_and, and_false, false_and, and_self, ev0]
 have CH : Hid ((⟨13, nm, tg, n, dr, ⟨cn, im, co, mn, mx, gr⟩, rn, rc, ts, rr⟩ : EvD).chk = if (⟨13, nm, tg, n, dr, ⟨cn, im, co, mn, mx, gr⟩, rn, rc, ts, rr⟩ : EvD) ≠ ({ ev0 with k := 13, nm := nm } : EvD) then 2 else nmdE (revB nm)) := Lib.hid (by
  unfold EvD.chk
  rw [KP]
  simp only [Int.reduceEq, Int.reduceLT, Int.reduceLE, if_true, if_false, or_false, and_true, true_and, and_false, false_and])
 have SM := Lib.hid (fun w (h : TgtSl w a ts) => (show Calls Tryz.prog 21 #[.agg #[.int .i64 13, .string nm, .string tg, .int .i64 n, .int .i64 dr, .string cn, .int .i64 im, .int .i64 co, .int .i64 mn, .int .i64 mx, .int .i64 gr, .string rn, .string rc, .slice a ts.length c, .int .i64 rr], .agg #[.int .i64 13, .string nm, .string ⟨#[]⟩, .int .i64 0, .int .i64 0, .string ⟨#[]⟩, .int .i64 0, .int .i64 0, .int .i64 0, .int .i64 0, .int .i64 0, .string ⟨#[]⟩, .string ⟨#[]⟩, .slice none 0 0, .int .i64 0]] w fun x w' => x = .returned (.bool (evB (⟨13, nm, tg, n, dr, ⟨cn, im, co, mn, mx, gr⟩, rn, rc, ts, rr⟩ : EvD) ({ ev0 with k := 13, nm := nm } : EvD))) ∧ Below w.heap.size w w' from rsame3_any (⟨13, nm, tg, n, dr, ⟨cn, im, co, mn, mx, gr⟩, rn, rc, ts, rr⟩ : EvD) ({ ev0 with k := 13, nm := nm } : EvD) a c none 0 w h (.inl rfl) hd.tl))
 have EI : Hid (evB (⟨13, nm, tg, n, dr, ⟨cn, im, co, mn, mx, gr⟩, rn, rc, ts, rr⟩ : EvD) ({ ev0 with k := 13, nm := nm } : EvD) = true ↔ (⟨13, nm, tg, n, dr, ⟨cn, im, co, mn, mx, gr⟩, rn, rc, ts, rr⟩ : EvD) = ({ ev0 with k := 13, nm := nm } : EvD)) := Lib.hid evB_iff
 have KT := Lib.hid (fun w => rkept_13 nm tg n dr cn im co mn mx gr rn rc a ts c rr w)
 have HTS := Lib.hid hd.ts
 have s1 : nm.size ≤ 281474976710655 := by have := hd.nm; dsimp only at this; omega
 have s2 : nm.size ≤ maxLen := by have := hd.nm; dsimp only at this; unfold maxLen; omega
 have s3 : tg.size ≤ maxLen := by have := hd.tg; dsimp only at this; unfold maxLen; omega
 have s4 : cn.size ≤ maxLen := by have := hd.cn; dsimp only at this; unfold maxLen; omega
 have SP := Lib.hid (fun w => rsplit_any nm w s1)
 have NA := Lib.hid (fun w => rname_any nm w s2)
 have NAv := Lib.hid (fun w => grow_v (rname_any nm w s2))
 have TAv := Lib.hid (fun w => grow_v (rtag_any tg w s3))
 have CF := Lib.hid (fun w => rconfig_at cn im co mn mx gr w s4)
 have RT := Lib.hid (fun w h => rroute_at rn rc a ts ts.length c rr w (routeE rn rc ts rr) rfl hd.rn hd.rc hd.tl h hd.ok rfl)
 generalize evB (⟨13, nm, tg, n, dr, ⟨cn, im, co, mn, mx, gr⟩, rn, rc, ts, rr⟩ : EvD) ({ ev0 with k := 13, nm := nm } : EvD) = b at *
 generalize (⟨13, nm, tg, n, dr, ⟨cn, im, co, mn, mx, gr⟩, rn, rc, ts, rr⟩ : EvD).chk = ck at *
 clear hd KP s1 s2 s3 s4
 go_enter Tryz.func15, Tryz.ntmps15
 go_wp2_with fail
 have HMa := Lib.hid (Mem.alloc' (Mem.nil w) [.int .i64 13, .string nm, .string tg, .int .i64 n, .int .i64 dr, .string cn, .int .i64 im, .int .i64 co, .int .i64 mn, .int .i64 mx, .int .i64 gr, .string rn, .string rc, .slice a ts.length c, .int .i64 rr] 28 (g := w.heap.size) rfl)
 have HTa := Lib.hid (HTS.out.later (show Grow.G w (w.alloc (.cells #[.int .i64 13, .string nm, .string tg, .int .i64 n, .int .i64 dr, .string cn, .int .i64 im, .int .i64 co, .int .i64 mn, .int .i64 mx, .int .i64 gr, .string rn, .string rc, .slice a ts.length c, .int .i64 rr] 28)) from Grow.G.alloc (Grow.G.refl _) _))
 obtain ⟨W, hW⟩ : ∃ W, W = w.alloc (.cells #[.int .i64 13, .string nm, .string tg, .int .i64 n, .int .i64 dr, .string cn, .int .i64 im, .int .i64 co, .int .i64 mn, .int .i64 mx, .int .i64 gr, .string rn, .string rc, .slice a ts.length c, .int .i64 rr] 28) := ⟨_, rfl⟩
 rw [← hW] at HMa HTa ⊢
 clear hW HTS
 have BE := Lib.hid (HMa.out.blk (i := 0) rfl)
 refine Evo2.start' (ℓ := none) (S := Chg (fun _ => False)) (E := Grow.G) (by kernel_rfl) ⟨Chg.pre _, by decide +kernel, (by intro c a d v w h; cases d <;> exact h), by decide +kernel⟩ (fun ok => ?_)
 first | (refine Evo2.val ok 0 ?_ ?_ ?_; rotate_left; (focus (intro w' hg; refine Box.exec_loadAll ?_ Tryz.underlying28 CE (BE.out.chg (Chg.trans (Chg.refl (fun _ => False) _) hg) id) ?_; (all_goals (first | exact ⟨rfl, rfl⟩ | rfl)))); simp only [Act.put, L0, L1, L2]) | (refine Evo2.va ok 0 _ _ ?_)
 first | (refine Evo2.val ok 1 ?_ ?_ ?_; rotate_left; (focus (intro w' hg; refine Box.exec_loadAll ?_ Tryz.underlying28 CE (BE.out.chg (Chg.trans (Chg.refl (fun _ => False) _) hg) id) ?_; (all_goals (first | exact ⟨rfl, rfl⟩ | rfl)))); simp only [Act.put, L0, L1, L2]) | (refine Evo2.va ok 1 _ _ ?_)
 (refine Evo2.cal ok 2 ?_ 33 ?_ ?_ ?_ ?_; rotate_left 2; (focus (intro w'; go_simp <;> with_reducible rfl)); (focus (intro w' g'; with_reducible exact KT.out w')); simp only [Act.put, L0, L1, L2])
 (refine Evo2.cal ok 3 ?_ 21 ?_ ?_ ?_ ?_; rotate_left 2; (focus (intro w'; go_simp <;> with_reducible rfl)); (focus (intro w' g'; with_reducible exact SM.out w' (HTa.out.chg (Chg.trans (Chg.refl (fun _ => False) _) g') (fun _ _ _ => id)))); simp only [Act.put, L0, L1, L2])
 refine Evo2.va ok 4 _ _ ?_
 refine Evo2.done (by decide +kernel) (fun wz gz => ?_)
 have AZ := Chg.trans (Chg.refl (fun _ => False) _) (Chg.grow gz)
 have HM := Lib.hid (HMa.out.grow (chg_none AZ))
 have HT := Lib.hid (HTa.out.later (chg_none AZ))
 clear AZ BE HMa HTa gz KT SM
 cases b with
 | false =>
  have CH2 : Hid (ck = 2) := Lib.hid (by rw [CH.out, if_pos (fun e => by have := EI.out.2 e; cases this)])
  clear CH EI
  go_wp2_with (first | (refine Mem.load1 0 (t := 3) rfl rfl rfl Tryz.underlying3 rfl HM.out rfl rfl ?_) | (refine Mem.load1 0 (t := 9) rfl rfl rfl Tryz.underlying9 rfl HM.out rfl rfl ?_))
  go_ret
  exact ⟨ret_i64 CH2.out.symm, HM.out.below⟩
 | true =>
  have CH2 : Hid (ck = nmdE (revB nm)) := Lib.hid (by rw [CH.out, if_neg (fun h => h (EI.out.1 rfl))])
  clear CH EI
  go_wp2_with (first | (refine Mem.load1 0 (t := 3) rfl rfl rfl Tryz.underlying3 rfl HM.out rfl rfl ?_) | (refine Mem.load1 0 (t := 9) rfl rfl rfl Tryz.underlying9 rfl HM.out rfl rfl ?_))
  refine (SP.out _).mono ?_
  rintro e wx ⟨hsp, rfl⟩
  obtain ⟨s0, m0, rfl⟩ := hsp.isB
  clear hsp
  go_wp2_with (first | (refine Mem.load1 0 (t := 3) rfl rfl rfl Tryz.underlying3 rfl HM.out rfl rfl ?_) | (refine Mem.load1 0 (t := 9) rfl rfl rfl Tryz.underlying9 rfl HM.out rfl rfl ?_))
  refine (rnamedE_any _ _).mono ?_
  rintro e wx ⟨rfl, rfl⟩
  go_wp2_with (first | (refine Mem.load1 0 (t := 3) rfl rfl rfl Tryz.underlying3 rfl HM.out rfl rfl ?_) | (refine Mem.load1 0 (t := 9) rfl rfl rfl Tryz.underlying9 rfl HM.out rfl rfl ?_))
  go_ret
  exact ⟨ret_i64 CH2.out.symm, HM.out.below⟩

set_option maxHeartbeats 2000000 in
theorem rchk_out (k : Int) (nm tg : ByteArray) (n dr : Int) (cn : ByteArray) (im co mn mx gr : Int) (rn rc : ByteArray) (a : Option Addr) (l c : Nat) (rr : Int) (w : World) (h : k < 1 ∨ 13 < k) :
  Calls Tryz.prog 15 #[.agg #[.int .i64 k, .string nm, .string tg, .int .i64 n, .int .i64 dr, .string cn, .int .i64 im, .int .i64 co, .int .i64 mn, .int .i64 mx, .int .i64 gr, .string rn, .string rc, .slice a l c, .int .i64 rr]] w fun x w' => x = .returned (.int .i64 12) ∧ Grow.G w w' := by
 rcases h with h | h
 ·
  go_enter Tryz.func15, Tryz.ntmps15
  go_wp2_with fail
  go_ret
  exact ⟨rfl, by (repeat (first | with_reducible exact Grow.G.refl _ | with_reducible exact Below.refl _ _ | with_reducible refine Grow.G.alloc ?_ _ | with_reducible refine Grow.G.trans ?_ hb1 | ((with_reducible refine Below.setCell ?_ ?_ _); rotate_left; (focus (first | omega | (simp; done) | (simp; omega)))) | with_reducible assumption | with_reducible refine Grow.G.trans ?_ (by with_reducible assumption)))⟩
 ·
  have h2 : ¬ k < 1 := by omega
  go_enter Tryz.func15, Tryz.ntmps15
  go_wp2_with fail
  go_ret
  exact ⟨rfl, by (repeat (first | with_reducible exact Grow.G.refl _ | with_reducible exact Below.refl _ _ | with_reducible refine Grow.G.alloc ?_ _ | with_reducible refine Grow.G.trans ?_ hb1 | ((with_reducible refine Below.setCell ?_ ?_ _); rotate_left; (focus (first | omega | (simp; done) | (simp; omega)))) | with_reducible assumption | with_reducible refine Grow.G.trans ?_ (by with_reducible assumption)))⟩
theorem rchk_any (e : EvD) (a : Option Addr) (c : Nat) (w : World) (hd : EvBd w e a) :
  Calls Tryz.prog 15 #[.agg (e.cells a c)] w fun x w' => x = .returned (.int .i64 e.chk) ∧ Grow.G w w' := by
 by_cases h : e.k < 1 ∨ 13 < e.k
 ·
  have hc : e.chk = 12 := by unfold EvD.chk; rw [if_pos h]
  rw [hc]
  exact rchk_out e.k e.nm e.tg e.n e.dr e.c.nm e.c.im e.c.co e.c.mn e.c.mx e.c.gr e.rn e.rc a e.ts.length c e.rr w h
 ·
  obtain ⟨k, nm, tg, n, dr, ⟨cn, im, co, mn, mx, gr⟩, rn, rc, ts, rr⟩ := e
  dsimp only at h
  have hk : k = 1 ∨ k = 2 ∨ k = 3 ∨ k = 4 ∨ k = 5 ∨ k = 6 ∨ k = 7 ∨ k = 8 ∨ k = 9 ∨ k = 10 ∨ k = 11 ∨ k = 12 ∨ k = 13 := by omega
  rcases hk with rfl | rfl | rfl | rfl | rfl | rfl | rfl | rfl | rfl | rfl | rfl | rfl | rfl
  ·
   exact rchk_1 nm tg n dr cn im co mn mx gr rn rc a ts c rr w hd
  ·
   exact rchk_2 nm tg n dr cn im co mn mx gr rn rc a ts c rr w hd
  ·
   exact rchk_3 nm tg n dr cn im co mn mx gr rn rc a ts c rr w hd
  ·
   exact rchk_4 nm tg n dr cn im co mn mx gr rn rc a ts c rr w hd
  ·
   exact rchk_5 nm tg n dr cn im co mn mx gr rn rc a ts c rr w hd
  ·
   exact rchk_6 nm tg n dr cn im co mn mx gr rn rc a ts c rr w hd
  ·
   exact rchk_7 nm tg n dr cn im co mn mx gr rn rc a ts c rr w hd
  ·
   exact rchk_8 nm tg n dr cn im co mn mx gr rn rc a ts c rr w hd
  ·
   exact rchk_9 nm tg n dr cn im co mn mx gr rn rc a ts c rr w hd
  ·
   exact rchk_10 nm tg n dr cn im co mn mx gr rn rc a ts c rr w hd
  ·
   exact rchk_11 nm tg n dr cn im co mn mx gr rn rc a ts c rr w hd
  ·
   exact rchk_12 nm tg n dr cn im co mn mx gr rn rc a ts c rr w hd
  ·
   exact rchk_13 nm tg n dr cn im co mn mx gr rn rc a ts c rr w hd
end Go.Proofs.YtnkekdmikopdgaaGreat

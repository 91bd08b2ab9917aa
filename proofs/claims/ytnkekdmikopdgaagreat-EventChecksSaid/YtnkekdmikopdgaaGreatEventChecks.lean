/- The walk of EventChecks. -/
import Derived.Test.YtnkekdmikopdgaaGreatZ7
import Derived.Test.YtnkekdmikopdgaaGreatZ16
import Derived.Test.YtnkekdmikopdgaaGreatZ22
import Derived.Test.YtnkekdmikopdgaaGreatZ20
import Derived.Test.YtnkekdmikopdgaaGreatZ17
namespace Go.Proofs.YtnkekdmikopdgaaGreat
set_option maxRecDepth 100000
set_option linter.unusedVariables false
set_option linter.unusedSimpArgs false
set_option linter.unnecessarySimpa false
open Go.RowKit

theorem EvBd.past {w w1 w' : World} {e : EvD} {a : Option Addr} {g : Nat} (h : EvBd w e a) (hw : Grow.G w w1) (c : Chg (fun k => k = g) w1 w') (hg : w.heap.size ≤ g) : EvBd w' e a := ⟨h.nm, h.tg, h.cn, h.rn, h.rc, h.tl, h.ts.past hw c hg, h.ok⟩
theorem TgtSl.boxed {w w1 w' : World} {a : Option Addr} {ts : List Tgt} {g : Nat} (h : TgtSl w a ts) (hw : Grow.G w w1) (c : Chg (fun k => k = g) w1 w') (hne : ∀ b off, a = some ⟨b, off, none⟩ → b ≠ g) : TgtSl w' a ts := (h.later hw).chg c hne
set_option maxHeartbeats 16000000 in
theorem walkEventChecks (w : World) (e0 : EvD) (a0 : Option Addr) (c0 : Nat) (hE : EvIn w e0 a0 c0) (kd : Int) (hkd : wf64 kd) (n : Int) (hn : wf64 n) (dr : Int) (hdr : wf64 dr) (nm : Int) (hnm : wf64 nm) (c : Cfg) (hc : c.wf ∧ c.nm.size ≤ 140737488351232) (v : Value) (zs : List Int) (hz : IntSlice w v zs) (wh : Int) (hwh : wf64 wh) (k : Int) (hk : wf64 k) :
    Calls Tryz.prog 3 #[.agg (e0.cells a0 c0), .int .i64 kd, .int .i64 n, .int .i64 dr, .int .i64 nm, c.v, v, .int .i64 wh, .int .i64 k] w fun e w' => e = .returned (.bool true) ∧ Below w.heap.size w w' := by
  have hEC : e0.cells a0 c0 = #[.int .i64 e0.k, .string e0.nm, .string e0.tg, .int .i64 e0.n, .int .i64 e0.dr, .string e0.c.nm, .int .i64 e0.c.im, .int .i64 e0.c.co, .int .i64 e0.c.mn, .int .i64 e0.c.mx, .int .i64 e0.c.gr, .string e0.rn, .string e0.rc, .slice a0 e0.ts.length c0, .int .i64 e0.rr] := rfl
  rw [hEC]
  have MK := Lib.hid (fun w h => make_any kd n dr nm c v zs w hkd hn hdr hnm hc.1 h)
  have HZ := Lib.hid hz
  have CHK := mkE_chk kd n dr nm c zs
  generalize mkE kd n dr nm c zs = E at *
  have HCK := Lib.hid CHK
  have TX := Lib.hid (fun w h => text_any v zs w h)
  have TXS := Lib.hid (textS_size zs)
  generalize textS zs = txt at *
  have rb := rr_bd CHK
  have cb := co_bd CHK
  have WC : IntKind.i64.wrap (E.c.co + 1) = E.c.co + 1 := by rw [IntKind.wrap_i64]; omega
  have WR : IntKind.i64.wrap (E.rr + 1) = E.rr + 1 := by rw [IntKind.wrap_i64]; omega
  have TL := Lib.hid (ts_len CHK)
  have FW := Lib.hid (fun w => (show Calls Tryz.prog 12 #[.agg #[.int .i64 e0.k, .string e0.nm, .string e0.tg, .int .i64 e0.n, .int .i64 e0.dr, .string e0.c.nm, .int .i64 e0.c.im, .int .i64 e0.c.co, .int .i64 e0.c.mn, .int .i64 e0.c.mx, .int .i64 e0.c.gr, .string e0.rn, .string e0.rc, .slice a0 e0.ts.length c0, .int .i64 e0.rr]] w fun x w' => x = .returned (.bool (few3B e0)) ∧ Below w.heap.size w w' from few3_any e0 a0 c0 w hE.hnm hE.htg hE.hcn hE.hr.hn hE.hr.hc))
  have FB := Lib.hid (fun h => few3_bd hE h)
  generalize few3B e0 = fb at *
  have CK0 := Lib.hid (fun a c w (h : TgtSl w a E.ts) => (show Calls Tryz.prog 14 #[.agg #[.int .i64 E.k, .string E.nm, .string E.tg, .int .i64 E.n, .int .i64 E.dr, .string E.c.nm, .int .i64 E.c.im, .int .i64 E.c.co, .int .i64 E.c.mn, .int .i64 E.c.mx, .int .i64 E.c.gr, .string E.rn, .string E.rc, .slice a E.ts.length c, .int .i64 E.rr]] w fun x w' => x = .returned (.int .i64 0) ∧ Grow.G w w' from by
    have := echk_any E a c w (ev_bd CHK h)
    rwa [CHK] at this))
  have CR0 := Lib.hid (fun w h => (show Calls Tryz.prog 14 #[.agg #[.int .i64 e0.k, .string e0.nm, .string e0.tg, .int .i64 e0.n, .int .i64 e0.dr, .string e0.c.nm, .int .i64 e0.c.im, .int .i64 e0.c.co, .int .i64 e0.c.mn, .int .i64 e0.c.mx, .int .i64 e0.c.gr, .string e0.rn, .string e0.rc, .slice a0 e0.ts.length c0, .int .i64 e0.rr]] w fun x w' => x = .returned (.int .i64 e0.chk) ∧ Grow.G w w' from echk_any e0 a0 c0 w h))
  have RR0 := Lib.hid (fun w h => (show Calls Tryz.prog 15 #[.agg #[.int .i64 e0.k, .string e0.nm, .string e0.tg, .int .i64 e0.n, .int .i64 e0.dr, .string e0.c.nm, .int .i64 e0.c.im, .int .i64 e0.c.co, .int .i64 e0.c.mn, .int .i64 e0.c.mx, .int .i64 e0.c.gr, .string e0.rn, .string e0.rc, .slice a0 e0.ts.length c0, .int .i64 e0.rr]] w fun x w' => x = .returned (.int .i64 e0.chk) ∧ Grow.G w w' from rchk_any e0 a0 c0 w h))
  generalize e0.chk = ck0 at *
  have WI := Lib.hid (fun w => within3_any wh 8 w (by omega) (by omega) hwh.1 hwh.2)
  have W3 := Lib.hid (fun w => within3_any k 3 w (by omega) (by omega) hk.1 hk.2)
  have W5 := Lib.hid (fun w => within3_any k 5 w (by omega) (by omega) hk.1 hk.2)
  have W6 := Lib.hid (fun w => within3_any k 6 w (by omega) (by omega) hk.1 hk.2)
  have r8 := withinI_range wh 8 (by omega)
  have r3 := withinI_range k 3 (by omega)
  have r5 := withinI_range k 5 (by omega)
  have r6 := withinI_range k 6 (by omega)
  generalize withinI wh 8 = q at *
  generalize withinI k 3 = q3 at *
  generalize withinI k 5 = q5 at *
  generalize withinI k 6 = q6 at *
  have hq : q = 0 ∨ q = 1 ∨ q = 2 ∨ q = 3 ∨ q = 4 ∨ q = 5 ∨ q = 6 ∨ q = 7 := by omega
  have H3 : Hid (q3 = 0 ∨ q3 = 1 ∨ q3 = 2) := Lib.hid (by omega)
  have H5 : Hid (q5 = 0 ∨ q5 = 1 ∨ q5 = 2 ∨ q5 = 3 ∨ q5 = 4) := Lib.hid (by omega)
  have H6 : Hid (q6 = 0 ∨ q6 = 1 ∨ q6 = 2 ∨ q6 = 3 ∨ q6 = 4 ∨ q6 = 5) := Lib.hid (by omega)
  have CE : (Tryz.prog.info? 28).map (·.size) = some 15 := by kernel_rfl
  have CI : (Tryz.prog.info? 3).map (·.size) = some 1 := by kernel_rfl
  have CS : (Tryz.prog.info? 9).map (·.size) = some 1 := by kernel_rfl
  have CL : (Tryz.prog.info? 24).map (·.size) = some 1 := by kernel_rfl
  have CC : (Tryz.prog.info? 23).map (·.size) = some 6 := by kernel_rfl
  obtain ⟨cn, im, co, mn, mx, gr⟩ := c
  unfold Cfg.v at *
  dsimp only at *
  have HMa := Lib.hid (Mem.alloc' (Mem.alloc' (Mem.nil w) [.int .i64 e0.k, .string e0.nm, .string e0.tg, .int .i64 e0.n, .int .i64 e0.dr, .string e0.c.nm, .int .i64 e0.c.im, .int .i64 e0.c.co, .int .i64 e0.c.mn, .int .i64 e0.c.mx, .int .i64 e0.c.gr, .string e0.rn, .string e0.rc, .slice a0 e0.ts.length c0, .int .i64 e0.rr] 28 (g := w.heap.size) rfl) [.string cn, .int .i64 im, .int .i64 co, .int .i64 mn, .int .i64 mx, .int .i64 gr] 23 (g := w.heap.size + 1) (by simp))
  have GA : Hid (Grow.G w ((w.alloc (.cells #[.int .i64 e0.k, .string e0.nm, .string e0.tg, .int .i64 e0.n, .int .i64 e0.dr, .string e0.c.nm, .int .i64 e0.c.im, .int .i64 e0.c.co, .int .i64 e0.c.mn, .int .i64 e0.c.mx, .int .i64 e0.c.gr, .string e0.rn, .string e0.rc, .slice a0 e0.ts.length c0, .int .i64 e0.rr] 28)).alloc (.cells #[.string cn, .int .i64 im, .int .i64 co, .int .i64 mn, .int .i64 mx, .int .i64 gr] 23))) := Lib.hid (Grow.G.alloc (Grow.G.alloc (Grow.G.refl _) _) _)
  clear hz hc hkd hn hdr hnm CHK hwh hk r8 r3 r5 r6 rb cb hE hEC
  go_enter Tryz.func3, Tryz.ntmps3
  go_wp2_with fail
  refine (known3_any _).mono ?_
  rintro e wn1 ⟨rfl, hb1⟩
  have hm := HMa.out.grow hb1
  simp only [K0, K1, L1, L2, K2, K3, K4, K5, K6, K7, Nat.reduceAdd, Nat.reduceSub] at hm
  have HM := Lib.hid hm
  have G1 := Lib.hid (GA.out.trans hb1)
  clear hm hb1 HMa GA
  go_wp2_with (first | (refine Mem.loadAll 0 (t := 28) rfl rfl rfl Tryz.underlying28 CE HM.out rfl rfl ?_))
  refine (FW.out _).mono ?_
  rintro e wn2 ⟨rfl, hb2⟩
  have hm := HM.out.grow hb2
  replace HM := Lib.hid hm
  have G2 := Lib.hid (G1.out.trans hb2)
  clear hm hb2 G1 FW
  cases fb with
  | false =>
    go_wp2_with fail
    go_ret
    exact ⟨rfl, HM.out.below⟩
  | true =>
  have BD0 := Lib.hid (FB.out rfl)
  clear FB
  go_wp2_with (first | (refine Mem.loadAll 1 (t := 23) rfl rfl rfl Tryz.underlying23 CC HM.out rfl rfl ?_))
  refine (MK.out _ (HZ.out.below G2.out)).mono ?_
  rintro e wn3 ⟨a2, c2, rfl, ht3, hl3, hb3⟩
  have HLB := Lib.hid (fun b off (h : a2 = some ⟨b, off, none⟩) => (show b ≠ wn3.heap.size from by have := (hl3 b off h).2; omega))
  have hm := HM.out.grow hb3
  replace HM := Lib.hid hm
  have G3 := Lib.hid (G2.out.trans hb3)
  have GD := Lib.hid (G2.out.trans hb3)
  have HT3 := Lib.hid ht3
  clear hm hb3 G2 ht3 MK hl3
  go_wp2_with (refine Mem.storeAll 2 (t := 28) rfl rfl rfl rfl CE (Mem.alloc' HM.out _ _ rfl) rfl rfl rfl rfl ?_; intro wn4 HM4 C4)
  have HT4 := Lib.hid (HT3.out.past (Grow.G.alloc (Grow.G.refl _) _) C4 (Nat.le_refl _))
  have BD4 := Lib.hid (BD0.out.past (GD.out.trans (Grow.G.alloc (Grow.G.refl _) _)) C4 GD.out.size)
  have HZ4 := Lib.hid (HZ.out.below (Below.trans (Below.mono (Grow.G.alloc (Grow.G.refl _) _) G3.out.size |> fun h => Below.trans G3.out h) (C4.below (B := w.heap.size) (by have := G3.out.size; simp; omega) (fun j hj q => by have q : j = wn3.heap.size := q; have := G3.out.size; omega))))
  simp only [K0, K1, L1, L2, K2, K3, K4, K5, K6, K7, Nat.reduceAdd, Nat.reduceSub] at HM4
  replace HM := Lib.hid HM4
  have HG : Hid (∃ g, wn3.heap.size = g) := Lib.hid ⟨_, rfl⟩
  clear HM4 HT3 BD0 G3 HZ C4
  refine Stay.go ?_
  go_wp2_with fail
  have B0 := Lib.hid (HM.out.blk (i := 0) rfl)
  have B2 := Lib.hid (HM.out.blk (i := 2) rfl)
  refine Evo2.start' (ℓ := none) (S := Chg (fun _ => False)) (E := Grow.G) (by kernel_rfl) ⟨Chg.pre _, by decide +kernel, (by intro c a d v w h; cases d <;> exact h), by decide +kernel⟩ (fun ok => ?_)
  first | (refine Evo2.val ok 0 ?_ ?_ ?_; rotate_left; (focus (intro w' hg; refine Box.exec_loadAll ?_ Tryz.underlying28 CE (B0.out.chg (Chg.trans (Chg.refl (fun _ => False) _) hg) id) ?_; (all_goals (first | exact ⟨rfl, rfl⟩ | rfl)))); simp only [Act.put, L0, L1, L2]) | (refine Evo2.val ok 0 ?_ ?_ ?_; rotate_left; (focus (intro w' hg; refine Box.exec_loadAll ?_ Tryz.underlying28 CE (B2.out.chg (Chg.trans (Chg.refl (fun _ => False) _) hg) id) ?_; (all_goals (first | exact ⟨rfl, rfl⟩ | rfl)))); simp only [Act.put, L0, L1, L2]) | (refine Evo2.val ok 0 ?_ ?_ ?_; rotate_left; (intro w' hg; go_simp <;> with_reducible rfl); simp only [Act.put, L0, L1, L2])
  (refine Evo2.cal ok 1 ?_ 14 ?_ ?_ ?_ ?_; rotate_left 2; (focus (intro w'; go_simp <;> with_reducible rfl)); (focus (intro w' g'; with_reducible exact CR0.out w' (BD4.out.later (chg_none (Chg.trans (Chg.refl (fun _ => False) _) g'))))); simp only [Act.put, L0, L1, L2])
  first | (refine Evo2.val ok 2 ?_ ?_ ?_; rotate_left; (focus (intro w' hg; refine Box.exec_loadAll ?_ Tryz.underlying28 CE (B0.out.chg (Chg.trans (Chg.refl (fun _ => False) _) hg) id) ?_; (all_goals (first | exact ⟨rfl, rfl⟩ | rfl)))); simp only [Act.put, L0, L1, L2]) | (refine Evo2.val ok 2 ?_ ?_ ?_; rotate_left; (focus (intro w' hg; refine Box.exec_loadAll ?_ Tryz.underlying28 CE (B2.out.chg (Chg.trans (Chg.refl (fun _ => False) _) hg) id) ?_; (all_goals (first | exact ⟨rfl, rfl⟩ | rfl)))); simp only [Act.put, L0, L1, L2]) | (refine Evo2.val ok 2 ?_ ?_ ?_; rotate_left; (intro w' hg; go_simp <;> with_reducible rfl); simp only [Act.put, L0, L1, L2])
  (refine Evo2.cal ok 3 ?_ 15 ?_ ?_ ?_ ?_; rotate_left 2; (focus (intro w'; go_simp <;> with_reducible rfl)); (focus (intro w' g'; with_reducible exact RR0.out w' (BD4.out.later (chg_none (Chg.trans (Chg.refl (fun _ => False) _) g'))))); simp only [Act.put, L0, L1, L2])
  first | (refine Evo2.val ok 4 ?_ ?_ ?_; rotate_left; (intro w' hg; go_simp <;> with_reducible rfl); simp only [Act.put, L0, L1, L2])
  first | (refine Evo2.val ok 5 ?_ ?_ ?_; rotate_left; (intro w' hg; go_simp <;> with_reducible rfl); simp only [Act.put, L0, L1, L2])
  first | (refine Evo2.val ok 6 ?_ ?_ ?_; rotate_left; (focus (intro w' hg; refine Box.exec_loadAll ?_ Tryz.underlying28 CE (B0.out.chg (Chg.trans (Chg.refl (fun _ => False) _) hg) id) ?_; (all_goals (first | exact ⟨rfl, rfl⟩ | rfl)))); simp only [Act.put, L0, L1, L2]) | (refine Evo2.val ok 6 ?_ ?_ ?_; rotate_left; (focus (intro w' hg; refine Box.exec_loadAll ?_ Tryz.underlying28 CE (B2.out.chg (Chg.trans (Chg.refl (fun _ => False) _) hg) id) ?_; (all_goals (first | exact ⟨rfl, rfl⟩ | rfl)))); simp only [Act.put, L0, L1, L2]) | (refine Evo2.val ok 6 ?_ ?_ ?_; rotate_left; (intro w' hg; go_simp <;> with_reducible rfl); simp only [Act.put, L0, L1, L2]) | (refine Evo2.idl ok 6 ?_; simp only [Act.put, L0, L1, L2])
  first | (refine Evo2.cal ok 7 ?_ 14 ?_ ?_ ?_ ?_; rotate_left 2; (focus (intro w'; go_simp <;> with_reducible rfl)); (focus (intro w' g'; with_reducible exact CK0.out _ _ w' (HT4.out.chg (Chg.trans (Chg.refl (fun _ => False) _) g') (fun _ _ _ => id)))); simp only [Act.put, L0, L1, L2]) | (refine Evo2.idl ok 7 ?_; simp only [Act.put, L0, L1, L2])
  first | (refine Evo2.val ok 8 ?_ ?_ ?_; rotate_left; (intro w' hg; go_simp <;> with_reducible rfl); simp only [Act.put, L0, L1, L2]) | (refine Evo2.idl ok 8 ?_; simp only [Act.put, L0, L1, L2])
  first | (refine Evo2.val ok 9 ?_ ?_ ?_; rotate_left; (intro w' hg; go_simp <;> with_reducible rfl); simp only [Act.put, L0, L1, L2])
  refine Evo2.done (by decide +kernel) (fun wz gz => ?_)
  have AZ := Chg.trans (Chg.refl (fun _ => False) _) (Chg.grow gz)
  have GZ := chg_none AZ
  have hm := HM.out.grow GZ
  replace HM := Lib.hid hm
  have HT := Lib.hid (HT4.out.later GZ)
  have HZ := Lib.hid (HZ4.out.below GZ)
  clear hm AZ GZ HT4 HZ4 B0 B2 BD4 gz CR0 RR0
  go_wp2_with fail
  refine (WI.out _).mono ?_
  rintro e wx ⟨rfl, rfl⟩
  rcases hq with rfl | rfl | rfl | rfl | rfl | rfl | rfl | rfl
  · go_wp2_with fail
    refine (W3.out _).mono ?_
    rintro e wx ⟨rfl, rfl⟩
    rcases H3.out with rfl | rfl | rfl
    · skip
      go_wp2_with (first | (refine Mem.load1 2 (t := 3) rfl rfl rfl Tryz.underlying3 rfl HM.out rfl rfl ?_) | (refine Mem.store 2 (t := 3) rfl rfl rfl rfl (vs := [.int .i64 0]) rfl CI (Mem.alloc' HM.out _ _ rfl) rfl rfl (by simp) rfl ?_; intro wn5 HM5 C5))
      simp only [K0, K1, L1, L2, K2, K3, K4, K5, K6, K7, Nat.reduceAdd, Nat.reduceSub] at HM5
      replace HM := Lib.hid HM5
      have HTX := Lib.hid (HT.out.boxed (by first | exact Grow.G.refl _ | exact Grow.G.alloc (Grow.G.refl _) _) C5 HLB.out)
      clear C5 HT
      refine Stay.go ?_
      have CX := Lib.hid (fun w (h : TgtSl w a2 ({ E with k := 0 } : EvD).ts) => (show Calls Tryz.prog 14 #[.agg #[.int .i64 0, .string E.nm, .string E.tg, .int .i64 E.n, .int .i64 E.dr, .string E.c.nm, .int .i64 E.c.im, .int .i64 E.c.co, .int .i64 E.c.mn, .int .i64 E.c.mx, .int .i64 E.c.gr, .string E.rn, .string E.rc, .slice a2 E.ts.length c2, .int .i64 E.rr]] w fun x w' => x = .returned (.int .i64 ({ E with k := 0 } : EvD).chk) ∧ Grow.G w w' from echk_any ({ E with k := 0 } : EvD) a2 c2 w (have hb := ev_bd HCK.out h; ⟨hb.nm, hb.tg, hb.cn, hb.rn, hb.rc, hb.tl, hb.ts, hb.ok⟩)))
      have RX := Lib.hid (fun w (h : TgtSl w a2 ({ E with k := 0 } : EvD).ts) => (show Calls Tryz.prog 15 #[.agg #[.int .i64 0, .string E.nm, .string E.tg, .int .i64 E.n, .int .i64 E.dr, .string E.c.nm, .int .i64 E.c.im, .int .i64 E.c.co, .int .i64 E.c.mn, .int .i64 E.c.mx, .int .i64 E.c.gr, .string E.rn, .string E.rc, .slice a2 E.ts.length c2, .int .i64 E.rr]] w fun x w' => x = .returned (.int .i64 ({ E with k := 0 } : EvD).chk) ∧ Grow.G w w' from rchk_any ({ E with k := 0 } : EvD) a2 c2 w (have hb := ev_bd HCK.out h; ⟨hb.nm, hb.tg, hb.cn, hb.rn, hb.rc, hb.tl, hb.ts, hb.ok⟩)))
      generalize ({ E with k := 0 } : EvD).chk = ck at *
      have BX := Lib.hid (HM.out.blk (i := 2) rfl)
      go_wp2_with fail
      refine Evo2.start' (ℓ := none) (S := Chg (fun _ => False)) (E := Grow.G) (by kernel_rfl) ⟨Chg.pre _, by decide +kernel, (by intro c a d v w h; cases d <;> exact h), by decide +kernel⟩ (fun ok => ?_)
      first | (refine Evo2.val ok 0 ?_ ?_ ?_; rotate_left; (focus (intro w' hg; refine Box.exec_loadAll ?_ Tryz.underlying28 CE (BX.out.chg (Chg.trans (Chg.refl (fun _ => False) _) hg) id) ?_; (all_goals (first | exact ⟨rfl, rfl⟩ | rfl)))); simp only [Act.put, L0, L1, L2]) | (refine Evo2.val ok 0 ?_ ?_ ?_; rotate_left; (intro w' hg; go_simp <;> with_reducible rfl); simp only [Act.put, L0, L1, L2])
      (refine Evo2.cal ok 1 ?_ 14 ?_ ?_ ?_ ?_; rotate_left 2; (focus (intro w'; go_simp <;> with_reducible rfl)); (focus (intro w' g'; with_reducible exact CX.out w' (HTX.out.chg (Chg.trans (Chg.refl (fun _ => False) _) g') (fun _ _ _ => id)))); simp only [Act.put, L0, L1, L2])
      first | (refine Evo2.val ok 2 ?_ ?_ ?_; rotate_left; (focus (intro w' hg; refine Box.exec_loadAll ?_ Tryz.underlying28 CE (BX.out.chg (Chg.trans (Chg.refl (fun _ => False) _) hg) id) ?_; (all_goals (first | exact ⟨rfl, rfl⟩ | rfl)))); simp only [Act.put, L0, L1, L2]) | (refine Evo2.val ok 2 ?_ ?_ ?_; rotate_left; (intro w' hg; go_simp <;> with_reducible rfl); simp only [Act.put, L0, L1, L2])
      (refine Evo2.cal ok 3 ?_ 15 ?_ ?_ ?_ ?_; rotate_left 2; (focus (intro w'; go_simp <;> with_reducible rfl)); (focus (intro w' g'; with_reducible exact RX.out w' (HTX.out.chg (Chg.trans (Chg.refl (fun _ => False) _) g') (fun _ _ _ => id)))); simp only [Act.put, L0, L1, L2])
      first | (refine Evo2.val ok 4 ?_ ?_ ?_; rotate_left; (intro w' hg; go_simp <;> with_reducible rfl); simp only [Act.put, L0, L1, L2])
      first | (refine Evo2.val ok 5 ?_ ?_ ?_; rotate_left; (intro w' hg; go_simp <;> with_reducible rfl); simp only [Act.put, L0, L1, L2])
      refine Evo2.done (by decide +kernel) (fun wz gz => ?_)
      have AZ := Chg.trans (Chg.refl (fun _ => False) _) (Chg.grow gz)
      have HM9 := Lib.hid (HM.out.grow (chg_none AZ))
      clear AZ BX
      go_wp2_with fail
      go_ret
      exact ⟨rfl, HM9.out.below⟩
    · skip
      go_wp2_with (first | (refine Mem.load1 2 (t := 3) rfl rfl rfl Tryz.underlying3 rfl HM.out rfl rfl ?_) | (refine Mem.store 2 (t := 3) rfl rfl rfl rfl (vs := [.int .i64 14]) rfl CI (Mem.alloc' HM.out _ _ rfl) rfl rfl (by simp) rfl ?_; intro wn5 HM5 C5))
      simp only [K0, K1, L1, L2, K2, K3, K4, K5, K6, K7, Nat.reduceAdd, Nat.reduceSub] at HM5
      replace HM := Lib.hid HM5
      have HTX := Lib.hid (HT.out.boxed (by first | exact Grow.G.refl _ | exact Grow.G.alloc (Grow.G.refl _) _) C5 HLB.out)
      clear C5 HT
      refine Stay.go ?_
      have CX := Lib.hid (fun w (h : TgtSl w a2 ({ E with k := 14 } : EvD).ts) => (show Calls Tryz.prog 14 #[.agg #[.int .i64 14, .string E.nm, .string E.tg, .int .i64 E.n, .int .i64 E.dr, .string E.c.nm, .int .i64 E.c.im, .int .i64 E.c.co, .int .i64 E.c.mn, .int .i64 E.c.mx, .int .i64 E.c.gr, .string E.rn, .string E.rc, .slice a2 E.ts.length c2, .int .i64 E.rr]] w fun x w' => x = .returned (.int .i64 ({ E with k := 14 } : EvD).chk) ∧ Grow.G w w' from echk_any ({ E with k := 14 } : EvD) a2 c2 w (have hb := ev_bd HCK.out h; ⟨hb.nm, hb.tg, hb.cn, hb.rn, hb.rc, hb.tl, hb.ts, hb.ok⟩)))
      have RX := Lib.hid (fun w (h : TgtSl w a2 ({ E with k := 14 } : EvD).ts) => (show Calls Tryz.prog 15 #[.agg #[.int .i64 14, .string E.nm, .string E.tg, .int .i64 E.n, .int .i64 E.dr, .string E.c.nm, .int .i64 E.c.im, .int .i64 E.c.co, .int .i64 E.c.mn, .int .i64 E.c.mx, .int .i64 E.c.gr, .string E.rn, .string E.rc, .slice a2 E.ts.length c2, .int .i64 E.rr]] w fun x w' => x = .returned (.int .i64 ({ E with k := 14 } : EvD).chk) ∧ Grow.G w w' from rchk_any ({ E with k := 14 } : EvD) a2 c2 w (have hb := ev_bd HCK.out h; ⟨hb.nm, hb.tg, hb.cn, hb.rn, hb.rc, hb.tl, hb.ts, hb.ok⟩)))
      generalize ({ E with k := 14 } : EvD).chk = ck at *
      have BX := Lib.hid (HM.out.blk (i := 2) rfl)
      go_wp2_with fail
      refine Evo2.start' (ℓ := none) (S := Chg (fun _ => False)) (E := Grow.G) (by kernel_rfl) ⟨Chg.pre _, by decide +kernel, (by intro c a d v w h; cases d <;> exact h), by decide +kernel⟩ (fun ok => ?_)
      first | (refine Evo2.val ok 0 ?_ ?_ ?_; rotate_left; (focus (intro w' hg; refine Box.exec_loadAll ?_ Tryz.underlying28 CE (BX.out.chg (Chg.trans (Chg.refl (fun _ => False) _) hg) id) ?_; (all_goals (first | exact ⟨rfl, rfl⟩ | rfl)))); simp only [Act.put, L0, L1, L2]) | (refine Evo2.val ok 0 ?_ ?_ ?_; rotate_left; (intro w' hg; go_simp <;> with_reducible rfl); simp only [Act.put, L0, L1, L2])
      (refine Evo2.cal ok 1 ?_ 14 ?_ ?_ ?_ ?_; rotate_left 2; (focus (intro w'; go_simp <;> with_reducible rfl)); (focus (intro w' g'; with_reducible exact CX.out w' (HTX.out.chg (Chg.trans (Chg.refl (fun _ => False) _) g') (fun _ _ _ => id)))); simp only [Act.put, L0, L1, L2])
      first | (refine Evo2.val ok 2 ?_ ?_ ?_; rotate_left; (focus (intro w' hg; refine Box.exec_loadAll ?_ Tryz.underlying28 CE (BX.out.chg (Chg.trans (Chg.refl (fun _ => False) _) hg) id) ?_; (all_goals (first | exact ⟨rfl, rfl⟩ | rfl)))); simp only [Act.put, L0, L1, L2]) | (refine Evo2.val ok 2 ?_ ?_ ?_; rotate_left; (intro w' hg; go_simp <;> with_reducible rfl); simp only [Act.put, L0, L1, L2])
      (refine Evo2.cal ok 3 ?_ 15 ?_ ?_ ?_ ?_; rotate_left 2; (focus (intro w'; go_simp <;> with_reducible rfl)); (focus (intro w' g'; with_reducible exact RX.out w' (HTX.out.chg (Chg.trans (Chg.refl (fun _ => False) _) g') (fun _ _ _ => id)))); simp only [Act.put, L0, L1, L2])
      first | (refine Evo2.val ok 4 ?_ ?_ ?_; rotate_left; (intro w' hg; go_simp <;> with_reducible rfl); simp only [Act.put, L0, L1, L2])
      first | (refine Evo2.val ok 5 ?_ ?_ ?_; rotate_left; (intro w' hg; go_simp <;> with_reducible rfl); simp only [Act.put, L0, L1, L2])
      refine Evo2.done (by decide +kernel) (fun wz gz => ?_)
      have AZ := Chg.trans (Chg.refl (fun _ => False) _) (Chg.grow gz)
      have HM9 := Lib.hid (HM.out.grow (chg_none AZ))
      clear AZ BX
      go_wp2_with fail
      go_ret
      exact ⟨rfl, HM9.out.below⟩
    · skip
      go_wp2_with (first | (refine Mem.load1 2 (t := 3) rfl rfl rfl Tryz.underlying3 rfl HM.out rfl rfl ?_) | (refine Mem.store 2 (t := 3) rfl rfl rfl rfl (vs := [.int .i64 k]) rfl CI (Mem.alloc' HM.out _ _ rfl) rfl rfl (by simp) rfl ?_; intro wn5 HM5 C5))
      simp only [K0, K1, L1, L2, K2, K3, K4, K5, K6, K7, Nat.reduceAdd, Nat.reduceSub] at HM5
      replace HM := Lib.hid HM5
      have HTX := Lib.hid (HT.out.boxed (by first | exact Grow.G.refl _ | exact Grow.G.alloc (Grow.G.refl _) _) C5 HLB.out)
      clear C5 HT
      refine Stay.go ?_
      have CX := Lib.hid (fun w (h : TgtSl w a2 ({ E with k := k } : EvD).ts) => (show Calls Tryz.prog 14 #[.agg #[.int .i64 k, .string E.nm, .string E.tg, .int .i64 E.n, .int .i64 E.dr, .string E.c.nm, .int .i64 E.c.im, .int .i64 E.c.co, .int .i64 E.c.mn, .int .i64 E.c.mx, .int .i64 E.c.gr, .string E.rn, .string E.rc, .slice a2 E.ts.length c2, .int .i64 E.rr]] w fun x w' => x = .returned (.int .i64 ({ E with k := k } : EvD).chk) ∧ Grow.G w w' from echk_any ({ E with k := k } : EvD) a2 c2 w (have hb := ev_bd HCK.out h; ⟨hb.nm, hb.tg, hb.cn, hb.rn, hb.rc, hb.tl, hb.ts, hb.ok⟩)))
      have RX := Lib.hid (fun w (h : TgtSl w a2 ({ E with k := k } : EvD).ts) => (show Calls Tryz.prog 15 #[.agg #[.int .i64 k, .string E.nm, .string E.tg, .int .i64 E.n, .int .i64 E.dr, .string E.c.nm, .int .i64 E.c.im, .int .i64 E.c.co, .int .i64 E.c.mn, .int .i64 E.c.mx, .int .i64 E.c.gr, .string E.rn, .string E.rc, .slice a2 E.ts.length c2, .int .i64 E.rr]] w fun x w' => x = .returned (.int .i64 ({ E with k := k } : EvD).chk) ∧ Grow.G w w' from rchk_any ({ E with k := k } : EvD) a2 c2 w (have hb := ev_bd HCK.out h; ⟨hb.nm, hb.tg, hb.cn, hb.rn, hb.rc, hb.tl, hb.ts, hb.ok⟩)))
      generalize ({ E with k := k } : EvD).chk = ck at *
      have BX := Lib.hid (HM.out.blk (i := 2) rfl)
      go_wp2_with fail
      refine Evo2.start' (ℓ := none) (S := Chg (fun _ => False)) (E := Grow.G) (by kernel_rfl) ⟨Chg.pre _, by decide +kernel, (by intro c a d v w h; cases d <;> exact h), by decide +kernel⟩ (fun ok => ?_)
      first | (refine Evo2.val ok 0 ?_ ?_ ?_; rotate_left; (focus (intro w' hg; refine Box.exec_loadAll ?_ Tryz.underlying28 CE (BX.out.chg (Chg.trans (Chg.refl (fun _ => False) _) hg) id) ?_; (all_goals (first | exact ⟨rfl, rfl⟩ | rfl)))); simp only [Act.put, L0, L1, L2]) | (refine Evo2.val ok 0 ?_ ?_ ?_; rotate_left; (intro w' hg; go_simp <;> with_reducible rfl); simp only [Act.put, L0, L1, L2])
      (refine Evo2.cal ok 1 ?_ 14 ?_ ?_ ?_ ?_; rotate_left 2; (focus (intro w'; go_simp <;> with_reducible rfl)); (focus (intro w' g'; with_reducible exact CX.out w' (HTX.out.chg (Chg.trans (Chg.refl (fun _ => False) _) g') (fun _ _ _ => id)))); simp only [Act.put, L0, L1, L2])
      first | (refine Evo2.val ok 2 ?_ ?_ ?_; rotate_left; (focus (intro w' hg; refine Box.exec_loadAll ?_ Tryz.underlying28 CE (BX.out.chg (Chg.trans (Chg.refl (fun _ => False) _) hg) id) ?_; (all_goals (first | exact ⟨rfl, rfl⟩ | rfl)))); simp only [Act.put, L0, L1, L2]) | (refine Evo2.val ok 2 ?_ ?_ ?_; rotate_left; (intro w' hg; go_simp <;> with_reducible rfl); simp only [Act.put, L0, L1, L2])
      (refine Evo2.cal ok 3 ?_ 15 ?_ ?_ ?_ ?_; rotate_left 2; (focus (intro w'; go_simp <;> with_reducible rfl)); (focus (intro w' g'; with_reducible exact RX.out w' (HTX.out.chg (Chg.trans (Chg.refl (fun _ => False) _) g') (fun _ _ _ => id)))); simp only [Act.put, L0, L1, L2])
      first | (refine Evo2.val ok 4 ?_ ?_ ?_; rotate_left; (intro w' hg; go_simp <;> with_reducible rfl); simp only [Act.put, L0, L1, L2])
      first | (refine Evo2.val ok 5 ?_ ?_ ?_; rotate_left; (intro w' hg; go_simp <;> with_reducible rfl); simp only [Act.put, L0, L1, L2])
      refine Evo2.done (by decide +kernel) (fun wz gz => ?_)
      have AZ := Chg.trans (Chg.refl (fun _ => False) _) (Chg.grow gz)
      have HM9 := Lib.hid (HM.out.grow (chg_none AZ))
      clear AZ BX
      go_wp2_with fail
      go_ret
      exact ⟨rfl, HM9.out.below⟩
  · go_wp2_with fail
    refine (W6.out _).mono ?_
    rintro e wx ⟨rfl, rfl⟩
    rcases H6.out with rfl | rfl | rfl | rfl | rfl | rfl
    · skip
      go_wp2_with (first | (refine Mem.load1 2 (t := 3) rfl rfl rfl Tryz.underlying3 rfl HM.out rfl rfl ?_) | (refine Mem.store 2 (t := 3) rfl rfl rfl rfl (vs := [.int .i64 (-1)]) rfl CI (Mem.alloc' HM.out _ _ rfl) rfl rfl (by simp) rfl ?_; intro wn5 HM5 C5))
      simp only [K0, K1, L1, L2, K2, K3, K4, K5, K6, K7, Nat.reduceAdd, Nat.reduceSub] at HM5
      replace HM := Lib.hid HM5
      have HTX := Lib.hid (HT.out.boxed (by first | exact Grow.G.refl _ | exact Grow.G.alloc (Grow.G.refl _) _) C5 HLB.out)
      clear C5 HT
      refine Stay.go ?_
      have CX := Lib.hid (fun w (h : TgtSl w a2 ({ E with n := (-1) } : EvD).ts) => (show Calls Tryz.prog 14 #[.agg #[.int .i64 E.k, .string E.nm, .string E.tg, .int .i64 (-1), .int .i64 E.dr, .string E.c.nm, .int .i64 E.c.im, .int .i64 E.c.co, .int .i64 E.c.mn, .int .i64 E.c.mx, .int .i64 E.c.gr, .string E.rn, .string E.rc, .slice a2 E.ts.length c2, .int .i64 E.rr]] w fun x w' => x = .returned (.int .i64 ({ E with n := (-1) } : EvD).chk) ∧ Grow.G w w' from echk_any ({ E with n := (-1) } : EvD) a2 c2 w (have hb := ev_bd HCK.out h; ⟨hb.nm, hb.tg, hb.cn, hb.rn, hb.rc, hb.tl, hb.ts, hb.ok⟩)))
      have RX := Lib.hid (fun w (h : TgtSl w a2 ({ E with n := (-1) } : EvD).ts) => (show Calls Tryz.prog 15 #[.agg #[.int .i64 E.k, .string E.nm, .string E.tg, .int .i64 (-1), .int .i64 E.dr, .string E.c.nm, .int .i64 E.c.im, .int .i64 E.c.co, .int .i64 E.c.mn, .int .i64 E.c.mx, .int .i64 E.c.gr, .string E.rn, .string E.rc, .slice a2 E.ts.length c2, .int .i64 E.rr]] w fun x w' => x = .returned (.int .i64 ({ E with n := (-1) } : EvD).chk) ∧ Grow.G w w' from rchk_any ({ E with n := (-1) } : EvD) a2 c2 w (have hb := ev_bd HCK.out h; ⟨hb.nm, hb.tg, hb.cn, hb.rn, hb.rc, hb.tl, hb.ts, hb.ok⟩)))
      generalize ({ E with n := (-1) } : EvD).chk = ck at *
      have BX := Lib.hid (HM.out.blk (i := 2) rfl)
      go_wp2_with fail
      refine Evo2.start' (ℓ := none) (S := Chg (fun _ => False)) (E := Grow.G) (by kernel_rfl) ⟨Chg.pre _, by decide +kernel, (by intro c a d v w h; cases d <;> exact h), by decide +kernel⟩ (fun ok => ?_)
      first | (refine Evo2.val ok 0 ?_ ?_ ?_; rotate_left; (focus (intro w' hg; refine Box.exec_loadAll ?_ Tryz.underlying28 CE (BX.out.chg (Chg.trans (Chg.refl (fun _ => False) _) hg) id) ?_; (all_goals (first | exact ⟨rfl, rfl⟩ | rfl)))); simp only [Act.put, L0, L1, L2]) | (refine Evo2.val ok 0 ?_ ?_ ?_; rotate_left; (intro w' hg; go_simp <;> with_reducible rfl); simp only [Act.put, L0, L1, L2])
      (refine Evo2.cal ok 1 ?_ 14 ?_ ?_ ?_ ?_; rotate_left 2; (focus (intro w'; go_simp <;> with_reducible rfl)); (focus (intro w' g'; with_reducible exact CX.out w' (HTX.out.chg (Chg.trans (Chg.refl (fun _ => False) _) g') (fun _ _ _ => id)))); simp only [Act.put, L0, L1, L2])
      first | (refine Evo2.val ok 2 ?_ ?_ ?_; rotate_left; (focus (intro w' hg; refine Box.exec_loadAll ?_ Tryz.underlying28 CE (BX.out.chg (Chg.trans (Chg.refl (fun _ => False) _) hg) id) ?_; (all_goals (first | exact ⟨rfl, rfl⟩ | rfl)))); simp only [Act.put, L0, L1, L2]) | (refine Evo2.val ok 2 ?_ ?_ ?_; rotate_left; (intro w' hg; go_simp <;> with_reducible rfl); simp only [Act.put, L0, L1, L2])
      (refine Evo2.cal ok 3 ?_ 15 ?_ ?_ ?_ ?_; rotate_left 2; (focus (intro w'; go_simp <;> with_reducible rfl)); (focus (intro w' g'; with_reducible exact RX.out w' (HTX.out.chg (Chg.trans (Chg.refl (fun _ => False) _) g') (fun _ _ _ => id)))); simp only [Act.put, L0, L1, L2])
      first | (refine Evo2.val ok 4 ?_ ?_ ?_; rotate_left; (intro w' hg; go_simp <;> with_reducible rfl); simp only [Act.put, L0, L1, L2])
      first | (refine Evo2.val ok 5 ?_ ?_ ?_; rotate_left; (intro w' hg; go_simp <;> with_reducible rfl); simp only [Act.put, L0, L1, L2])
      refine Evo2.done (by decide +kernel) (fun wz gz => ?_)
      have AZ := Chg.trans (Chg.refl (fun _ => False) _) (Chg.grow gz)
      have HM9 := Lib.hid (HM.out.grow (chg_none AZ))
      clear AZ BX
      go_wp2_with fail
      go_ret
      exact ⟨rfl, HM9.out.below⟩
    · skip
      go_wp2_with (first | (refine Mem.load1 2 (t := 3) rfl rfl rfl Tryz.underlying3 rfl HM.out rfl rfl ?_) | (refine Mem.store 2 (t := 3) rfl rfl rfl rfl (vs := [.int .i64 0]) rfl CI (Mem.alloc' HM.out _ _ rfl) rfl rfl (by simp) rfl ?_; intro wn5 HM5 C5))
      simp only [K0, K1, L1, L2, K2, K3, K4, K5, K6, K7, Nat.reduceAdd, Nat.reduceSub] at HM5
      replace HM := Lib.hid HM5
      have HTX := Lib.hid (HT.out.boxed (by first | exact Grow.G.refl _ | exact Grow.G.alloc (Grow.G.refl _) _) C5 HLB.out)
      clear C5 HT
      refine Stay.go ?_
      have CX := Lib.hid (fun w (h : TgtSl w a2 ({ E with n := 0 } : EvD).ts) => (show Calls Tryz.prog 14 #[.agg #[.int .i64 E.k, .string E.nm, .string E.tg, .int .i64 0, .int .i64 E.dr, .string E.c.nm, .int .i64 E.c.im, .int .i64 E.c.co, .int .i64 E.c.mn, .int .i64 E.c.mx, .int .i64 E.c.gr, .string E.rn, .string E.rc, .slice a2 E.ts.length c2, .int .i64 E.rr]] w fun x w' => x = .returned (.int .i64 ({ E with n := 0 } : EvD).chk) ∧ Grow.G w w' from echk_any ({ E with n := 0 } : EvD) a2 c2 w (have hb := ev_bd HCK.out h; ⟨hb.nm, hb.tg, hb.cn, hb.rn, hb.rc, hb.tl, hb.ts, hb.ok⟩)))
      have RX := Lib.hid (fun w (h : TgtSl w a2 ({ E with n := 0 } : EvD).ts) => (show Calls Tryz.prog 15 #[.agg #[.int .i64 E.k, .string E.nm, .string E.tg, .int .i64 0, .int .i64 E.dr, .string E.c.nm, .int .i64 E.c.im, .int .i64 E.c.co, .int .i64 E.c.mn, .int .i64 E.c.mx, .int .i64 E.c.gr, .string E.rn, .string E.rc, .slice a2 E.ts.length c2, .int .i64 E.rr]] w fun x w' => x = .returned (.int .i64 ({ E with n := 0 } : EvD).chk) ∧ Grow.G w w' from rchk_any ({ E with n := 0 } : EvD) a2 c2 w (have hb := ev_bd HCK.out h; ⟨hb.nm, hb.tg, hb.cn, hb.rn, hb.rc, hb.tl, hb.ts, hb.ok⟩)))
      generalize ({ E with n := 0 } : EvD).chk = ck at *
      have BX := Lib.hid (HM.out.blk (i := 2) rfl)
      go_wp2_with fail
      refine Evo2.start' (ℓ := none) (S := Chg (fun _ => False)) (E := Grow.G) (by kernel_rfl) ⟨Chg.pre _, by decide +kernel, (by intro c a d v w h; cases d <;> exact h), by decide +kernel⟩ (fun ok => ?_)
      first | (refine Evo2.val ok 0 ?_ ?_ ?_; rotate_left; (focus (intro w' hg; refine Box.exec_loadAll ?_ Tryz.underlying28 CE (BX.out.chg (Chg.trans (Chg.refl (fun _ => False) _) hg) id) ?_; (all_goals (first | exact ⟨rfl, rfl⟩ | rfl)))); simp only [Act.put, L0, L1, L2]) | (refine Evo2.val ok 0 ?_ ?_ ?_; rotate_left; (intro w' hg; go_simp <;> with_reducible rfl); simp only [Act.put, L0, L1, L2])
      (refine Evo2.cal ok 1 ?_ 14 ?_ ?_ ?_ ?_; rotate_left 2; (focus (intro w'; go_simp <;> with_reducible rfl)); (focus (intro w' g'; with_reducible exact CX.out w' (HTX.out.chg (Chg.trans (Chg.refl (fun _ => False) _) g') (fun _ _ _ => id)))); simp only [Act.put, L0, L1, L2])
      first | (refine Evo2.val ok 2 ?_ ?_ ?_; rotate_left; (focus (intro w' hg; refine Box.exec_loadAll ?_ Tryz.underlying28 CE (BX.out.chg (Chg.trans (Chg.refl (fun _ => False) _) hg) id) ?_; (all_goals (first | exact ⟨rfl, rfl⟩ | rfl)))); simp only [Act.put, L0, L1, L2]) | (refine Evo2.val ok 2 ?_ ?_ ?_; rotate_left; (intro w' hg; go_simp <;> with_reducible rfl); simp only [Act.put, L0, L1, L2])
      (refine Evo2.cal ok 3 ?_ 15 ?_ ?_ ?_ ?_; rotate_left 2; (focus (intro w'; go_simp <;> with_reducible rfl)); (focus (intro w' g'; with_reducible exact RX.out w' (HTX.out.chg (Chg.trans (Chg.refl (fun _ => False) _) g') (fun _ _ _ => id)))); simp only [Act.put, L0, L1, L2])
      first | (refine Evo2.val ok 4 ?_ ?_ ?_; rotate_left; (intro w' hg; go_simp <;> with_reducible rfl); simp only [Act.put, L0, L1, L2])
      first | (refine Evo2.val ok 5 ?_ ?_ ?_; rotate_left; (intro w' hg; go_simp <;> with_reducible rfl); simp only [Act.put, L0, L1, L2])
      refine Evo2.done (by decide +kernel) (fun wz gz => ?_)
      have AZ := Chg.trans (Chg.refl (fun _ => False) _) (Chg.grow gz)
      have HM9 := Lib.hid (HM.out.grow (chg_none AZ))
      clear AZ BX
      go_wp2_with fail
      go_ret
      exact ⟨rfl, HM9.out.below⟩
    · skip
      go_wp2_with (first | (refine Mem.load1 2 (t := 3) rfl rfl rfl Tryz.underlying3 rfl HM.out rfl rfl ?_) | (refine Mem.store 2 (t := 3) rfl rfl rfl rfl (vs := [.int .i64 3]) rfl CI (Mem.alloc' HM.out _ _ rfl) rfl rfl (by simp) rfl ?_; intro wn5 HM5 C5))
      simp only [K0, K1, L1, L2, K2, K3, K4, K5, K6, K7, Nat.reduceAdd, Nat.reduceSub] at HM5
      replace HM := Lib.hid HM5
      have HTX := Lib.hid (HT.out.boxed (by first | exact Grow.G.refl _ | exact Grow.G.alloc (Grow.G.refl _) _) C5 HLB.out)
      clear C5 HT
      refine Stay.go ?_
      have CX := Lib.hid (fun w (h : TgtSl w a2 ({ E with n := 3 } : EvD).ts) => (show Calls Tryz.prog 14 #[.agg #[.int .i64 E.k, .string E.nm, .string E.tg, .int .i64 3, .int .i64 E.dr, .string E.c.nm, .int .i64 E.c.im, .int .i64 E.c.co, .int .i64 E.c.mn, .int .i64 E.c.mx, .int .i64 E.c.gr, .string E.rn, .string E.rc, .slice a2 E.ts.length c2, .int .i64 E.rr]] w fun x w' => x = .returned (.int .i64 ({ E with n := 3 } : EvD).chk) ∧ Grow.G w w' from echk_any ({ E with n := 3 } : EvD) a2 c2 w (have hb := ev_bd HCK.out h; ⟨hb.nm, hb.tg, hb.cn, hb.rn, hb.rc, hb.tl, hb.ts, hb.ok⟩)))
      have RX := Lib.hid (fun w (h : TgtSl w a2 ({ E with n := 3 } : EvD).ts) => (show Calls Tryz.prog 15 #[.agg #[.int .i64 E.k, .string E.nm, .string E.tg, .int .i64 3, .int .i64 E.dr, .string E.c.nm, .int .i64 E.c.im, .int .i64 E.c.co, .int .i64 E.c.mn, .int .i64 E.c.mx, .int .i64 E.c.gr, .string E.rn, .string E.rc, .slice a2 E.ts.length c2, .int .i64 E.rr]] w fun x w' => x = .returned (.int .i64 ({ E with n := 3 } : EvD).chk) ∧ Grow.G w w' from rchk_any ({ E with n := 3 } : EvD) a2 c2 w (have hb := ev_bd HCK.out h; ⟨hb.nm, hb.tg, hb.cn, hb.rn, hb.rc, hb.tl, hb.ts, hb.ok⟩)))
      generalize ({ E with n := 3 } : EvD).chk = ck at *
      have BX := Lib.hid (HM.out.blk (i := 2) rfl)
      go_wp2_with fail
      refine Evo2.start' (ℓ := none) (S := Chg (fun _ => False)) (E := Grow.G) (by kernel_rfl) ⟨Chg.pre _, by decide +kernel, (by intro c a d v w h; cases d <;> exact h), by decide +kernel⟩ (fun ok => ?_)
      first | (refine Evo2.val ok 0 ?_ ?_ ?_; rotate_left; (focus (intro w' hg; refine Box.exec_loadAll ?_ Tryz.underlying28 CE (BX.out.chg (Chg.trans (Chg.refl (fun _ => False) _) hg) id) ?_; (all_goals (first | exact ⟨rfl, rfl⟩ | rfl)))); simp only [Act.put, L0, L1, L2]) | (refine Evo2.val ok 0 ?_ ?_ ?_; rotate_left; (intro w' hg; go_simp <;> with_reducible rfl); simp only [Act.put, L0, L1, L2])
      (refine Evo2.cal ok 1 ?_ 14 ?_ ?_ ?_ ?_; rotate_left 2; (focus (intro w'; go_simp <;> with_reducible rfl)); (focus (intro w' g'; with_reducible exact CX.out w' (HTX.out.chg (Chg.trans (Chg.refl (fun _ => False) _) g') (fun _ _ _ => id)))); simp only [Act.put, L0, L1, L2])
      first | (refine Evo2.val ok 2 ?_ ?_ ?_; rotate_left; (focus (intro w' hg; refine Box.exec_loadAll ?_ Tryz.underlying28 CE (BX.out.chg (Chg.trans (Chg.refl (fun _ => False) _) hg) id) ?_; (all_goals (first | exact ⟨rfl, rfl⟩ | rfl)))); simp only [Act.put, L0, L1, L2]) | (refine Evo2.val ok 2 ?_ ?_ ?_; rotate_left; (intro w' hg; go_simp <;> with_reducible rfl); simp only [Act.put, L0, L1, L2])
      (refine Evo2.cal ok 3 ?_ 15 ?_ ?_ ?_ ?_; rotate_left 2; (focus (intro w'; go_simp <;> with_reducible rfl)); (focus (intro w' g'; with_reducible exact RX.out w' (HTX.out.chg (Chg.trans (Chg.refl (fun _ => False) _) g') (fun _ _ _ => id)))); simp only [Act.put, L0, L1, L2])
      first | (refine Evo2.val ok 4 ?_ ?_ ?_; rotate_left; (intro w' hg; go_simp <;> with_reducible rfl); simp only [Act.put, L0, L1, L2])
      first | (refine Evo2.val ok 5 ?_ ?_ ?_; rotate_left; (intro w' hg; go_simp <;> with_reducible rfl); simp only [Act.put, L0, L1, L2])
      refine Evo2.done (by decide +kernel) (fun wz gz => ?_)
      have AZ := Chg.trans (Chg.refl (fun _ => False) _) (Chg.grow gz)
      have HM9 := Lib.hid (HM.out.grow (chg_none AZ))
      clear AZ BX
      go_wp2_with fail
      go_ret
      exact ⟨rfl, HM9.out.below⟩
    · skip
      go_wp2_with (first | (refine Mem.load1 2 (t := 3) rfl rfl rfl Tryz.underlying3 rfl HM.out rfl rfl ?_) | (refine Mem.store 2 (t := 3) rfl rfl rfl rfl (vs := [.int .i64 2147483647]) rfl CI (Mem.alloc' HM.out _ _ rfl) rfl rfl (by simp) rfl ?_; intro wn5 HM5 C5))
      simp only [K0, K1, L1, L2, K2, K3, K4, K5, K6, K7, Nat.reduceAdd, Nat.reduceSub] at HM5
      replace HM := Lib.hid HM5
      have HTX := Lib.hid (HT.out.boxed (by first | exact Grow.G.refl _ | exact Grow.G.alloc (Grow.G.refl _) _) C5 HLB.out)
      clear C5 HT
      refine Stay.go ?_
      have CX := Lib.hid (fun w (h : TgtSl w a2 ({ E with n := 2147483647 } : EvD).ts) => (show Calls Tryz.prog 14 #[.agg #[.int .i64 E.k, .string E.nm, .string E.tg, .int .i64 2147483647, .int .i64 E.dr, .string E.c.nm, .int .i64 E.c.im, .int .i64 E.c.co, .int .i64 E.c.mn, .int .i64 E.c.mx, .int .i64 E.c.gr, .string E.rn, .string E.rc, .slice a2 E.ts.length c2, .int .i64 E.rr]] w fun x w' => x = .returned (.int .i64 ({ E with n := 2147483647 } : EvD).chk) ∧ Grow.G w w' from echk_any ({ E with n := 2147483647 } : EvD) a2 c2 w (have hb := ev_bd HCK.out h; ⟨hb.nm, hb.tg, hb.cn, hb.rn, hb.rc, hb.tl, hb.ts, hb.ok⟩)))
      have RX := Lib.hid (fun w (h : TgtSl w a2 ({ E with n := 2147483647 } : EvD).ts) => (show Calls Tryz.prog 15 #[.agg #[.int .i64 E.k, .string E.nm, .string E.tg, .int .i64 2147483647, .int .i64 E.dr, .string E.c.nm, .int .i64 E.c.im, .int .i64 E.c.co, .int .i64 E.c.mn, .int .i64 E.c.mx, .int .i64 E.c.gr, .string E.rn, .string E.rc, .slice a2 E.ts.length c2, .int .i64 E.rr]] w fun x w' => x = .returned (.int .i64 ({ E with n := 2147483647 } : EvD).chk) ∧ Grow.G w w' from rchk_any ({ E with n := 2147483647 } : EvD) a2 c2 w (have hb := ev_bd HCK.out h; ⟨hb.nm, hb.tg, hb.cn, hb.rn, hb.rc, hb.tl, hb.ts, hb.ok⟩)))
      generalize ({ E with n := 2147483647 } : EvD).chk = ck at *
      have BX := Lib.hid (HM.out.blk (i := 2) rfl)
      go_wp2_with fail
      refine Evo2.start' (ℓ := none) (S := Chg (fun _ => False)) (E := Grow.G) (by kernel_rfl) ⟨Chg.pre _, by decide +kernel, (by intro c a d v w h; cases d <;> exact h), by decide +kernel⟩ (fun ok => ?_)
      first | (refine Evo2.val ok 0 ?_ ?_ ?_; rotate_left; (focus (intro w' hg; refine Box.exec_loadAll ?_ Tryz.underlying28 CE (BX.out.chg (Chg.trans (Chg.refl (fun _ => False) _) hg) id) ?_; (all_goals (first | exact ⟨rfl, rfl⟩ | rfl)))); simp only [Act.put, L0, L1, L2]) | (refine Evo2.val ok 0 ?_ ?_ ?_; rotate_left; (intro w' hg; go_simp <;> with_reducible rfl); simp only [Act.put, L0, L1, L2])
      (refine Evo2.cal ok 1 ?_ 14 ?_ ?_ ?_ ?_; rotate_left 2; (focus (intro w'; go_simp <;> with_reducible rfl)); (focus (intro w' g'; with_reducible exact CX.out w' (HTX.out.chg (Chg.trans (Chg.refl (fun _ => False) _) g') (fun _ _ _ => id)))); simp only [Act.put, L0, L1, L2])
      first | (refine Evo2.val ok 2 ?_ ?_ ?_; rotate_left; (focus (intro w' hg; refine Box.exec_loadAll ?_ Tryz.underlying28 CE (BX.out.chg (Chg.trans (Chg.refl (fun _ => False) _) hg) id) ?_; (all_goals (first | exact ⟨rfl, rfl⟩ | rfl)))); simp only [Act.put, L0, L1, L2]) | (refine Evo2.val ok 2 ?_ ?_ ?_; rotate_left; (intro w' hg; go_simp <;> with_reducible rfl); simp only [Act.put, L0, L1, L2])
      (refine Evo2.cal ok 3 ?_ 15 ?_ ?_ ?_ ?_; rotate_left 2; (focus (intro w'; go_simp <;> with_reducible rfl)); (focus (intro w' g'; with_reducible exact RX.out w' (HTX.out.chg (Chg.trans (Chg.refl (fun _ => False) _) g') (fun _ _ _ => id)))); simp only [Act.put, L0, L1, L2])
      first | (refine Evo2.val ok 4 ?_ ?_ ?_; rotate_left; (intro w' hg; go_simp <;> with_reducible rfl); simp only [Act.put, L0, L1, L2])
      first | (refine Evo2.val ok 5 ?_ ?_ ?_; rotate_left; (intro w' hg; go_simp <;> with_reducible rfl); simp only [Act.put, L0, L1, L2])
      refine Evo2.done (by decide +kernel) (fun wz gz => ?_)
      have AZ := Chg.trans (Chg.refl (fun _ => False) _) (Chg.grow gz)
      have HM9 := Lib.hid (HM.out.grow (chg_none AZ))
      clear AZ BX
      go_wp2_with fail
      go_ret
      exact ⟨rfl, HM9.out.below⟩
    · skip
      go_wp2_with (first | (refine Mem.load1 2 (t := 3) rfl rfl rfl Tryz.underlying3 rfl HM.out rfl rfl ?_) | (refine Mem.store 2 (t := 3) rfl rfl rfl rfl (vs := [.int .i64 2147483648]) rfl CI (Mem.alloc' HM.out _ _ rfl) rfl rfl (by simp) rfl ?_; intro wn5 HM5 C5))
      simp only [K0, K1, L1, L2, K2, K3, K4, K5, K6, K7, Nat.reduceAdd, Nat.reduceSub] at HM5
      replace HM := Lib.hid HM5
      have HTX := Lib.hid (HT.out.boxed (by first | exact Grow.G.refl _ | exact Grow.G.alloc (Grow.G.refl _) _) C5 HLB.out)
      clear C5 HT
      refine Stay.go ?_
      have CX := Lib.hid (fun w (h : TgtSl w a2 ({ E with n := 2147483648 } : EvD).ts) => (show Calls Tryz.prog 14 #[.agg #[.int .i64 E.k, .string E.nm, .string E.tg, .int .i64 2147483648, .int .i64 E.dr, .string E.c.nm, .int .i64 E.c.im, .int .i64 E.c.co, .int .i64 E.c.mn, .int .i64 E.c.mx, .int .i64 E.c.gr, .string E.rn, .string E.rc, .slice a2 E.ts.length c2, .int .i64 E.rr]] w fun x w' => x = .returned (.int .i64 ({ E with n := 2147483648 } : EvD).chk) ∧ Grow.G w w' from echk_any ({ E with n := 2147483648 } : EvD) a2 c2 w (have hb := ev_bd HCK.out h; ⟨hb.nm, hb.tg, hb.cn, hb.rn, hb.rc, hb.tl, hb.ts, hb.ok⟩)))
      have RX := Lib.hid (fun w (h : TgtSl w a2 ({ E with n := 2147483648 } : EvD).ts) => (show Calls Tryz.prog 15 #[.agg #[.int .i64 E.k, .string E.nm, .string E.tg, .int .i64 2147483648, .int .i64 E.dr, .string E.c.nm, .int .i64 E.c.im, .int .i64 E.c.co, .int .i64 E.c.mn, .int .i64 E.c.mx, .int .i64 E.c.gr, .string E.rn, .string E.rc, .slice a2 E.ts.length c2, .int .i64 E.rr]] w fun x w' => x = .returned (.int .i64 ({ E with n := 2147483648 } : EvD).chk) ∧ Grow.G w w' from rchk_any ({ E with n := 2147483648 } : EvD) a2 c2 w (have hb := ev_bd HCK.out h; ⟨hb.nm, hb.tg, hb.cn, hb.rn, hb.rc, hb.tl, hb.ts, hb.ok⟩)))
      generalize ({ E with n := 2147483648 } : EvD).chk = ck at *
      have BX := Lib.hid (HM.out.blk (i := 2) rfl)
      go_wp2_with fail
      refine Evo2.start' (ℓ := none) (S := Chg (fun _ => False)) (E := Grow.G) (by kernel_rfl) ⟨Chg.pre _, by decide +kernel, (by intro c a d v w h; cases d <;> exact h), by decide +kernel⟩ (fun ok => ?_)
      first | (refine Evo2.val ok 0 ?_ ?_ ?_; rotate_left; (focus (intro w' hg; refine Box.exec_loadAll ?_ Tryz.underlying28 CE (BX.out.chg (Chg.trans (Chg.refl (fun _ => False) _) hg) id) ?_; (all_goals (first | exact ⟨rfl, rfl⟩ | rfl)))); simp only [Act.put, L0, L1, L2]) | (refine Evo2.val ok 0 ?_ ?_ ?_; rotate_left; (intro w' hg; go_simp <;> with_reducible rfl); simp only [Act.put, L0, L1, L2])
      (refine Evo2.cal ok 1 ?_ 14 ?_ ?_ ?_ ?_; rotate_left 2; (focus (intro w'; go_simp <;> with_reducible rfl)); (focus (intro w' g'; with_reducible exact CX.out w' (HTX.out.chg (Chg.trans (Chg.refl (fun _ => False) _) g') (fun _ _ _ => id)))); simp only [Act.put, L0, L1, L2])
      first | (refine Evo2.val ok 2 ?_ ?_ ?_; rotate_left; (focus (intro w' hg; refine Box.exec_loadAll ?_ Tryz.underlying28 CE (BX.out.chg (Chg.trans (Chg.refl (fun _ => False) _) hg) id) ?_; (all_goals (first | exact ⟨rfl, rfl⟩ | rfl)))); simp only [Act.put, L0, L1, L2]) | (refine Evo2.val ok 2 ?_ ?_ ?_; rotate_left; (intro w' hg; go_simp <;> with_reducible rfl); simp only [Act.put, L0, L1, L2])
      (refine Evo2.cal ok 3 ?_ 15 ?_ ?_ ?_ ?_; rotate_left 2; (focus (intro w'; go_simp <;> with_reducible rfl)); (focus (intro w' g'; with_reducible exact RX.out w' (HTX.out.chg (Chg.trans (Chg.refl (fun _ => False) _) g') (fun _ _ _ => id)))); simp only [Act.put, L0, L1, L2])
      first | (refine Evo2.val ok 4 ?_ ?_ ?_; rotate_left; (intro w' hg; go_simp <;> with_reducible rfl); simp only [Act.put, L0, L1, L2])
      first | (refine Evo2.val ok 5 ?_ ?_ ?_; rotate_left; (intro w' hg; go_simp <;> with_reducible rfl); simp only [Act.put, L0, L1, L2])
      refine Evo2.done (by decide +kernel) (fun wz gz => ?_)
      have AZ := Chg.trans (Chg.refl (fun _ => False) _) (Chg.grow gz)
      have HM9 := Lib.hid (HM.out.grow (chg_none AZ))
      clear AZ BX
      go_wp2_with fail
      go_ret
      exact ⟨rfl, HM9.out.below⟩
    · skip
      go_wp2_with (first | (refine Mem.load1 2 (t := 3) rfl rfl rfl Tryz.underlying3 rfl HM.out rfl rfl ?_) | (refine Mem.store 2 (t := 3) rfl rfl rfl rfl (vs := [.int .i64 k]) rfl CI (Mem.alloc' HM.out _ _ rfl) rfl rfl (by simp) rfl ?_; intro wn5 HM5 C5))
      simp only [K0, K1, L1, L2, K2, K3, K4, K5, K6, K7, Nat.reduceAdd, Nat.reduceSub] at HM5
      replace HM := Lib.hid HM5
      have HTX := Lib.hid (HT.out.boxed (by first | exact Grow.G.refl _ | exact Grow.G.alloc (Grow.G.refl _) _) C5 HLB.out)
      clear C5 HT
      refine Stay.go ?_
      have CX := Lib.hid (fun w (h : TgtSl w a2 ({ E with n := k } : EvD).ts) => (show Calls Tryz.prog 14 #[.agg #[.int .i64 E.k, .string E.nm, .string E.tg, .int .i64 k, .int .i64 E.dr, .string E.c.nm, .int .i64 E.c.im, .int .i64 E.c.co, .int .i64 E.c.mn, .int .i64 E.c.mx, .int .i64 E.c.gr, .string E.rn, .string E.rc, .slice a2 E.ts.length c2, .int .i64 E.rr]] w fun x w' => x = .returned (.int .i64 ({ E with n := k } : EvD).chk) ∧ Grow.G w w' from echk_any ({ E with n := k } : EvD) a2 c2 w (have hb := ev_bd HCK.out h; ⟨hb.nm, hb.tg, hb.cn, hb.rn, hb.rc, hb.tl, hb.ts, hb.ok⟩)))
      have RX := Lib.hid (fun w (h : TgtSl w a2 ({ E with n := k } : EvD).ts) => (show Calls Tryz.prog 15 #[.agg #[.int .i64 E.k, .string E.nm, .string E.tg, .int .i64 k, .int .i64 E.dr, .string E.c.nm, .int .i64 E.c.im, .int .i64 E.c.co, .int .i64 E.c.mn, .int .i64 E.c.mx, .int .i64 E.c.gr, .string E.rn, .string E.rc, .slice a2 E.ts.length c2, .int .i64 E.rr]] w fun x w' => x = .returned (.int .i64 ({ E with n := k } : EvD).chk) ∧ Grow.G w w' from rchk_any ({ E with n := k } : EvD) a2 c2 w (have hb := ev_bd HCK.out h; ⟨hb.nm, hb.tg, hb.cn, hb.rn, hb.rc, hb.tl, hb.ts, hb.ok⟩)))
      generalize ({ E with n := k } : EvD).chk = ck at *
      have BX := Lib.hid (HM.out.blk (i := 2) rfl)
      go_wp2_with fail
      refine Evo2.start' (ℓ := none) (S := Chg (fun _ => False)) (E := Grow.G) (by kernel_rfl) ⟨Chg.pre _, by decide +kernel, (by intro c a d v w h; cases d <;> exact h), by decide +kernel⟩ (fun ok => ?_)
      first | (refine Evo2.val ok 0 ?_ ?_ ?_; rotate_left; (focus (intro w' hg; refine Box.exec_loadAll ?_ Tryz.underlying28 CE (BX.out.chg (Chg.trans (Chg.refl (fun _ => False) _) hg) id) ?_; (all_goals (first | exact ⟨rfl, rfl⟩ | rfl)))); simp only [Act.put, L0, L1, L2]) | (refine Evo2.val ok 0 ?_ ?_ ?_; rotate_left; (intro w' hg; go_simp <;> with_reducible rfl); simp only [Act.put, L0, L1, L2])
      (refine Evo2.cal ok 1 ?_ 14 ?_ ?_ ?_ ?_; rotate_left 2; (focus (intro w'; go_simp <;> with_reducible rfl)); (focus (intro w' g'; with_reducible exact CX.out w' (HTX.out.chg (Chg.trans (Chg.refl (fun _ => False) _) g') (fun _ _ _ => id)))); simp only [Act.put, L0, L1, L2])
      first | (refine Evo2.val ok 2 ?_ ?_ ?_; rotate_left; (focus (intro w' hg; refine Box.exec_loadAll ?_ Tryz.underlying28 CE (BX.out.chg (Chg.trans (Chg.refl (fun _ => False) _) hg) id) ?_; (all_goals (first | exact ⟨rfl, rfl⟩ | rfl)))); simp only [Act.put, L0, L1, L2]) | (refine Evo2.val ok 2 ?_ ?_ ?_; rotate_left; (intro w' hg; go_simp <;> with_reducible rfl); simp only [Act.put, L0, L1, L2])
      (refine Evo2.cal ok 3 ?_ 15 ?_ ?_ ?_ ?_; rotate_left 2; (focus (intro w'; go_simp <;> with_reducible rfl)); (focus (intro w' g'; with_reducible exact RX.out w' (HTX.out.chg (Chg.trans (Chg.refl (fun _ => False) _) g') (fun _ _ _ => id)))); simp only [Act.put, L0, L1, L2])
      first | (refine Evo2.val ok 4 ?_ ?_ ?_; rotate_left; (intro w' hg; go_simp <;> with_reducible rfl); simp only [Act.put, L0, L1, L2])
      first | (refine Evo2.val ok 5 ?_ ?_ ?_; rotate_left; (intro w' hg; go_simp <;> with_reducible rfl); simp only [Act.put, L0, L1, L2])
      refine Evo2.done (by decide +kernel) (fun wz gz => ?_)
      have AZ := Chg.trans (Chg.refl (fun _ => False) _) (Chg.grow gz)
      have HM9 := Lib.hid (HM.out.grow (chg_none AZ))
      clear AZ BX
      go_wp2_with fail
      go_ret
      exact ⟨rfl, HM9.out.below⟩
  · go_wp2_with fail
    refine (W5.out _).mono ?_
    rintro e wx ⟨rfl, rfl⟩
    rcases H5.out with rfl | rfl | rfl | rfl | rfl
    · skip
      go_wp2_with (first | (refine Mem.load1 2 (t := 3) rfl rfl rfl Tryz.underlying3 rfl HM.out rfl rfl ?_) | (refine Mem.store 2 (t := 3) rfl rfl rfl rfl (vs := [.int .i64 (-1)]) rfl CI (Mem.alloc' HM.out _ _ rfl) rfl rfl (by simp) rfl ?_; intro wn5 HM5 C5))
      simp only [K0, K1, L1, L2, K2, K3, K4, K5, K6, K7, Nat.reduceAdd, Nat.reduceSub] at HM5
      replace HM := Lib.hid HM5
      have HTX := Lib.hid (HT.out.boxed (by first | exact Grow.G.refl _ | exact Grow.G.alloc (Grow.G.refl _) _) C5 HLB.out)
      clear C5 HT
      refine Stay.go ?_
      have CX := Lib.hid (fun w (h : TgtSl w a2 ({ E with dr := (-1) } : EvD).ts) => (show Calls Tryz.prog 14 #[.agg #[.int .i64 E.k, .string E.nm, .string E.tg, .int .i64 E.n, .int .i64 (-1), .string E.c.nm, .int .i64 E.c.im, .int .i64 E.c.co, .int .i64 E.c.mn, .int .i64 E.c.mx, .int .i64 E.c.gr, .string E.rn, .string E.rc, .slice a2 E.ts.length c2, .int .i64 E.rr]] w fun x w' => x = .returned (.int .i64 ({ E with dr := (-1) } : EvD).chk) ∧ Grow.G w w' from echk_any ({ E with dr := (-1) } : EvD) a2 c2 w (have hb := ev_bd HCK.out h; ⟨hb.nm, hb.tg, hb.cn, hb.rn, hb.rc, hb.tl, hb.ts, hb.ok⟩)))
      have RX := Lib.hid (fun w (h : TgtSl w a2 ({ E with dr := (-1) } : EvD).ts) => (show Calls Tryz.prog 15 #[.agg #[.int .i64 E.k, .string E.nm, .string E.tg, .int .i64 E.n, .int .i64 (-1), .string E.c.nm, .int .i64 E.c.im, .int .i64 E.c.co, .int .i64 E.c.mn, .int .i64 E.c.mx, .int .i64 E.c.gr, .string E.rn, .string E.rc, .slice a2 E.ts.length c2, .int .i64 E.rr]] w fun x w' => x = .returned (.int .i64 ({ E with dr := (-1) } : EvD).chk) ∧ Grow.G w w' from rchk_any ({ E with dr := (-1) } : EvD) a2 c2 w (have hb := ev_bd HCK.out h; ⟨hb.nm, hb.tg, hb.cn, hb.rn, hb.rc, hb.tl, hb.ts, hb.ok⟩)))
      generalize ({ E with dr := (-1) } : EvD).chk = ck at *
      have BX := Lib.hid (HM.out.blk (i := 2) rfl)
      go_wp2_with fail
      refine Evo2.start' (ℓ := none) (S := Chg (fun _ => False)) (E := Grow.G) (by kernel_rfl) ⟨Chg.pre _, by decide +kernel, (by intro c a d v w h; cases d <;> exact h), by decide +kernel⟩ (fun ok => ?_)
      first | (refine Evo2.val ok 0 ?_ ?_ ?_; rotate_left; (focus (intro w' hg; refine Box.exec_loadAll ?_ Tryz.underlying28 CE (BX.out.chg (Chg.trans (Chg.refl (fun _ => False) _) hg) id) ?_; (all_goals (first | exact ⟨rfl, rfl⟩ | rfl)))); simp only [Act.put, L0, L1, L2]) | (refine Evo2.val ok 0 ?_ ?_ ?_; rotate_left; (intro w' hg; go_simp <;> with_reducible rfl); simp only [Act.put, L0, L1, L2])
      (refine Evo2.cal ok 1 ?_ 14 ?_ ?_ ?_ ?_; rotate_left 2; (focus (intro w'; go_simp <;> with_reducible rfl)); (focus (intro w' g'; with_reducible exact CX.out w' (HTX.out.chg (Chg.trans (Chg.refl (fun _ => False) _) g') (fun _ _ _ => id)))); simp only [Act.put, L0, L1, L2])
      first | (refine Evo2.val ok 2 ?_ ?_ ?_; rotate_left; (focus (intro w' hg; refine Box.exec_loadAll ?_ Tryz.underlying28 CE (BX.out.chg (Chg.trans (Chg.refl (fun _ => False) _) hg) id) ?_; (all_goals (first | exact ⟨rfl, rfl⟩ | rfl)))); simp only [Act.put, L0, L1, L2]) | (refine Evo2.val ok 2 ?_ ?_ ?_; rotate_left; (intro w' hg; go_simp <;> with_reducible rfl); simp only [Act.put, L0, L1, L2])
      (refine Evo2.cal ok 3 ?_ 15 ?_ ?_ ?_ ?_; rotate_left 2; (focus (intro w'; go_simp <;> with_reducible rfl)); (focus (intro w' g'; with_reducible exact RX.out w' (HTX.out.chg (Chg.trans (Chg.refl (fun _ => False) _) g') (fun _ _ _ => id)))); simp only [Act.put, L0, L1, L2])
      first | (refine Evo2.val ok 4 ?_ ?_ ?_; rotate_left; (intro w' hg; go_simp <;> with_reducible rfl); simp only [Act.put, L0, L1, L2])
      first | (refine Evo2.val ok 5 ?_ ?_ ?_; rotate_left; (intro w' hg; go_simp <;> with_reducible rfl); simp only [Act.put, L0, L1, L2])
      refine Evo2.done (by decide +kernel) (fun wz gz => ?_)
      have AZ := Chg.trans (Chg.refl (fun _ => False) _) (Chg.grow gz)
      have HM9 := Lib.hid (HM.out.grow (chg_none AZ))
      clear AZ BX
      go_wp2_with fail
      go_ret
      exact ⟨rfl, HM9.out.below⟩
    · skip
      go_wp2_with (first | (refine Mem.load1 2 (t := 3) rfl rfl rfl Tryz.underlying3 rfl HM.out rfl rfl ?_) | (refine Mem.store 2 (t := 3) rfl rfl rfl rfl (vs := [.int .i64 0]) rfl CI (Mem.alloc' HM.out _ _ rfl) rfl rfl (by simp) rfl ?_; intro wn5 HM5 C5))
      simp only [K0, K1, L1, L2, K2, K3, K4, K5, K6, K7, Nat.reduceAdd, Nat.reduceSub] at HM5
      replace HM := Lib.hid HM5
      have HTX := Lib.hid (HT.out.boxed (by first | exact Grow.G.refl _ | exact Grow.G.alloc (Grow.G.refl _) _) C5 HLB.out)
      clear C5 HT
      refine Stay.go ?_
      have CX := Lib.hid (fun w (h : TgtSl w a2 ({ E with dr := 0 } : EvD).ts) => (show Calls Tryz.prog 14 #[.agg #[.int .i64 E.k, .string E.nm, .string E.tg, .int .i64 E.n, .int .i64 0, .string E.c.nm, .int .i64 E.c.im, .int .i64 E.c.co, .int .i64 E.c.mn, .int .i64 E.c.mx, .int .i64 E.c.gr, .string E.rn, .string E.rc, .slice a2 E.ts.length c2, .int .i64 E.rr]] w fun x w' => x = .returned (.int .i64 ({ E with dr := 0 } : EvD).chk) ∧ Grow.G w w' from echk_any ({ E with dr := 0 } : EvD) a2 c2 w (have hb := ev_bd HCK.out h; ⟨hb.nm, hb.tg, hb.cn, hb.rn, hb.rc, hb.tl, hb.ts, hb.ok⟩)))
      have RX := Lib.hid (fun w (h : TgtSl w a2 ({ E with dr := 0 } : EvD).ts) => (show Calls Tryz.prog 15 #[.agg #[.int .i64 E.k, .string E.nm, .string E.tg, .int .i64 E.n, .int .i64 0, .string E.c.nm, .int .i64 E.c.im, .int .i64 E.c.co, .int .i64 E.c.mn, .int .i64 E.c.mx, .int .i64 E.c.gr, .string E.rn, .string E.rc, .slice a2 E.ts.length c2, .int .i64 E.rr]] w fun x w' => x = .returned (.int .i64 ({ E with dr := 0 } : EvD).chk) ∧ Grow.G w w' from rchk_any ({ E with dr := 0 } : EvD) a2 c2 w (have hb := ev_bd HCK.out h; ⟨hb.nm, hb.tg, hb.cn, hb.rn, hb.rc, hb.tl, hb.ts, hb.ok⟩)))
      generalize ({ E with dr := 0 } : EvD).chk = ck at *
      have BX := Lib.hid (HM.out.blk (i := 2) rfl)
      go_wp2_with fail
      refine Evo2.start' (ℓ := none) (S := Chg (fun _ => False)) (E := Grow.G) (by kernel_rfl) ⟨Chg.pre _, by decide +kernel, (by intro c a d v w h; cases d <;> exact h), by decide +kernel⟩ (fun ok => ?_)
      first | (refine Evo2.val ok 0 ?_ ?_ ?_; rotate_left; (focus (intro w' hg; refine Box.exec_loadAll ?_ Tryz.underlying28 CE (BX.out.chg (Chg.trans (Chg.refl (fun _ => False) _) hg) id) ?_; (all_goals (first | exact ⟨rfl, rfl⟩ | rfl)))); simp only [Act.put, L0, L1, L2]) | (refine Evo2.val ok 0 ?_ ?_ ?_; rotate_left; (intro w' hg; go_simp <;> with_reducible rfl); simp only [Act.put, L0, L1, L2])
      (refine Evo2.cal ok 1 ?_ 14 ?_ ?_ ?_ ?_; rotate_left 2; (focus (intro w'; go_simp <;> with_reducible rfl)); (focus (intro w' g'; with_reducible exact CX.out w' (HTX.out.chg (Chg.trans (Chg.refl (fun _ => False) _) g') (fun _ _ _ => id)))); simp only [Act.put, L0, L1, L2])
      first | (refine Evo2.val ok 2 ?_ ?_ ?_; rotate_left; (focus (intro w' hg; refine Box.exec_loadAll ?_ Tryz.underlying28 CE (BX.out.chg (Chg.trans (Chg.refl (fun _ => False) _) hg) id) ?_; (all_goals (first | exact ⟨rfl, rfl⟩ | rfl)))); simp only [Act.put, L0, L1, L2]) | (refine Evo2.val ok 2 ?_ ?_ ?_; rotate_left; (intro w' hg; go_simp <;> with_reducible rfl); simp only [Act.put, L0, L1, L2])
      (refine Evo2.cal ok 3 ?_ 15 ?_ ?_ ?_ ?_; rotate_left 2; (focus (intro w'; go_simp <;> with_reducible rfl)); (focus (intro w' g'; with_reducible exact RX.out w' (HTX.out.chg (Chg.trans (Chg.refl (fun _ => False) _) g') (fun _ _ _ => id)))); simp only [Act.put, L0, L1, L2])
      first | (refine Evo2.val ok 4 ?_ ?_ ?_; rotate_left; (intro w' hg; go_simp <;> with_reducible rfl); simp only [Act.put, L0, L1, L2])
      first | (refine Evo2.val ok 5 ?_ ?_ ?_; rotate_left; (intro w' hg; go_simp <;> with_reducible rfl); simp only [Act.put, L0, L1, L2])
      refine Evo2.done (by decide +kernel) (fun wz gz => ?_)
      have AZ := Chg.trans (Chg.refl (fun _ => False) _) (Chg.grow gz)
      have HM9 := Lib.hid (HM.out.grow (chg_none AZ))
      clear AZ BX
      go_wp2_with fail
      go_ret
      exact ⟨rfl, HM9.out.below⟩
    · skip
      go_wp2_with (first | (refine Mem.load1 2 (t := 3) rfl rfl rfl Tryz.underlying3 rfl HM.out rfl rfl ?_) | (refine Mem.store 2 (t := 3) rfl rfl rfl rfl (vs := [.int .i64 2147483647]) rfl CI (Mem.alloc' HM.out _ _ rfl) rfl rfl (by simp) rfl ?_; intro wn5 HM5 C5))
      simp only [K0, K1, L1, L2, K2, K3, K4, K5, K6, K7, Nat.reduceAdd, Nat.reduceSub] at HM5
      replace HM := Lib.hid HM5
      have HTX := Lib.hid (HT.out.boxed (by first | exact Grow.G.refl _ | exact Grow.G.alloc (Grow.G.refl _) _) C5 HLB.out)
      clear C5 HT
      refine Stay.go ?_
      have CX := Lib.hid (fun w (h : TgtSl w a2 ({ E with dr := 2147483647 } : EvD).ts) => (show Calls Tryz.prog 14 #[.agg #[.int .i64 E.k, .string E.nm, .string E.tg, .int .i64 E.n, .int .i64 2147483647, .string E.c.nm, .int .i64 E.c.im, .int .i64 E.c.co, .int .i64 E.c.mn, .int .i64 E.c.mx, .int .i64 E.c.gr, .string E.rn, .string E.rc, .slice a2 E.ts.length c2, .int .i64 E.rr]] w fun x w' => x = .returned (.int .i64 ({ E with dr := 2147483647 } : EvD).chk) ∧ Grow.G w w' from echk_any ({ E with dr := 2147483647 } : EvD) a2 c2 w (have hb := ev_bd HCK.out h; ⟨hb.nm, hb.tg, hb.cn, hb.rn, hb.rc, hb.tl, hb.ts, hb.ok⟩)))
      have RX := Lib.hid (fun w (h : TgtSl w a2 ({ E with dr := 2147483647 } : EvD).ts) => (show Calls Tryz.prog 15 #[.agg #[.int .i64 E.k, .string E.nm, .string E.tg, .int .i64 E.n, .int .i64 2147483647, .string E.c.nm, .int .i64 E.c.im, .int .i64 E.c.co, .int .i64 E.c.mn, .int .i64 E.c.mx, .int .i64 E.c.gr, .string E.rn, .string E.rc, .slice a2 E.ts.length c2, .int .i64 E.rr]] w fun x w' => x = .returned (.int .i64 ({ E with dr := 2147483647 } : EvD).chk) ∧ Grow.G w w' from rchk_any ({ E with dr := 2147483647 } : EvD) a2 c2 w (have hb := ev_bd HCK.out h; ⟨hb.nm, hb.tg, hb.cn, hb.rn, hb.rc, hb.tl, hb.ts, hb.ok⟩)))
      generalize ({ E with dr := 2147483647 } : EvD).chk = ck at *
      have BX := Lib.hid (HM.out.blk (i := 2) rfl)
      go_wp2_with fail
      refine Evo2.start' (ℓ := none) (S := Chg (fun _ => False)) (E := Grow.G) (by kernel_rfl) ⟨Chg.pre _, by decide +kernel, (by intro c a d v w h; cases d <;> exact h), by decide +kernel⟩ (fun ok => ?_)
      first | (refine Evo2.val ok 0 ?_ ?_ ?_; rotate_left; (focus (intro w' hg; refine Box.exec_loadAll ?_ Tryz.underlying28 CE (BX.out.chg (Chg.trans (Chg.refl (fun _ => False) _) hg) id) ?_; (all_goals (first | exact ⟨rfl, rfl⟩ | rfl)))); simp only [Act.put, L0, L1, L2]) | (refine Evo2.val ok 0 ?_ ?_ ?_; rotate_left; (intro w' hg; go_simp <;> with_reducible rfl); simp only [Act.put, L0, L1, L2])
      (refine Evo2.cal ok 1 ?_ 14 ?_ ?_ ?_ ?_; rotate_left 2; (focus (intro w'; go_simp <;> with_reducible rfl)); (focus (intro w' g'; with_reducible exact CX.out w' (HTX.out.chg (Chg.trans (Chg.refl (fun _ => False) _) g') (fun _ _ _ => id)))); simp only [Act.put, L0, L1, L2])
      first | (refine Evo2.val ok 2 ?_ ?_ ?_; rotate_left; (focus (intro w' hg; refine Box.exec_loadAll ?_ Tryz.underlying28 CE (BX.out.chg (Chg.trans (Chg.refl (fun _ => False) _) hg) id) ?_; (all_goals (first | exact ⟨rfl, rfl⟩ | rfl)))); simp only [Act.put, L0, L1, L2]) | (refine Evo2.val ok 2 ?_ ?_ ?_; rotate_left; (intro w' hg; go_simp <;> with_reducible rfl); simp only [Act.put, L0, L1, L2])
      (refine Evo2.cal ok 3 ?_ 15 ?_ ?_ ?_ ?_; rotate_left 2; (focus (intro w'; go_simp <;> with_reducible rfl)); (focus (intro w' g'; with_reducible exact RX.out w' (HTX.out.chg (Chg.trans (Chg.refl (fun _ => False) _) g') (fun _ _ _ => id)))); simp only [Act.put, L0, L1, L2])
      first | (refine Evo2.val ok 4 ?_ ?_ ?_; rotate_left; (intro w' hg; go_simp <;> with_reducible rfl); simp only [Act.put, L0, L1, L2])
      first | (refine Evo2.val ok 5 ?_ ?_ ?_; rotate_left; (intro w' hg; go_simp <;> with_reducible rfl); simp only [Act.put, L0, L1, L2])
      refine Evo2.done (by decide +kernel) (fun wz gz => ?_)
      have AZ := Chg.trans (Chg.refl (fun _ => False) _) (Chg.grow gz)
      have HM9 := Lib.hid (HM.out.grow (chg_none AZ))
      clear AZ BX
      go_wp2_with fail
      go_ret
      exact ⟨rfl, HM9.out.below⟩
    · skip
      go_wp2_with (first | (refine Mem.load1 2 (t := 3) rfl rfl rfl Tryz.underlying3 rfl HM.out rfl rfl ?_) | (refine Mem.store 2 (t := 3) rfl rfl rfl rfl (vs := [.int .i64 2147483648]) rfl CI (Mem.alloc' HM.out _ _ rfl) rfl rfl (by simp) rfl ?_; intro wn5 HM5 C5))
      simp only [K0, K1, L1, L2, K2, K3, K4, K5, K6, K7, Nat.reduceAdd, Nat.reduceSub] at HM5
      replace HM := Lib.hid HM5
      have HTX := Lib.hid (HT.out.boxed (by first | exact Grow.G.refl _ | exact Grow.G.alloc (Grow.G.refl _) _) C5 HLB.out)
      clear C5 HT
      refine Stay.go ?_
      have CX := Lib.hid (fun w (h : TgtSl w a2 ({ E with dr := 2147483648 } : EvD).ts) => (show Calls Tryz.prog 14 #[.agg #[.int .i64 E.k, .string E.nm, .string E.tg, .int .i64 E.n, .int .i64 2147483648, .string E.c.nm, .int .i64 E.c.im, .int .i64 E.c.co, .int .i64 E.c.mn, .int .i64 E.c.mx, .int .i64 E.c.gr, .string E.rn, .string E.rc, .slice a2 E.ts.length c2, .int .i64 E.rr]] w fun x w' => x = .returned (.int .i64 ({ E with dr := 2147483648 } : EvD).chk) ∧ Grow.G w w' from echk_any ({ E with dr := 2147483648 } : EvD) a2 c2 w (have hb := ev_bd HCK.out h; ⟨hb.nm, hb.tg, hb.cn, hb.rn, hb.rc, hb.tl, hb.ts, hb.ok⟩)))
      have RX := Lib.hid (fun w (h : TgtSl w a2 ({ E with dr := 2147483648 } : EvD).ts) => (show Calls Tryz.prog 15 #[.agg #[.int .i64 E.k, .string E.nm, .string E.tg, .int .i64 E.n, .int .i64 2147483648, .string E.c.nm, .int .i64 E.c.im, .int .i64 E.c.co, .int .i64 E.c.mn, .int .i64 E.c.mx, .int .i64 E.c.gr, .string E.rn, .string E.rc, .slice a2 E.ts.length c2, .int .i64 E.rr]] w fun x w' => x = .returned (.int .i64 ({ E with dr := 2147483648 } : EvD).chk) ∧ Grow.G w w' from rchk_any ({ E with dr := 2147483648 } : EvD) a2 c2 w (have hb := ev_bd HCK.out h; ⟨hb.nm, hb.tg, hb.cn, hb.rn, hb.rc, hb.tl, hb.ts, hb.ok⟩)))
      generalize ({ E with dr := 2147483648 } : EvD).chk = ck at *
      have BX := Lib.hid (HM.out.blk (i := 2) rfl)
      go_wp2_with fail
      refine Evo2.start' (ℓ := none) (S := Chg (fun _ => False)) (E := Grow.G) (by kernel_rfl) ⟨Chg.pre _, by decide +kernel, (by intro c a d v w h; cases d <;> exact h), by decide +kernel⟩ (fun ok => ?_)
      first | (refine Evo2.val ok 0 ?_ ?_ ?_; rotate_left; (focus (intro w' hg; refine Box.exec_loadAll ?_ Tryz.underlying28 CE (BX.out.chg (Chg.trans (Chg.refl (fun _ => False) _) hg) id) ?_; (all_goals (first | exact ⟨rfl, rfl⟩ | rfl)))); simp only [Act.put, L0, L1, L2]) | (refine Evo2.val ok 0 ?_ ?_ ?_; rotate_left; (intro w' hg; go_simp <;> with_reducible rfl); simp only [Act.put, L0, L1, L2])
      (refine Evo2.cal ok 1 ?_ 14 ?_ ?_ ?_ ?_; rotate_left 2; (focus (intro w'; go_simp <;> with_reducible rfl)); (focus (intro w' g'; with_reducible exact CX.out w' (HTX.out.chg (Chg.trans (Chg.refl (fun _ => False) _) g') (fun _ _ _ => id)))); simp only [Act.put, L0, L1, L2])
      first | (refine Evo2.val ok 2 ?_ ?_ ?_; rotate_left; (focus (intro w' hg; refine Box.exec_loadAll ?_ Tryz.underlying28 CE (BX.out.chg (Chg.trans (Chg.refl (fun _ => False) _) hg) id) ?_; (all_goals (first | exact ⟨rfl, rfl⟩ | rfl)))); simp only [Act.put, L0, L1, L2]) | (refine Evo2.val ok 2 ?_ ?_ ?_; rotate_left; (intro w' hg; go_simp <;> with_reducible rfl); simp only [Act.put, L0, L1, L2])
      (refine Evo2.cal ok 3 ?_ 15 ?_ ?_ ?_ ?_; rotate_left 2; (focus (intro w'; go_simp <;> with_reducible rfl)); (focus (intro w' g'; with_reducible exact RX.out w' (HTX.out.chg (Chg.trans (Chg.refl (fun _ => False) _) g') (fun _ _ _ => id)))); simp only [Act.put, L0, L1, L2])
      first | (refine Evo2.val ok 4 ?_ ?_ ?_; rotate_left; (intro w' hg; go_simp <;> with_reducible rfl); simp only [Act.put, L0, L1, L2])
      first | (refine Evo2.val ok 5 ?_ ?_ ?_; rotate_left; (intro w' hg; go_simp <;> with_reducible rfl); simp only [Act.put, L0, L1, L2])
      refine Evo2.done (by decide +kernel) (fun wz gz => ?_)
      have AZ := Chg.trans (Chg.refl (fun _ => False) _) (Chg.grow gz)
      have HM9 := Lib.hid (HM.out.grow (chg_none AZ))
      clear AZ BX
      go_wp2_with fail
      go_ret
      exact ⟨rfl, HM9.out.below⟩
    · skip
      go_wp2_with (first | (refine Mem.load1 2 (t := 3) rfl rfl rfl Tryz.underlying3 rfl HM.out rfl rfl ?_) | (refine Mem.store 2 (t := 3) rfl rfl rfl rfl (vs := [.int .i64 k]) rfl CI (Mem.alloc' HM.out _ _ rfl) rfl rfl (by simp) rfl ?_; intro wn5 HM5 C5))
      simp only [K0, K1, L1, L2, K2, K3, K4, K5, K6, K7, Nat.reduceAdd, Nat.reduceSub] at HM5
      replace HM := Lib.hid HM5
      have HTX := Lib.hid (HT.out.boxed (by first | exact Grow.G.refl _ | exact Grow.G.alloc (Grow.G.refl _) _) C5 HLB.out)
      clear C5 HT
      refine Stay.go ?_
      have CX := Lib.hid (fun w (h : TgtSl w a2 ({ E with dr := k } : EvD).ts) => (show Calls Tryz.prog 14 #[.agg #[.int .i64 E.k, .string E.nm, .string E.tg, .int .i64 E.n, .int .i64 k, .string E.c.nm, .int .i64 E.c.im, .int .i64 E.c.co, .int .i64 E.c.mn, .int .i64 E.c.mx, .int .i64 E.c.gr, .string E.rn, .string E.rc, .slice a2 E.ts.length c2, .int .i64 E.rr]] w fun x w' => x = .returned (.int .i64 ({ E with dr := k } : EvD).chk) ∧ Grow.G w w' from echk_any ({ E with dr := k } : EvD) a2 c2 w (have hb := ev_bd HCK.out h; ⟨hb.nm, hb.tg, hb.cn, hb.rn, hb.rc, hb.tl, hb.ts, hb.ok⟩)))
      have RX := Lib.hid (fun w (h : TgtSl w a2 ({ E with dr := k } : EvD).ts) => (show Calls Tryz.prog 15 #[.agg #[.int .i64 E.k, .string E.nm, .string E.tg, .int .i64 E.n, .int .i64 k, .string E.c.nm, .int .i64 E.c.im, .int .i64 E.c.co, .int .i64 E.c.mn, .int .i64 E.c.mx, .int .i64 E.c.gr, .string E.rn, .string E.rc, .slice a2 E.ts.length c2, .int .i64 E.rr]] w fun x w' => x = .returned (.int .i64 ({ E with dr := k } : EvD).chk) ∧ Grow.G w w' from rchk_any ({ E with dr := k } : EvD) a2 c2 w (have hb := ev_bd HCK.out h; ⟨hb.nm, hb.tg, hb.cn, hb.rn, hb.rc, hb.tl, hb.ts, hb.ok⟩)))
      generalize ({ E with dr := k } : EvD).chk = ck at *
      have BX := Lib.hid (HM.out.blk (i := 2) rfl)
      go_wp2_with fail
      refine Evo2.start' (ℓ := none) (S := Chg (fun _ => False)) (E := Grow.G) (by kernel_rfl) ⟨Chg.pre _, by decide +kernel, (by intro c a d v w h; cases d <;> exact h), by decide +kernel⟩ (fun ok => ?_)
      first | (refine Evo2.val ok 0 ?_ ?_ ?_; rotate_left; (focus (intro w' hg; refine Box.exec_loadAll ?_ Tryz.underlying28 CE (BX.out.chg (Chg.trans (Chg.refl (fun _ => False) _) hg) id) ?_; (all_goals (first | exact ⟨rfl, rfl⟩ | rfl)))); simp only [Act.put, L0, L1, L2]) | (refine Evo2.val ok 0 ?_ ?_ ?_; rotate_left; (intro w' hg; go_simp <;> with_reducible rfl); simp only [Act.put, L0, L1, L2])
      (refine Evo2.cal ok 1 ?_ 14 ?_ ?_ ?_ ?_; rotate_left 2; (focus (intro w'; go_simp <;> with_reducible rfl)); (focus (intro w' g'; with_reducible exact CX.out w' (HTX.out.chg (Chg.trans (Chg.refl (fun _ => False) _) g') (fun _ _ _ => id)))); simp only [Act.put, L0, L1, L2])
      first | (refine Evo2.val ok 2 ?_ ?_ ?_; rotate_left; (focus (intro w' hg; refine Box.exec_loadAll ?_ Tryz.underlying28 CE (BX.out.chg (Chg.trans (Chg.refl (fun _ => False) _) hg) id) ?_; (all_goals (first | exact ⟨rfl, rfl⟩ | rfl)))); simp only [Act.put, L0, L1, L2]) | (refine Evo2.val ok 2 ?_ ?_ ?_; rotate_left; (intro w' hg; go_simp <;> with_reducible rfl); simp only [Act.put, L0, L1, L2])
      (refine Evo2.cal ok 3 ?_ 15 ?_ ?_ ?_ ?_; rotate_left 2; (focus (intro w'; go_simp <;> with_reducible rfl)); (focus (intro w' g'; with_reducible exact RX.out w' (HTX.out.chg (Chg.trans (Chg.refl (fun _ => False) _) g') (fun _ _ _ => id)))); simp only [Act.put, L0, L1, L2])
      first | (refine Evo2.val ok 4 ?_ ?_ ?_; rotate_left; (intro w' hg; go_simp <;> with_reducible rfl); simp only [Act.put, L0, L1, L2])
      first | (refine Evo2.val ok 5 ?_ ?_ ?_; rotate_left; (intro w' hg; go_simp <;> with_reducible rfl); simp only [Act.put, L0, L1, L2])
      refine Evo2.done (by decide +kernel) (fun wz gz => ?_)
      have AZ := Chg.trans (Chg.refl (fun _ => False) _) (Chg.grow gz)
      have HM9 := Lib.hid (HM.out.grow (chg_none AZ))
      clear AZ BX
      go_wp2_with fail
      go_ret
      exact ⟨rfl, HM9.out.below⟩
  · go_wp2_with fail
    refine (TX.out _ HZ.out).mono ?_
    rintro e wn6 ⟨rfl, hb6⟩
    have hm := HM.out.grow hb6
    replace HM := Lib.hid hm
    replace HT := Lib.hid (HT.out.later hb6)
    clear hm hb6 HZ TX
    go_wp2_with (first | (refine Mem.load1 2 (t := 3) rfl rfl rfl Tryz.underlying3 rfl HM.out rfl rfl ?_) | (refine Mem.store 2 (t := 9) rfl rfl rfl rfl (vs := [.string txt]) rfl CS HM.out rfl rfl (by simp) rfl ?_; intro wn5 HM5 C5))
    simp only [K0, K1, L1, L2, K2, K3, K4, K5, K6, K7, Nat.reduceAdd, Nat.reduceSub] at HM5
    replace HM := Lib.hid HM5
    have HTX := Lib.hid (HT.out.boxed (by first | exact Grow.G.refl _ | exact Grow.G.alloc (Grow.G.refl _) _) C5 HLB.out)
    clear C5 HT
    refine Stay.go ?_
    have CX := Lib.hid (fun w (h : TgtSl w a2 ({ E with nm := txt } : EvD).ts) => (show Calls Tryz.prog 14 #[.agg #[.int .i64 E.k, .string txt, .string E.tg, .int .i64 E.n, .int .i64 E.dr, .string E.c.nm, .int .i64 E.c.im, .int .i64 E.c.co, .int .i64 E.c.mn, .int .i64 E.c.mx, .int .i64 E.c.gr, .string E.rn, .string E.rc, .slice a2 E.ts.length c2, .int .i64 E.rr]] w fun x w' => x = .returned (.int .i64 ({ E with nm := txt } : EvD).chk) ∧ Grow.G w w' from echk_any ({ E with nm := txt } : EvD) a2 c2 w (have hb := ev_bd HCK.out h; ⟨(show txt.size ≤ 140737488351232 from by have := TXS.out; omega), hb.tg, hb.cn, hb.rn, hb.rc, hb.tl, hb.ts, hb.ok⟩)))
    have RX := Lib.hid (fun w (h : TgtSl w a2 ({ E with nm := txt } : EvD).ts) => (show Calls Tryz.prog 15 #[.agg #[.int .i64 E.k, .string txt, .string E.tg, .int .i64 E.n, .int .i64 E.dr, .string E.c.nm, .int .i64 E.c.im, .int .i64 E.c.co, .int .i64 E.c.mn, .int .i64 E.c.mx, .int .i64 E.c.gr, .string E.rn, .string E.rc, .slice a2 E.ts.length c2, .int .i64 E.rr]] w fun x w' => x = .returned (.int .i64 ({ E with nm := txt } : EvD).chk) ∧ Grow.G w w' from rchk_any ({ E with nm := txt } : EvD) a2 c2 w (have hb := ev_bd HCK.out h; ⟨(show txt.size ≤ 140737488351232 from by have := TXS.out; omega), hb.tg, hb.cn, hb.rn, hb.rc, hb.tl, hb.ts, hb.ok⟩)))
    generalize ({ E with nm := txt } : EvD).chk = ck at *
    have BX := Lib.hid (HM.out.blk (i := 2) rfl)
    go_wp2_with fail
    refine Evo2.start' (ℓ := none) (S := Chg (fun _ => False)) (E := Grow.G) (by kernel_rfl) ⟨Chg.pre _, by decide +kernel, (by intro c a d v w h; cases d <;> exact h), by decide +kernel⟩ (fun ok => ?_)
    first | (refine Evo2.val ok 0 ?_ ?_ ?_; rotate_left; (focus (intro w' hg; refine Box.exec_loadAll ?_ Tryz.underlying28 CE (BX.out.chg (Chg.trans (Chg.refl (fun _ => False) _) hg) id) ?_; (all_goals (first | exact ⟨rfl, rfl⟩ | rfl)))); simp only [Act.put, L0, L1, L2]) | (refine Evo2.val ok 0 ?_ ?_ ?_; rotate_left; (intro w' hg; go_simp <;> with_reducible rfl); simp only [Act.put, L0, L1, L2])
    (refine Evo2.cal ok 1 ?_ 14 ?_ ?_ ?_ ?_; rotate_left 2; (focus (intro w'; go_simp <;> with_reducible rfl)); (focus (intro w' g'; with_reducible exact CX.out w' (HTX.out.chg (Chg.trans (Chg.refl (fun _ => False) _) g') (fun _ _ _ => id)))); simp only [Act.put, L0, L1, L2])
    first | (refine Evo2.val ok 2 ?_ ?_ ?_; rotate_left; (focus (intro w' hg; refine Box.exec_loadAll ?_ Tryz.underlying28 CE (BX.out.chg (Chg.trans (Chg.refl (fun _ => False) _) hg) id) ?_; (all_goals (first | exact ⟨rfl, rfl⟩ | rfl)))); simp only [Act.put, L0, L1, L2]) | (refine Evo2.val ok 2 ?_ ?_ ?_; rotate_left; (intro w' hg; go_simp <;> with_reducible rfl); simp only [Act.put, L0, L1, L2])
    (refine Evo2.cal ok 3 ?_ 15 ?_ ?_ ?_ ?_; rotate_left 2; (focus (intro w'; go_simp <;> with_reducible rfl)); (focus (intro w' g'; with_reducible exact RX.out w' (HTX.out.chg (Chg.trans (Chg.refl (fun _ => False) _) g') (fun _ _ _ => id)))); simp only [Act.put, L0, L1, L2])
    first | (refine Evo2.val ok 4 ?_ ?_ ?_; rotate_left; (intro w' hg; go_simp <;> with_reducible rfl); simp only [Act.put, L0, L1, L2])
    first | (refine Evo2.val ok 5 ?_ ?_ ?_; rotate_left; (intro w' hg; go_simp <;> with_reducible rfl); simp only [Act.put, L0, L1, L2])
    refine Evo2.done (by decide +kernel) (fun wz gz => ?_)
    have AZ := Chg.trans (Chg.refl (fun _ => False) _) (Chg.grow gz)
    have HM9 := Lib.hid (HM.out.grow (chg_none AZ))
    clear AZ BX
    go_wp2_with fail
    go_ret
    exact ⟨rfl, HM9.out.below⟩
  · go_wp2_with fail
    refine (TX.out _ HZ.out).mono ?_
    rintro e wn6 ⟨rfl, hb6⟩
    have hm := HM.out.grow hb6
    replace HM := Lib.hid hm
    replace HT := Lib.hid (HT.out.later hb6)
    clear hm hb6 HZ TX
    go_wp2_with (first | (refine Mem.load1 2 (t := 3) rfl rfl rfl Tryz.underlying3 rfl HM.out rfl rfl ?_) | (refine Mem.store 2 (t := 9) rfl rfl rfl rfl (vs := [.string txt]) rfl CS HM.out rfl rfl (by simp) rfl ?_; intro wn5 HM5 C5))
    simp only [K0, K1, L1, L2, K2, K3, K4, K5, K6, K7, Nat.reduceAdd, Nat.reduceSub] at HM5
    replace HM := Lib.hid HM5
    have HTX := Lib.hid (HT.out.boxed (by first | exact Grow.G.refl _ | exact Grow.G.alloc (Grow.G.refl _) _) C5 HLB.out)
    clear C5 HT
    refine Stay.go ?_
    have CX := Lib.hid (fun w (h : TgtSl w a2 ({ E with tg := txt } : EvD).ts) => (show Calls Tryz.prog 14 #[.agg #[.int .i64 E.k, .string E.nm, .string txt, .int .i64 E.n, .int .i64 E.dr, .string E.c.nm, .int .i64 E.c.im, .int .i64 E.c.co, .int .i64 E.c.mn, .int .i64 E.c.mx, .int .i64 E.c.gr, .string E.rn, .string E.rc, .slice a2 E.ts.length c2, .int .i64 E.rr]] w fun x w' => x = .returned (.int .i64 ({ E with tg := txt } : EvD).chk) ∧ Grow.G w w' from echk_any ({ E with tg := txt } : EvD) a2 c2 w (have hb := ev_bd HCK.out h; ⟨hb.nm, (show txt.size ≤ 140737488351232 from by have := TXS.out; omega), hb.cn, hb.rn, hb.rc, hb.tl, hb.ts, hb.ok⟩)))
    have RX := Lib.hid (fun w (h : TgtSl w a2 ({ E with tg := txt } : EvD).ts) => (show Calls Tryz.prog 15 #[.agg #[.int .i64 E.k, .string E.nm, .string txt, .int .i64 E.n, .int .i64 E.dr, .string E.c.nm, .int .i64 E.c.im, .int .i64 E.c.co, .int .i64 E.c.mn, .int .i64 E.c.mx, .int .i64 E.c.gr, .string E.rn, .string E.rc, .slice a2 E.ts.length c2, .int .i64 E.rr]] w fun x w' => x = .returned (.int .i64 ({ E with tg := txt } : EvD).chk) ∧ Grow.G w w' from rchk_any ({ E with tg := txt } : EvD) a2 c2 w (have hb := ev_bd HCK.out h; ⟨hb.nm, (show txt.size ≤ 140737488351232 from by have := TXS.out; omega), hb.cn, hb.rn, hb.rc, hb.tl, hb.ts, hb.ok⟩)))
    generalize ({ E with tg := txt } : EvD).chk = ck at *
    have BX := Lib.hid (HM.out.blk (i := 2) rfl)
    go_wp2_with fail
    refine Evo2.start' (ℓ := none) (S := Chg (fun _ => False)) (E := Grow.G) (by kernel_rfl) ⟨Chg.pre _, by decide +kernel, (by intro c a d v w h; cases d <;> exact h), by decide +kernel⟩ (fun ok => ?_)
    first | (refine Evo2.val ok 0 ?_ ?_ ?_; rotate_left; (focus (intro w' hg; refine Box.exec_loadAll ?_ Tryz.underlying28 CE (BX.out.chg (Chg.trans (Chg.refl (fun _ => False) _) hg) id) ?_; (all_goals (first | exact ⟨rfl, rfl⟩ | rfl)))); simp only [Act.put, L0, L1, L2]) | (refine Evo2.val ok 0 ?_ ?_ ?_; rotate_left; (intro w' hg; go_simp <;> with_reducible rfl); simp only [Act.put, L0, L1, L2])
    (refine Evo2.cal ok 1 ?_ 14 ?_ ?_ ?_ ?_; rotate_left 2; (focus (intro w'; go_simp <;> with_reducible rfl)); (focus (intro w' g'; with_reducible exact CX.out w' (HTX.out.chg (Chg.trans (Chg.refl (fun _ => False) _) g') (fun _ _ _ => id)))); simp only [Act.put, L0, L1, L2])
    first | (refine Evo2.val ok 2 ?_ ?_ ?_; rotate_left; (focus (intro w' hg; refine Box.exec_loadAll ?_ Tryz.underlying28 CE (BX.out.chg (Chg.trans (Chg.refl (fun _ => False) _) hg) id) ?_; (all_goals (first | exact ⟨rfl, rfl⟩ | rfl)))); simp only [Act.put, L0, L1, L2]) | (refine Evo2.val ok 2 ?_ ?_ ?_; rotate_left; (intro w' hg; go_simp <;> with_reducible rfl); simp only [Act.put, L0, L1, L2])
    (refine Evo2.cal ok 3 ?_ 15 ?_ ?_ ?_ ?_; rotate_left 2; (focus (intro w'; go_simp <;> with_reducible rfl)); (focus (intro w' g'; with_reducible exact RX.out w' (HTX.out.chg (Chg.trans (Chg.refl (fun _ => False) _) g') (fun _ _ _ => id)))); simp only [Act.put, L0, L1, L2])
    first | (refine Evo2.val ok 4 ?_ ?_ ?_; rotate_left; (intro w' hg; go_simp <;> with_reducible rfl); simp only [Act.put, L0, L1, L2])
    first | (refine Evo2.val ok 5 ?_ ?_ ?_; rotate_left; (intro w' hg; go_simp <;> with_reducible rfl); simp only [Act.put, L0, L1, L2])
    refine Evo2.done (by decide +kernel) (fun wz gz => ?_)
    have AZ := Chg.trans (Chg.refl (fun _ => False) _) (Chg.grow gz)
    have HM9 := Lib.hid (HM.out.grow (chg_none AZ))
    clear AZ BX
    go_wp2_with fail
    go_ret
    exact ⟨rfl, HM9.out.below⟩
  · skip
    go_wp2_with (first | (refine Mem.load1 2 (t := 3) rfl rfl rfl Tryz.underlying3 rfl HM.out rfl rfl ?_) | (refine Mem.store 2 (t := 3) rfl rfl rfl rfl (vs := [.int .i64 (E.c.co + 1)]) rfl CI HM.out rfl rfl (by simp) rfl ?_; intro wn5 HM5 C5))
    simp only [K0, K1, L1, L2, K2, K3, K4, K5, K6, K7, Nat.reduceAdd, Nat.reduceSub] at HM5
    replace HM := Lib.hid HM5
    have HTX := Lib.hid (HT.out.boxed (by first | exact Grow.G.refl _ | exact Grow.G.alloc (Grow.G.refl _) _) C5 HLB.out)
    clear C5 HT
    refine Stay.go ?_
    have CX := Lib.hid (fun w (h : TgtSl w a2 ({ E with c := { E.c with co := E.c.co + 1 } } : EvD).ts) => (show Calls Tryz.prog 14 #[.agg #[.int .i64 E.k, .string E.nm, .string E.tg, .int .i64 E.n, .int .i64 E.dr, .string E.c.nm, .int .i64 E.c.im, .int .i64 (E.c.co + 1), .int .i64 E.c.mn, .int .i64 E.c.mx, .int .i64 E.c.gr, .string E.rn, .string E.rc, .slice a2 E.ts.length c2, .int .i64 E.rr]] w fun x w' => x = .returned (.int .i64 ({ E with c := { E.c with co := E.c.co + 1 } } : EvD).chk) ∧ Grow.G w w' from echk_any ({ E with c := { E.c with co := E.c.co + 1 } } : EvD) a2 c2 w (have hb := ev_bd HCK.out h; ⟨hb.nm, hb.tg, hb.cn, hb.rn, hb.rc, hb.tl, hb.ts, hb.ok⟩)))
    have RX := Lib.hid (fun w (h : TgtSl w a2 ({ E with c := { E.c with co := E.c.co + 1 } } : EvD).ts) => (show Calls Tryz.prog 15 #[.agg #[.int .i64 E.k, .string E.nm, .string E.tg, .int .i64 E.n, .int .i64 E.dr, .string E.c.nm, .int .i64 E.c.im, .int .i64 (E.c.co + 1), .int .i64 E.c.mn, .int .i64 E.c.mx, .int .i64 E.c.gr, .string E.rn, .string E.rc, .slice a2 E.ts.length c2, .int .i64 E.rr]] w fun x w' => x = .returned (.int .i64 ({ E with c := { E.c with co := E.c.co + 1 } } : EvD).chk) ∧ Grow.G w w' from rchk_any ({ E with c := { E.c with co := E.c.co + 1 } } : EvD) a2 c2 w (have hb := ev_bd HCK.out h; ⟨hb.nm, hb.tg, hb.cn, hb.rn, hb.rc, hb.tl, hb.ts, hb.ok⟩)))
    generalize ({ E with c := { E.c with co := E.c.co + 1 } } : EvD).chk = ck at *
    have BX := Lib.hid (HM.out.blk (i := 2) rfl)
    go_wp2_with fail
    refine Evo2.start' (ℓ := none) (S := Chg (fun _ => False)) (E := Grow.G) (by kernel_rfl) ⟨Chg.pre _, by decide +kernel, (by intro c a d v w h; cases d <;> exact h), by decide +kernel⟩ (fun ok => ?_)
    first | (refine Evo2.val ok 0 ?_ ?_ ?_; rotate_left; (focus (intro w' hg; refine Box.exec_loadAll ?_ Tryz.underlying28 CE (BX.out.chg (Chg.trans (Chg.refl (fun _ => False) _) hg) id) ?_; (all_goals (first | exact ⟨rfl, rfl⟩ | rfl)))); simp only [Act.put, L0, L1, L2]) | (refine Evo2.val ok 0 ?_ ?_ ?_; rotate_left; (intro w' hg; go_simp <;> with_reducible rfl); simp only [Act.put, L0, L1, L2])
    (refine Evo2.cal ok 1 ?_ 14 ?_ ?_ ?_ ?_; rotate_left 2; (focus (intro w'; go_simp <;> with_reducible rfl)); (focus (intro w' g'; with_reducible exact CX.out w' (HTX.out.chg (Chg.trans (Chg.refl (fun _ => False) _) g') (fun _ _ _ => id)))); simp only [Act.put, L0, L1, L2])
    first | (refine Evo2.val ok 2 ?_ ?_ ?_; rotate_left; (focus (intro w' hg; refine Box.exec_loadAll ?_ Tryz.underlying28 CE (BX.out.chg (Chg.trans (Chg.refl (fun _ => False) _) hg) id) ?_; (all_goals (first | exact ⟨rfl, rfl⟩ | rfl)))); simp only [Act.put, L0, L1, L2]) | (refine Evo2.val ok 2 ?_ ?_ ?_; rotate_left; (intro w' hg; go_simp <;> with_reducible rfl); simp only [Act.put, L0, L1, L2])
    (refine Evo2.cal ok 3 ?_ 15 ?_ ?_ ?_ ?_; rotate_left 2; (focus (intro w'; go_simp <;> with_reducible rfl)); (focus (intro w' g'; with_reducible exact RX.out w' (HTX.out.chg (Chg.trans (Chg.refl (fun _ => False) _) g') (fun _ _ _ => id)))); simp only [Act.put, L0, L1, L2])
    first | (refine Evo2.val ok 4 ?_ ?_ ?_; rotate_left; (intro w' hg; go_simp <;> with_reducible rfl); simp only [Act.put, L0, L1, L2])
    first | (refine Evo2.val ok 5 ?_ ?_ ?_; rotate_left; (intro w' hg; go_simp <;> with_reducible rfl); simp only [Act.put, L0, L1, L2])
    refine Evo2.done (by decide +kernel) (fun wz gz => ?_)
    have AZ := Chg.trans (Chg.refl (fun _ => False) _) (Chg.grow gz)
    have HM9 := Lib.hid (HM.out.grow (chg_none AZ))
    clear AZ BX
    go_wp2_with fail
    go_ret
    exact ⟨rfl, HM9.out.below⟩
  · skip
    go_wp2_with (first | (refine Mem.load1 2 (t := 3) rfl rfl rfl Tryz.underlying3 rfl HM.out rfl rfl ?_) | (refine Mem.store 2 (t := 3) rfl rfl rfl rfl (vs := [.int .i64 (E.rr + 1)]) rfl CI HM.out rfl rfl (by simp) rfl ?_; intro wn5 HM5 C5))
    simp only [K0, K1, L1, L2, K2, K3, K4, K5, K6, K7, Nat.reduceAdd, Nat.reduceSub] at HM5
    replace HM := Lib.hid HM5
    have HTX := Lib.hid (HT.out.boxed (by first | exact Grow.G.refl _ | exact Grow.G.alloc (Grow.G.refl _) _) C5 HLB.out)
    clear C5 HT
    refine Stay.go ?_
    have CX := Lib.hid (fun w (h : TgtSl w a2 ({ E with rr := E.rr + 1 } : EvD).ts) => (show Calls Tryz.prog 14 #[.agg #[.int .i64 E.k, .string E.nm, .string E.tg, .int .i64 E.n, .int .i64 E.dr, .string E.c.nm, .int .i64 E.c.im, .int .i64 E.c.co, .int .i64 E.c.mn, .int .i64 E.c.mx, .int .i64 E.c.gr, .string E.rn, .string E.rc, .slice a2 E.ts.length c2, .int .i64 (E.rr + 1)]] w fun x w' => x = .returned (.int .i64 ({ E with rr := E.rr + 1 } : EvD).chk) ∧ Grow.G w w' from echk_any ({ E with rr := E.rr + 1 } : EvD) a2 c2 w (have hb := ev_bd HCK.out h; ⟨hb.nm, hb.tg, hb.cn, hb.rn, hb.rc, hb.tl, hb.ts, hb.ok⟩)))
    have RX := Lib.hid (fun w (h : TgtSl w a2 ({ E with rr := E.rr + 1 } : EvD).ts) => (show Calls Tryz.prog 15 #[.agg #[.int .i64 E.k, .string E.nm, .string E.tg, .int .i64 E.n, .int .i64 E.dr, .string E.c.nm, .int .i64 E.c.im, .int .i64 E.c.co, .int .i64 E.c.mn, .int .i64 E.c.mx, .int .i64 E.c.gr, .string E.rn, .string E.rc, .slice a2 E.ts.length c2, .int .i64 (E.rr + 1)]] w fun x w' => x = .returned (.int .i64 ({ E with rr := E.rr + 1 } : EvD).chk) ∧ Grow.G w w' from rchk_any ({ E with rr := E.rr + 1 } : EvD) a2 c2 w (have hb := ev_bd HCK.out h; ⟨hb.nm, hb.tg, hb.cn, hb.rn, hb.rc, hb.tl, hb.ts, hb.ok⟩)))
    generalize ({ E with rr := E.rr + 1 } : EvD).chk = ck at *
    have BX := Lib.hid (HM.out.blk (i := 2) rfl)
    go_wp2_with fail
    refine Evo2.start' (ℓ := none) (S := Chg (fun _ => False)) (E := Grow.G) (by kernel_rfl) ⟨Chg.pre _, by decide +kernel, (by intro c a d v w h; cases d <;> exact h), by decide +kernel⟩ (fun ok => ?_)
    first | (refine Evo2.val ok 0 ?_ ?_ ?_; rotate_left; (focus (intro w' hg; refine Box.exec_loadAll ?_ Tryz.underlying28 CE (BX.out.chg (Chg.trans (Chg.refl (fun _ => False) _) hg) id) ?_; (all_goals (first | exact ⟨rfl, rfl⟩ | rfl)))); simp only [Act.put, L0, L1, L2]) | (refine Evo2.val ok 0 ?_ ?_ ?_; rotate_left; (intro w' hg; go_simp <;> with_reducible rfl); simp only [Act.put, L0, L1, L2])
    (refine Evo2.cal ok 1 ?_ 14 ?_ ?_ ?_ ?_; rotate_left 2; (focus (intro w'; go_simp <;> with_reducible rfl)); (focus (intro w' g'; with_reducible exact CX.out w' (HTX.out.chg (Chg.trans (Chg.refl (fun _ => False) _) g') (fun _ _ _ => id)))); simp only [Act.put, L0, L1, L2])
    first | (refine Evo2.val ok 2 ?_ ?_ ?_; rotate_left; (focus (intro w' hg; refine Box.exec_loadAll ?_ Tryz.underlying28 CE (BX.out.chg (Chg.trans (Chg.refl (fun _ => False) _) hg) id) ?_; (all_goals (first | exact ⟨rfl, rfl⟩ | rfl)))); simp only [Act.put, L0, L1, L2]) | (refine Evo2.val ok 2 ?_ ?_ ?_; rotate_left; (intro w' hg; go_simp <;> with_reducible rfl); simp only [Act.put, L0, L1, L2])
    (refine Evo2.cal ok 3 ?_ 15 ?_ ?_ ?_ ?_; rotate_left 2; (focus (intro w'; go_simp <;> with_reducible rfl)); (focus (intro w' g'; with_reducible exact RX.out w' (HTX.out.chg (Chg.trans (Chg.refl (fun _ => False) _) g') (fun _ _ _ => id)))); simp only [Act.put, L0, L1, L2])
    first | (refine Evo2.val ok 4 ?_ ?_ ?_; rotate_left; (intro w' hg; go_simp <;> with_reducible rfl); simp only [Act.put, L0, L1, L2])
    first | (refine Evo2.val ok 5 ?_ ?_ ?_; rotate_left; (intro w' hg; go_simp <;> with_reducible rfl); simp only [Act.put, L0, L1, L2])
    refine Evo2.done (by decide +kernel) (fun wz gz => ?_)
    have AZ := Chg.trans (Chg.refl (fun _ => False) _) (Chg.grow gz)
    have HM9 := Lib.hid (HM.out.grow (chg_none AZ))
    clear AZ BX
    go_wp2_with fail
    go_ret
    exact ⟨rfl, HM9.out.below⟩
  · have lg := HM.out.lt (i := 2) rfl
    have GH := Lib.hid HM.out
    go_wp2_with (first | (refine Mem.load1 2 (t := 24) rfl rfl rfl Tryz.underlying24 rfl (Mem.alloc' HM.out [] 39 rfl) rfl rfl ?_) | (at_builtin; refine wpList_copyt rfl _ _ rfl rfl (by first | (with_reducible rfl) | (simp; done)) E.ts rfl rfl HT.out (by have := TL.out; omega) ?_))
    intro s6 c6 wn6 ho6 hg6
    have HO6 := Lib.hid ho6
    have G6 := Lib.hid hg6
    have hm := HM.out.grow hg6
    replace HM := Lib.hid hm
    have lb := hg6.size
    clear ho6 hg6 hm HT
    go_wp2_with fail
    refine (W3.out _).mono ?_
    rintro e wx ⟨rfl, rfl⟩
    go_wp2_with (at_builtin; refine wpList_moret rfl _ _ rfl rfl ⟨⟨#[]⟩, ⟨#[]⟩, q3⟩ rfl (Blk.new wn6 _ _) (own_later HO6.out (Grow.G.alloc (Grow.G.refl _) _)) rfl (G6.out.trans (Grow.G.alloc (Grow.G.refl _) _)) (Nat.le_refl _) (by simp; omega) (by have := TL.out; omega) ?_)
    intro s7 c7 wn7 ho7 hg7
    have hm := GH.out.grow hg7
    replace HM := Lib.hid hm
    obtain ⟨ts2, hts⟩ : ∃ ts2, ts2 = E.ts ++ [⟨⟨#[]⟩, ⟨#[]⟩, q3⟩] := ⟨_, rfl⟩
    have hl2 : E.ts.length + 1 = ts2.length := by rw [hts]; simp
    rw [← hts] at ho7
    have HO7 := Lib.hid ho7
    have HTS := Lib.hid hts
    have HL2 := Lib.hid hl2
    clear ho7 hg7 hm hts hl2 GH HO6 G6
    go_wp2_with (first | (refine Mem.load1 2 (t := 3) rfl rfl rfl Tryz.underlying3 rfl HM.out rfl rfl ?_) | (refine Mem.store 2 (t := 24) rfl rfl rfl rfl (vs := [.slice s7 (E.ts.length + 1) c7]) rfl CL HM.out rfl rfl (by simp) rfl ?_; intro wn5 HM5 C5))
    simp only [K0, K1, L1, L2, K2, K3, K4, K5, K6, K7, Nat.reduceAdd, Nat.reduceSub] at HM5
    rw [HL2.out] at HM5
    replace HM := Lib.hid HM5
    have ho8 := HO7.out
    rw [HL2.out] at ho8
    have HTX := Lib.hid ((OwnTs.tgts ho8).1.chg C5 (fun b off hb q => by have := ((OwnTs.tgts ho8).2 b off hb).1; have q : b = wn3.heap.size := q; omega))
    have BK : ∀ i, i < ts2.length → (ts2.getD i tg0).ok := by
      rw [HTS.out]
      refine app_ok (ev_ok HCK.out) (fun t ht => ?_)
      rw [List.mem_singleton] at ht
      subst ht
      refine ⟨(show (0 : Nat) ≤ 140737488351232 by decide), (show (0 : Nat) ≤ 140737488351232 by decide), ?_⟩
      show wf64 q3
      have := H3.out
      unfold wf64
      omega
    have BL : ts2.length ≤ 1000 := by have := TL.out; have := HL2.out; omega
    clear C5 ho8 HO7
    refine Stay.go ?_
    have CX := Lib.hid (fun w (h : TgtSl w s7 ({ E with ts := ts2 } : EvD).ts) => (show Calls Tryz.prog 14 #[.agg #[.int .i64 E.k, .string E.nm, .string E.tg, .int .i64 E.n, .int .i64 E.dr, .string E.c.nm, .int .i64 E.c.im, .int .i64 E.c.co, .int .i64 E.c.mn, .int .i64 E.c.mx, .int .i64 E.c.gr, .string E.rn, .string E.rc, .slice s7 ts2.length c7, .int .i64 E.rr]] w fun x w' => x = .returned (.int .i64 ({ E with ts := ts2 } : EvD).chk) ∧ Grow.G w w' from echk_any ({ E with ts := ts2 } : EvD) s7 c7 w (ev_bd_ts HCK.out h BL BK)))
    have RX := Lib.hid (fun w (h : TgtSl w s7 ({ E with ts := ts2 } : EvD).ts) => (show Calls Tryz.prog 15 #[.agg #[.int .i64 E.k, .string E.nm, .string E.tg, .int .i64 E.n, .int .i64 E.dr, .string E.c.nm, .int .i64 E.c.im, .int .i64 E.c.co, .int .i64 E.c.mn, .int .i64 E.c.mx, .int .i64 E.c.gr, .string E.rn, .string E.rc, .slice s7 ts2.length c7, .int .i64 E.rr]] w fun x w' => x = .returned (.int .i64 ({ E with ts := ts2 } : EvD).chk) ∧ Grow.G w w' from rchk_any ({ E with ts := ts2 } : EvD) s7 c7 w (ev_bd_ts HCK.out h BL BK)))
    generalize ({ E with ts := ts2 } : EvD).chk = ck at *
    have BX := Lib.hid (HM.out.blk (i := 2) rfl)
    go_wp2_with fail
    refine Evo2.start' (ℓ := none) (S := Chg (fun _ => False)) (E := Grow.G) (by kernel_rfl) ⟨Chg.pre _, by decide +kernel, (by intro c a d v w h; cases d <;> exact h), by decide +kernel⟩ (fun ok => ?_)
    first | (refine Evo2.val ok 0 ?_ ?_ ?_; rotate_left; (focus (intro w' hg; refine Box.exec_loadAll ?_ Tryz.underlying28 CE (BX.out.chg (Chg.trans (Chg.refl (fun _ => False) _) hg) id) ?_; (all_goals (first | exact ⟨rfl, rfl⟩ | rfl)))); simp only [Act.put, L0, L1, L2]) | (refine Evo2.val ok 0 ?_ ?_ ?_; rotate_left; (intro w' hg; go_simp <;> with_reducible rfl); simp only [Act.put, L0, L1, L2])
    (refine Evo2.cal ok 1 ?_ 14 ?_ ?_ ?_ ?_; rotate_left 2; (focus (intro w'; go_simp <;> with_reducible rfl)); (focus (intro w' g'; with_reducible exact CX.out w' (HTX.out.chg (Chg.trans (Chg.refl (fun _ => False) _) g') (fun _ _ _ => id)))); simp only [Act.put, L0, L1, L2])
    first | (refine Evo2.val ok 2 ?_ ?_ ?_; rotate_left; (focus (intro w' hg; refine Box.exec_loadAll ?_ Tryz.underlying28 CE (BX.out.chg (Chg.trans (Chg.refl (fun _ => False) _) hg) id) ?_; (all_goals (first | exact ⟨rfl, rfl⟩ | rfl)))); simp only [Act.put, L0, L1, L2]) | (refine Evo2.val ok 2 ?_ ?_ ?_; rotate_left; (intro w' hg; go_simp <;> with_reducible rfl); simp only [Act.put, L0, L1, L2])
    (refine Evo2.cal ok 3 ?_ 15 ?_ ?_ ?_ ?_; rotate_left 2; (focus (intro w'; go_simp <;> with_reducible rfl)); (focus (intro w' g'; with_reducible exact RX.out w' (HTX.out.chg (Chg.trans (Chg.refl (fun _ => False) _) g') (fun _ _ _ => id)))); simp only [Act.put, L0, L1, L2])
    first | (refine Evo2.val ok 4 ?_ ?_ ?_; rotate_left; (intro w' hg; go_simp <;> with_reducible rfl); simp only [Act.put, L0, L1, L2])
    first | (refine Evo2.val ok 5 ?_ ?_ ?_; rotate_left; (intro w' hg; go_simp <;> with_reducible rfl); simp only [Act.put, L0, L1, L2])
    refine Evo2.done (by decide +kernel) (fun wz gz => ?_)
    have AZ := Chg.trans (Chg.refl (fun _ => False) _) (Chg.grow gz)
    have HM9 := Lib.hid (HM.out.grow (chg_none AZ))
    clear AZ BX
    go_wp2_with fail
    go_ret
    exact ⟨rfl, HM9.out.below⟩
end Go.Proofs.YtnkekdmikopdgaaGreat

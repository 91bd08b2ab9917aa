
/- The walk of ScaleDecides. -/
import Derived.Test.YtifkombocmdmfaaZ71
namespace Go.Proofs.Ytifkombocmdmfaa
set_option maxRecDepth 100000
set_option linter.unusedVariables false
set_option linter.unusedSimpArgs false
set_option linter.unnecessarySimpa false
open Go.RowKit

set_option maxHeartbeats 32000000 in
theorem walkScaleDecides (w : World) (r : Sc.G) (hr : r.wf) (c : Cfg) (hc : c.wf ∧ c.nm.size ≤ 140737488351232) (n : Int) (hn : wf64 n) (q : Int) (hq : wf64 q) :
    Calls Try.prog 3 #[r.v, c.v, .int .i64 n, .int .i64 q] w fun e w' => e = .returned (.bool true) ∧ Below w.heap.size w w' := by
  have KN := Lib.hid (fun w => known10_any w)
  have FE := Lib.hid Emp.foot
  have MK := Lib.hid (fun w => make_any r w hr)
  have GC := Lib.hid (fun w => gcfg_any c 0 w hc.1 (by unfold wf64; omega))
  have hg := r.mk2_ok
  have hd := scC_ok c 0
  have RD := r.mk2_rd
  have DC := Lib.hid (fun w => dec10_any r.mk2 (gCfg c 0) w hg hd)
  have RD0 := Lib.hid (fun w => rdecide_any r.mk2 (gCfg c 0) w hg hd)
  have WA := Lib.hid (fun w => within10_any n 10000001 w (by omega) (by omega) hn.1 hn.2)
  have WB := Lib.hid (fun w => within10_any q 10000001 w (by omega) (by omega) hq.1 hq.2)
  have WC := Lib.hid (fun w => quietG0 (within10_any q 9 w (by omega) (by omega) hq.1 hq.2))
  have v1b := withinI_range n 10000001 (by omega)
  have v2b := withinI_range q 10000001 (by omega)
  have v3b := withinI_range q 9 (by omega)
  generalize withinI n 10000001 = v1 at *
  generalize withinI q 10000001 = v2 at *
  generalize withinI q 9 = v3 at *
  have N1 := Lib.hid (fun w => need_any v1 v2 (gCfg c 0).co w (by omega) (by omega) hd.co)
  have N2 := Lib.hid (fun w => quietG0 (rneed_any v1 v2 (gCfg c 0).co w (by omega) (by omega) hd.co))
  have N3 := Lib.hid (fun w => need_any v1 v3 (gCfg c 0).co w (by omega) (by omega) hd.co)
  have N4 := Lib.hid (fun w => quietG0 (rneed_any v1 v3 (gCfg c 0).co w (by omega) (by omega) hd.co))
  generalize Sc.need v1 v2 (gCfg c 0).co = m1 at *
  generalize Sc.need v1 v3 (gCfg c 0).co = m2 at *
  unfold Sc.G.args at RD0
  generalize Sc.want r.mk2 (scC (gCfg c 0)) = W at *
  generalize Sc.left r.mk2 (scC (gCfg c 0)) = L at *
  clear hg hd hr hc hn hq v1b v2b v3b RD
  generalize r.mk2 = g at *
  generalize gCfg c 0 = d at *
  obtain ⟨x1, x2, x3, x4, x5, x6, x7, x8, x9⟩ := r
  obtain ⟨g1, g2, g3, g4, g5, g6, g7, g8, g9⟩ := g
  obtain ⟨cn, c1, c2, c3, c4, c5⟩ := c
  obtain ⟨dn, d1, d2, d3, d4, d5⟩ := d
  unfold Sc.G.v Sc.G.cells Cfg.v at *
  dsimp only at *
  go_enter Try.func3, Try.ntmps3
  go_wp2_with fail
  refine (KN.out _).mono ?_
  rintro e w1 ⟨rfl, hg⟩
  have H0 := ((((Hold.nil w).alloc' Emp.foot [.int .i64 x1, .int .i64 x2, .int .i64 x3, .int .i64 x4, .int .i64 x5, .int .i64 x6, .int .i64 x7, .int .i64 x8, .int .i64 x9] 23 rfl).alloc' Emp.foot [.string cn, .int .i64 c1, .int .i64 c2, .int .i64 c3, .int .i64 c4, .int .i64 c5] 25 (g := w.heap.size + 1) (by simp)).grow Emp.foot hg)
  simp only [K0, K1, L1, L2, K2, K3, K4, K5, K6, K7, Nat.reduceAdd, Nat.reduceSub] at H0
  have H := Lib.hid H0
  clear H0 hg
  go_wp2_with fail
  have B0 := Lib.hid (H.out.mem.blk (i := 0) rfl)
  have B1 := Lib.hid (H.out.mem.blk (i := 1) rfl)
  have l0 := B0.out.lt
  have l1 := B1.out.lt
  have HK := H
  have CE : (Try.prog.info? 25).map (·.size) = some 6 := by kernel_rfl
  have CG : (Try.prog.info? 23).map (·.size) = some 9 := by kernel_rfl
  refine wp_spec (fun a0 A W => ∃ x17 x18 x19 x20 : Value, ∃ (bx bY : Nat), A = ((((((a0.put (some 9) (.pointer (some ⟨bx, 0, none⟩))).put (some 10) (.pointer (some ⟨bY, 0, none⟩))).put (some 17) x17).put (some 18) x18).put (some 19) x19).put (some 20) x20) ∧ Hid (Hold w W [(w.heap.size, [.int .i64 x1, .int .i64 x2, .int .i64 x3, .int .i64 x4, .int .i64 x5, .int .i64 x6, .int .i64 x7, .int .i64 x8, .int .i64 x9], 23), (w.heap.size + 1, [.string cn, .int .i64 c1, .int .i64 c2, .int .i64 c3, .int .i64 c4, .int .i64 c5], 25), (bx, [.int .i64 g1, .int .i64 g2, .int .i64 g3, .int .i64 g4, .int .i64 g5, .int .i64 g6, .int .i64 g7, .int .i64 g8, .int .i64 g9], 23), (bY, [.string dn, .int .i64 d1, .int .i64 d2, .int .i64 d3, .int .i64 d4, .int .i64 d5], 25)] Emp)) ?_ ?_
  all_goals simp only [Act.put, L0, L1, L2]
  ·
    refine Evo2.start' (ℓ := some 7) (S := Chg (fun j => w1.heap.size ≤ j)) (E := Grow.G) (by kernel_rfl) ⟨Chg.pre _, by decide +kernel, (by intro c a d v w h; cases d <;> exact h), by decide +kernel⟩ (fun ok => ?_)
    first | (refine Evo2.val ok 0 ?_ ?_ ?_; rotate_left; (focus (intro w' hg; refine Box.exec_loadAll ?_ Try.underlying23 CG (B0.out.chg (Chg.trans (Chg.refl (fun j => w1.heap.size ≤ j) _) hg) (by omega)) ?_; (all_goals (first | exact ⟨rfl, rfl⟩ | rfl)))); simp only [Act.put, L0, L1, L2]) | (refine Evo2.val ok 0 ?_ ?_ ?_; rotate_left; (focus (intro w' hg; refine Box.exec_loadAll ?_ Try.underlying25 CE (B1.out.chg (Chg.trans (Chg.refl (fun j => w1.heap.size ≤ j) _) hg) (by omega)) ?_; (all_goals (first | exact ⟨rfl, rfl⟩ | rfl)))); simp only [Act.put, L0, L1, L2]) | (refine Evo2.va ok 0 _ _ ?_)
    (refine Evo2.cal ok 1 ?_ 14 ?_ ?_ ?_ ?_; rotate_left 2; (focus (intro w'; go_simp <;> with_reducible rfl)); (focus (intro w' g'; with_reducible exact MK.out w')); simp only [Act.put, L0, L1, L2])
    first | (refine Evo2.val ok 2 ?_ ?_ ?_; rotate_left; (focus (intro w' hg; refine Box.exec_loadAll ?_ Try.underlying23 CG (B0.out.chg (Chg.trans (Chg.refl (fun j => w1.heap.size ≤ j) _) hg) (by omega)) ?_; (all_goals (first | exact ⟨rfl, rfl⟩ | rfl)))); simp only [Act.put, L0, L1, L2]) | (refine Evo2.val ok 2 ?_ ?_ ?_; rotate_left; (focus (intro w' hg; refine Box.exec_loadAll ?_ Try.underlying25 CE (B1.out.chg (Chg.trans (Chg.refl (fun j => w1.heap.size ≤ j) _) hg) (by omega)) ?_; (all_goals (first | exact ⟨rfl, rfl⟩ | rfl)))); simp only [Act.put, L0, L1, L2]) | (refine Evo2.va ok 2 _ _ ?_)
    (refine Evo2.cal ok 3 ?_ 15 ?_ ?_ ?_ ?_; rotate_left 2; (focus (intro w'; go_simp <;> with_reducible rfl)); (focus (intro w' g'; with_reducible exact GC.out w')); simp only [Act.put, L0, L1, L2])
    refine Evo2.all [4, 5] (by decide +kernel) rfl ?_
    intro wp1 gp1 iq hq
    simp only [List.mem_cons, List.mem_nil_iff, or_false] at hq
    have AP1 := Chg.trans (Chg.refl (fun j => w1.heap.size ≤ j) _) (Chg.grow gp1)
    replace HK := Lib.hid (HK.out.grow FE.out gp1)
    rcases hq with rfl | rfl
    ·
      refine Evo2.runs (by rfl) (by rfl) (fun K' hK' => ?_)
      go_simp
      (try (simp only [Evo.after_value, Evo.after_skip]))
      refine hK'.out _ _ ?_
      clear hK'
      simp only [Act.put, L0, L1, L2]
      refine ⟨.inr (Chg.alloc (Chg.refl _ _) _), ?_⟩
      generalize hG1 : World.alloc wp1 _ = wg1
      have GG1 : Grow.G wp1 wg1 := hG1 ▸ Grow.G.alloc (Grow.G.refl _) _
      have NC1 := (congrArg (fun W : World => W.heap[wp1.heap.size]?) hG1).symm.trans (MapKept.heap_alloc wp1 _).1
      have NL1 : wp1.heap.size < wg1.heap.size := by rw [← hG1]; simp
      clear hG1
      replace HK := Lib.hid (HK.out.add FE.out GG1 (b := wp1.heap.size) (cs := [.int .i64 0, .int .i64 0, .int .i64 0, .int .i64 0, .int .i64 0, .int .i64 0, .int .i64 0, .int .i64 0, .int .i64 0]) NC1 (Nat.le_refl _)); have LO1 := AP1.size
      refine Evo2.all [5] (by decide +kernel) rfl ?_
      intro wp2 gp2 iq hq
      simp only [List.mem_cons, List.mem_nil_iff, or_false] at hq
      have AP2 := Chg.trans (Chg.trans AP1 (Chg.grow GG1)) (Chg.grow gp2)
      replace HK := Lib.hid (HK.out.grow FE.out gp2)
      have NC1 := (gp2.block _ NL1).trans NC1
      have NL1 := Nat.lt_of_lt_of_le NL1 gp2.size
      subst hq
      refine Evo2.runs (by rfl) (by rfl) (fun K' hK' => ?_)
      go_simp
      (try (simp only [Evo.after_value, Evo.after_skip]))
      refine hK'.out _ _ ?_
      clear hK'
      simp only [Act.put, L0, L1, L2]
      refine ⟨.inr (Chg.alloc (Chg.refl _ _) _), ?_⟩
      generalize hG2 : World.alloc wp2 _ = wg2
      have GG2 : Grow.G wp2 wg2 := hG2 ▸ Grow.G.alloc (Grow.G.refl _) _
      have NC1 := (GG2.block _ NL1).trans NC1
      have NL1 := Nat.lt_of_lt_of_le NL1 GG2.size
      have NC2 := (congrArg (fun W : World => W.heap[wp2.heap.size]?) hG2).symm.trans (MapKept.heap_alloc wp2 _).1
      have NL2 : wp2.heap.size < wg2.heap.size := by rw [← hG2]; simp
      clear hG2
      replace HK := Lib.hid (HK.out.add FE.out GG2 (b := wp2.heap.size) (cs := [.string ⟨#[]⟩, .int .i64 0, .int .i64 0, .int .i64 0, .int .i64 0, .int .i64 0]) NC2 (Nat.le_refl _)); have LO2 := AP2.size
      refine Evo2.all [6] (by decide +kernel) rfl ?_
      intro wp3 gp3 iq hq
      simp only [List.mem_cons, List.mem_nil_iff, or_false] at hq
      have AP3 := Chg.trans (Chg.trans AP2 (Chg.grow GG2)) (Chg.grow gp3)
      replace HK := Lib.hid (HK.out.grow FE.out gp3)
      have NC1 := (gp3.block _ NL1).trans NC1
      have NL1 := Nat.lt_of_lt_of_le NL1 gp3.size
      have NC2 := (gp3.block _ NL2).trans NC2
      have NL2 := Nat.lt_of_lt_of_le NL2 gp3.size
      subst hq
      refine upStoreAll (by rfl) (by rfl) rfl rfl rfl (n := 9) (by kernel_rfl) (by first | exact HK.out.mem.blk (i := 2) rfl | exact HK.out.mem.blk (i := 3) rfl) rfl rfl rfl ?_
      intro wc3 BZ CW3
      have CH3 : Chg (fun j => w1.heap.size ≤ j) _ _ := CW3.mono (fun j _ e => by have e : j = _ := e; show _ ≤ j; omega)
      replace HK := Lib.hid (by first | exact HK.out.set FE.out (i := 2) rfl BZ CW3 | exact HK.out.set FE.out (i := 3) rfl BZ CW3)
      refine ⟨.inr CH3, ?_⟩
      simp only [Act.put, L0, L1, L2]
      refine Evo2.all [7] (by decide +kernel) rfl ?_
      intro wp4 gp4 iq hq
      simp only [List.mem_cons, List.mem_nil_iff, or_false] at hq
      have AP4 := Chg.trans (Chg.trans AP3 CH3) (Chg.grow gp4)
      replace HK := Lib.hid (HK.out.grow FE.out gp4)
      subst hq
      refine upStoreAll (by rfl) (by rfl) rfl rfl rfl (n := 6) (by kernel_rfl) (by first | exact HK.out.mem.blk (i := 2) rfl | exact HK.out.mem.blk (i := 3) rfl) rfl rfl rfl ?_
      intro wc4 BZ CW4
      have CH4 : Chg (fun j => w1.heap.size ≤ j) _ _ := CW4.mono (fun j _ e => by have e : j = _ := e; show _ ≤ j; omega)
      replace HK := Lib.hid (by first | exact HK.out.set FE.out (i := 2) rfl BZ CW4 | exact HK.out.set FE.out (i := 3) rfl BZ CW4)
      refine ⟨.inl (by first | rfl | trivial), ?_⟩
      simp only [Act.put, L0, L1, L2]
      refine Evo2.done (by decide +kernel) (fun wz gz => ?_)
      have AZ := Chg.trans (Chg.trans AP4 CH4) (Chg.grow gz)
      replace HK := Lib.hid (HK.out.grow FE.out gz)
      dsimp only [PostN] 
      (repeat apply Exists.intro) 
      refine ⟨rfl, Lib.hid ?_⟩ 
      have HL := HK.out 
      simp only [List.nil_append, List.cons_append, List.set_cons_zero, List.set_cons_succ] at HL 
      first | exact HL | exact HL.perm (List.Perm.cons _ (List.Perm.cons _ (List.Perm.swap _ _ [])))
    ·
      refine Evo2.runs (by rfl) (by rfl) (fun K' hK' => ?_)
      go_simp
      (try (simp only [Evo.after_value, Evo.after_skip]))
      refine hK'.out _ _ ?_
      clear hK'
      simp only [Act.put, L0, L1, L2]
      refine ⟨.inr (Chg.alloc (Chg.refl _ _) _), ?_⟩
      generalize hG1 : World.alloc wp1 _ = wg1
      have GG1 : Grow.G wp1 wg1 := hG1 ▸ Grow.G.alloc (Grow.G.refl _) _
      have NC1 := (congrArg (fun W : World => W.heap[wp1.heap.size]?) hG1).symm.trans (MapKept.heap_alloc wp1 _).1
      have NL1 : wp1.heap.size < wg1.heap.size := by rw [← hG1]; simp
      clear hG1
      replace HK := Lib.hid (HK.out.add FE.out GG1 (b := wp1.heap.size) (cs := [.string ⟨#[]⟩, .int .i64 0, .int .i64 0, .int .i64 0, .int .i64 0, .int .i64 0]) NC1 (Nat.le_refl _)); have LO1 := AP1.size
      refine Evo2.all [4] (by decide +kernel) rfl ?_
      intro wp2 gp2 iq hq
      simp only [List.mem_cons, List.mem_nil_iff, or_false] at hq
      have AP2 := Chg.trans (Chg.trans AP1 (Chg.grow GG1)) (Chg.grow gp2)
      replace HK := Lib.hid (HK.out.grow FE.out gp2)
      have NC1 := (gp2.block _ NL1).trans NC1
      have NL1 := Nat.lt_of_lt_of_le NL1 gp2.size
      subst hq
      refine Evo2.runs (by rfl) (by rfl) (fun K' hK' => ?_)
      go_simp
      (try (simp only [Evo.after_value, Evo.after_skip]))
      refine hK'.out _ _ ?_
      clear hK'
      simp only [Act.put, L0, L1, L2]
      refine ⟨.inr (Chg.alloc (Chg.refl _ _) _), ?_⟩
      generalize hG2 : World.alloc wp2 _ = wg2
      have GG2 : Grow.G wp2 wg2 := hG2 ▸ Grow.G.alloc (Grow.G.refl _) _
      have NC1 := (GG2.block _ NL1).trans NC1
      have NL1 := Nat.lt_of_lt_of_le NL1 GG2.size
      have NC2 := (congrArg (fun W : World => W.heap[wp2.heap.size]?) hG2).symm.trans (MapKept.heap_alloc wp2 _).1
      have NL2 : wp2.heap.size < wg2.heap.size := by rw [← hG2]; simp
      clear hG2
      replace HK := Lib.hid (HK.out.add FE.out GG2 (b := wp2.heap.size) (cs := [.int .i64 0, .int .i64 0, .int .i64 0, .int .i64 0, .int .i64 0, .int .i64 0, .int .i64 0, .int .i64 0, .int .i64 0]) NC2 (Nat.le_refl _)); have LO2 := AP2.size
      refine Evo2.all [6] (by decide +kernel) rfl ?_
      intro wp3 gp3 iq hq
      simp only [List.mem_cons, List.mem_nil_iff, or_false] at hq
      have AP3 := Chg.trans (Chg.trans AP2 (Chg.grow GG2)) (Chg.grow gp3)
      replace HK := Lib.hid (HK.out.grow FE.out gp3)
      have NC1 := (gp3.block _ NL1).trans NC1
      have NL1 := Nat.lt_of_lt_of_le NL1 gp3.size
      have NC2 := (gp3.block _ NL2).trans NC2
      have NL2 := Nat.lt_of_lt_of_le NL2 gp3.size
      subst hq
      refine upStoreAll (by rfl) (by rfl) rfl rfl rfl (n := 9) (by kernel_rfl) (by first | exact HK.out.mem.blk (i := 2) rfl | exact HK.out.mem.blk (i := 3) rfl) rfl rfl rfl ?_
      intro wc3 BZ CW3
      have CH3 : Chg (fun j => w1.heap.size ≤ j) _ _ := CW3.mono (fun j _ e => by have e : j = _ := e; show _ ≤ j; omega)
      replace HK := Lib.hid (by first | exact HK.out.set FE.out (i := 2) rfl BZ CW3 | exact HK.out.set FE.out (i := 3) rfl BZ CW3)
      refine ⟨.inr CH3, ?_⟩
      simp only [Act.put, L0, L1, L2]
      refine Evo2.all [7] (by decide +kernel) rfl ?_
      intro wp4 gp4 iq hq
      simp only [List.mem_cons, List.mem_nil_iff, or_false] at hq
      have AP4 := Chg.trans (Chg.trans AP3 CH3) (Chg.grow gp4)
      replace HK := Lib.hid (HK.out.grow FE.out gp4)
      subst hq
      refine upStoreAll (by rfl) (by rfl) rfl rfl rfl (n := 6) (by kernel_rfl) (by first | exact HK.out.mem.blk (i := 2) rfl | exact HK.out.mem.blk (i := 3) rfl) rfl rfl rfl ?_
      intro wc4 BZ CW4
      have CH4 : Chg (fun j => w1.heap.size ≤ j) _ _ := CW4.mono (fun j _ e => by have e : j = _ := e; show _ ≤ j; omega)
      replace HK := Lib.hid (by first | exact HK.out.set FE.out (i := 2) rfl BZ CW4 | exact HK.out.set FE.out (i := 3) rfl BZ CW4)
      refine ⟨.inl (by first | rfl | trivial), ?_⟩
      simp only [Act.put, L0, L1, L2]
      refine Evo2.done (by decide +kernel) (fun wz gz => ?_)
      have AZ := Chg.trans (Chg.trans AP4 CH4) (Chg.grow gz)
      replace HK := Lib.hid (HK.out.grow FE.out gz)
      dsimp only [PostN] 
      (repeat apply Exists.intro) 
      refine ⟨rfl, Lib.hid ?_⟩ 
      have HL := HK.out 
      simp only [List.nil_append, List.cons_append, List.set_cons_zero, List.set_cons_succ] at HL 
      first | exact HL | exact HL.perm (List.Perm.cons _ (List.Perm.cons _ (List.Perm.swap _ _ [])))
  ·
    rintro A W3 ⟨x17, x18, x19, x20, bx, bY, rfl, H6⟩
    replace H := H6
    clear H6 HK B0 B1 l0 l1 MK GC CE CG
    go_wp2_with (first | (refine Mem.loadAll 2 (t := 23) rfl rfl rfl Try.underlying23 (n := 9) (by kernel_rfl) H.out.mem rfl rfl ?_) | (refine Mem.loadAll 3 (t := 25) rfl rfl rfl Try.underlying25 (n := 6) (by kernel_rfl) H.out.mem rfl rfl ?_))
    refine (DC.out _).mono ?_
    rintro e w4 ⟨rfl, hg⟩
    replace H := Lib.hid (H.out.grow FE.out hg)
    clear hg DC
    go_wp2_with ((refine Hold.storeAll 4 (t := 30) FE.out rfl rfl rfl rfl (n := 2) (by kernel_rfl) (Hold.alloc' H.out FE.out _ _ rfl) rfl rfl rfl rfl ?_; intro W5 HMm CW5))
    simp only [K0, K1, L1, L2, K2, K3, K4, K5, K6, K7, Nat.reduceAdd, Nat.reduceSub] at HMm
    replace H := Lib.hid HMm
    clear HMm
    refine Stay.go ?_
    go_wp2_with (first | (refine Mem.load1 2 (t := 3) rfl rfl rfl Try.underlying3 rfl H.out.mem rfl rfl ?_) | (refine Mem.loadAll 3 (t := 25) rfl rfl rfl Try.underlying25 (n := 6) (by kernel_rfl) H.out.mem rfl rfl ?_))
    refine (RD0.out _).mono ?_
    rintro e w6 ⟨rfl, hg⟩
    replace H := Lib.hid (H.out.grow FE.out hg)
    clear hg RD0
    go_wp2_with ((refine Hold.storeAll 5 (t := 32) FE.out rfl rfl rfl rfl (n := 2) (by kernel_rfl) (Hold.alloc' H.out FE.out _ _ rfl) rfl rfl rfl rfl ?_; intro W7 HMm CW7))
    simp only [K0, K1, L1, L2, K2, K3, K4, K5, K6, K7, Nat.reduceAdd, Nat.reduceSub] at HMm
    replace H := Lib.hid HMm
    clear HMm
    refine Stay.go ?_
    go_wp2_with fail
    refine (WA.out _).mono ?_
    rintro e wx ⟨rfl, rfl⟩
    go_wp2_with fail
    refine (WB.out _).mono ?_
    rintro e wx ⟨rfl, rfl⟩
    clear WA WB
    go_wp2_with fail
    have KC := Lib.hid (fun (w' : World) (h : Chg (fun _ => False) W7 w') => (⟨h.cell (H.out.mem.cell (i := 4) (o := 0) rfl rfl) (fun h => h), h.cell (H.out.mem.cell (i := 4) (o := 1) rfl rfl) (fun h => h), h.cell (H.out.mem.cell (i := 5) (o := 0) rfl rfl) (fun h => h), h.cell (H.out.mem.cell (i := 5) (o := 1) rfl rfl) (fun h => h), h.cell (H.out.mem.cell (i := 3) (o := 2) rfl rfl) (fun h => h), trivial⟩ : w'.cell? ⟨w4.heap.size, 0, none⟩ = some (.int .i64 W) ∧ w'.cell? ⟨w4.heap.size, 1, none⟩ = some (.int .i64 L) ∧ w'.cell? ⟨w6.heap.size, 0, none⟩ = some (.int .i64 W) ∧ w'.cell? ⟨w6.heap.size, 1, none⟩ = some (.int .i64 L) ∧ w'.cell? ⟨bY, 2, none⟩ = some (.int .i64 d2) ∧ True))
    refine Evo2.start' (ℓ := none) (S := Chg (fun _ => False)) (E := Grow.G) (by kernel_rfl) ⟨Chg.pre _, by decide +kernel, (by intro c a d v w h; cases d <;> exact h), by decide +kernel⟩ (fun ok => ?_)
    refine Evo2.va ok 0 _ _ ?_
    first | (refine Evo2.vl ok 1 KC.out (Chg.refl (fun _ => False) _) _ _ ?_) | (refine Evo2.va ok 1 _ _ ?_)
    refine Evo2.va ok 2 _ _ ?_
    first | (refine Evo2.vl ok 3 KC.out (Chg.refl (fun _ => False) _) _ _ ?_) | (refine Evo2.va ok 3 _ _ ?_)
    refine Evo2.va ok 4 _ _ ?_
    refine Evo2.va ok 5 _ _ ?_
    first | (refine Evo2.va ok 6 _ _ ?_) | (refine Evo2.vi ok 6 _ ?_)
    first | (refine Evo2.vl ok 7 KC.out (Chg.refl (fun _ => False) _) _ _ ?_) | (refine Evo2.va ok 7 _ _ ?_) | (refine Evo2.vi ok 7 _ ?_)
    first | (refine Evo2.va ok 8 _ _ ?_) | (refine Evo2.vi ok 8 _ ?_)
    first | (refine Evo2.vl ok 9 KC.out (Chg.refl (fun _ => False) _) _ _ ?_) | (refine Evo2.va ok 9 _ _ ?_) | (refine Evo2.vi ok 9 _ ?_)
    first | (refine Evo2.va ok 10 _ _ ?_) | (refine Evo2.vi ok 10 _ ?_)
    refine Evo2.va ok 11 _ _ ?_
    refine Evo2.va ok 12 _ _ ?_
    first | (refine Evo2.va ok 13 _ _ ?_) | (refine Evo2.vi ok 13 _ ?_)
    first | (refine Evo2.va ok 14 _ _ ?_) | (refine Evo2.vi ok 14 _ ?_)
    first | (refine Evo2.va ok 15 _ _ ?_) | (refine Evo2.vi ok 15 _ ?_)
    first | (refine Evo2.vl ok 16 KC.out (Chg.refl (fun _ => False) _) _ _ ?_) | (refine Evo2.va ok 16 _ _ ?_) | (refine Evo2.vi ok 16 _ ?_)
    first | (refine Evo2.cal ok 17 ?_ 19 ?_ ?_ ?_ ?_; rotate_left 2; (focus (intro w'; go_simp <;> with_reducible rfl)); (focus (intro w' g'; with_reducible exact N1.out w')); simp only [Act.put, L0, L1, L2]) | (refine Evo2.vi ok 17 _ ?_)
    first | (refine Evo2.va ok 18 _ _ ?_) | (refine Evo2.vi ok 18 _ ?_)
    first | (refine Evo2.va ok 19 _ _ ?_) | (refine Evo2.vi ok 19 _ ?_)
    first | (refine Evo2.va ok 20 _ _ ?_) | (refine Evo2.vi ok 20 _ ?_)
    first | (refine Evo2.vl ok 21 KC.out (Chg.refl (fun _ => False) _) _ _ ?_) | (refine Evo2.va ok 21 _ _ ?_) | (refine Evo2.vi ok 21 _ ?_)
    first | (refine Evo2.cal ok 22 ?_ 20 ?_ ?_ ?_ ?_; rotate_left 2; (focus (intro w'; go_simp <;> with_reducible rfl)); (focus (intro w' g'; with_reducible exact N2.out w')); simp only [Act.put, L0, L1, L2]) | (refine Evo2.vi ok 22 _ ?_)
    first | (refine Evo2.va ok 23 _ _ ?_) | (refine Evo2.vi ok 23 _ ?_)
    refine Evo2.va ok 24 _ _ ?_
    refine Evo2.va ok 25 _ _ ?_
    first | (refine Evo2.va ok 26 _ _ ?_) | (refine Evo2.vi ok 26 _ ?_)
    first | (refine Evo2.va ok 27 _ _ ?_) | (refine Evo2.vi ok 27 _ ?_)
    first | (refine Evo2.cal ok 28 ?_ 18 ?_ ?_ ?_ ?_; rotate_left 2; (focus (intro w'; go_simp <;> with_reducible rfl)); (focus (intro w' g'; with_reducible exact WC.out w')); simp only [Act.put, L0, L1, L2]) | (refine Evo2.vi ok 28 _ ?_)
    first | (refine Evo2.va ok 29 _ _ ?_) | (refine Evo2.vi ok 29 _ ?_)
    first | (refine Evo2.vl ok 30 KC.out (Chg.refl (fun _ => False) _) _ _ ?_) | (refine Evo2.va ok 30 _ _ ?_) | (refine Evo2.vi ok 30 _ ?_)
    first | (refine Evo2.cal ok 31 ?_ 19 ?_ ?_ ?_ ?_; rotate_left 2; (focus (intro w'; go_simp <;> with_reducible rfl)); (focus (intro w' g'; with_reducible exact N3.out w')); simp only [Act.put, L0, L1, L2]) | (refine Evo2.vi ok 31 _ ?_)
    first | (refine Evo2.va ok 32 _ _ ?_) | (refine Evo2.vi ok 32 _ ?_)
    first | (refine Evo2.va ok 33 _ _ ?_) | (refine Evo2.vi ok 33 _ ?_)
    first | (refine Evo2.cal ok 34 ?_ 18 ?_ ?_ ?_ ?_; rotate_left 2; (focus (intro w'; go_simp <;> with_reducible rfl)); (focus (intro w' g'; with_reducible exact WC.out w')); simp only [Act.put, L0, L1, L2]) | (refine Evo2.vi ok 34 _ ?_)
    first | (refine Evo2.va ok 35 _ _ ?_) | (refine Evo2.vi ok 35 _ ?_)
    first | (refine Evo2.vl ok 36 KC.out (Chg.refl (fun _ => False) _) _ _ ?_) | (refine Evo2.va ok 36 _ _ ?_) | (refine Evo2.vi ok 36 _ ?_)
    first | (refine Evo2.cal ok 37 ?_ 20 ?_ ?_ ?_ ?_; rotate_left 2; (focus (intro w'; go_simp <;> with_reducible rfl)); (focus (intro w' g'; with_reducible exact N4.out w')); simp only [Act.put, L0, L1, L2]) | (refine Evo2.vi ok 37 _ ?_)
    first | (refine Evo2.va ok 38 _ _ ?_) | (refine Evo2.vi ok 38 _ ?_)
    refine Evo2.va ok 39 _ _ ?_
    refine Evo2.va ok 40 _ _ ?_
    refine Evo2.done (by decide +kernel) (fun wz gz => ?_)
    have AZ := Chg.trans (Chg.refl (fun _ => False) _) (Chg.grow gz)
    have HB := Lib.hid (H.out.grow FE.out (AZ.toGrow (fun _ _ h => h))).below
    clear AZ gz KC H
    go_wp2_with fail
    go_ret
    exact ⟨by simp, HB.out⟩
end Go.Proofs.Ytifkombocmdmfaa


/- The walk of ScalePanic. -/
import Derived.Test.YtifkombocmdmfaaZ71
namespace Go.Proofs.Ytifkombocmdmfaa
set_option maxRecDepth 100000
set_option linter.unusedVariables false
set_option linter.unusedSimpArgs false
set_option linter.unnecessarySimpa false
open Go.RowKit

set_option maxHeartbeats 32000000 in
theorem walkScalePanic (w : World) (r : Sc.G) (hr : r.wf) (c : Cfg) (hc : c.wf ∧ c.nm.size ≤ 140737488351232) (n : Int) (hn : wf64 n) :
    Calls Try.prog 6 #[r.v, c.v, .int .i64 n] w fun e w' => e = .returned (.bool true) ∧ Below w.heap.size w w' := by
  have KN := Lib.hid (fun w => known10_any w)
  have FE := Lib.hid Emp.foot
  have MK := Lib.hid (fun w => make_any r w hr)
  have GC := Lib.hid (fun w => gcfg_any c 0 w hc.1 (by unfold wf64; omega))
  have hg := r.mk2_ok
  have hd := scC_ok c 0
  have RD := r.mk2_rd
  have DC := Lib.hid (fun w => dec10_any r.mk2 (gCfg c 0) w hg hd)
  have PF := Sc.panic hg hd
  have RN := Lib.hid (fun w => rneed_any r.mk2.sh r.mk2.shs (gCfg c 0).co w hg.sh hg.shs hd.co)
  have WN := Lib.hid (fun w => within10_any n 9 w (by omega) (by omega) hn.1 hn.2)
  have rn := withinI_range n 9 (by omega)
  have BB := Sc.b_bd hg hd
  obtain ⟨b, hb⟩ : ∃ b, Sc.b r.mk2 (scC (gCfg c 0)) = b := ⟨_, rfl⟩
  rw [hb] at BB PF
  unfold Sc.b at hb
  rw [show Sc.need r.mk2.sh r.mk2.shs (gCfg c 0).co = b from hb] at RN
  have WB := Sc.want_bd hg hd
  have LB := Sc.left_bd (c := scC (gCfg c 0)) hg
  have RD2 := hg.rd
  have DQ := Lib.hid (fun (W L : Int) (hW : 0 ≤ W ∧ W ≤ 10) (hL : 0 ≤ L ∧ L ≤ 6) => (⟨fun w => decide_any (Sc.quiet r.mk2 W L) (gCfg c 0) w (Sc.quiet_ok hg hW hL) hd, Sc.quiet_left hg hd W L, (Sc.want_bd (Sc.quiet_ok hg hW hL) hd).2.2⟩ : (∀ w, _) ∧ _ ∧ _))
  obtain ⟨m, hm⟩ : ∃ m, Sc.m r.mk2 = m := ⟨_, rfl⟩
  rw [hm] at PF
  unfold Sc.m at hm
  generalize Sc.want r.mk2 (scC (gCfg c 0)) = W at *
  generalize Sc.left r.mk2 (scC (gCfg c 0)) = L at *
  clear hg hd hr hc hn hb
  generalize withinI n 9 = K at *
  generalize r.mk2 = g at *
  generalize gCfg c 0 = d at *
  obtain ⟨x1, x2, x3, x4, x5, x6, x7, x8, x9⟩ := r
  obtain ⟨g1, g2, g3, g4, g5, g6, g7, g8, g9⟩ := g
  obtain ⟨cn, c1, c2, c3, c4, c5⟩ := c
  obtain ⟨dn, d1, d2, d3, d4, d5⟩ := d
  unfold Sc.G.v Sc.G.cells Cfg.v at *
  dsimp only at *
  unfold Sc.G.args Sc.quiet at DQ
  unfold Cfg.v at DQ
  dsimp only at DQ
  have HX := Lib.hid (And.intro PF (And.intro WB (And.intro LB (And.intro RD2 (And.intro hm (And.intro BB rn))))))
  clear PF WB LB RD2 hm BB RD rn
  go_enter Try.func6, Try.ntmps6
  go_wp2_with fail
  refine (KN.out _).mono ?_
  rintro e w1 ⟨rfl, hg⟩
  have H0 := ((((Hold.nil w).alloc' Emp.foot [.int .i64 x1, .int .i64 x2, .int .i64 x3, .int .i64 x4, .int .i64 x5, .int .i64 x6, .int .i64 x7, .int .i64 x8, .int .i64 x9] 23 rfl).alloc' Emp.foot [.string cn, .int .i64 c1, .int .i64 c2, .int .i64 c3, .int .i64 c4, .int .i64 c5] 25 (g := w.heap.size + 1) (by simp)).grow Emp.foot hg)
  simp only [K0, K1, L1, L2, K2, K3, K4, K5, K6, K7, Nat.reduceAdd, Nat.reduceSub] at H0
  have H := Lib.hid H0
  clear H0 hg
  go_wp2_with fail
  have B0 := Lib.hid (H.out.mem.blk (i := 0) rfl)
  have B1 := Lib.hid (H.out.mem.blk (i := 1) rfl)
  have l0 := B0.out.lt
  have l1 := B1.out.lt
  have HK := H
  have CE : (Try.prog.info? 25).map (·.size) = some 6 := by kernel_rfl
  have CG : (Try.prog.info? 23).map (·.size) = some 9 := by kernel_rfl
  refine wp_spec (fun a0 A W => ∃ x17 x18 x19 x20 : Value, ∃ (bx bY : Nat), A = ((((((a0.put (some 7) (.pointer (some ⟨bx, 0, none⟩))).put (some 8) (.pointer (some ⟨bY, 0, none⟩))).put (some 17) x17).put (some 18) x18).put (some 19) x19).put (some 20) x20) ∧ Hid (Hold w W [(w.heap.size, [.int .i64 x1, .int .i64 x2, .int .i64 x3, .int .i64 x4, .int .i64 x5, .int .i64 x6, .int .i64 x7, .int .i64 x8, .int .i64 x9], 23), (w.heap.size + 1, [.string cn, .int .i64 c1, .int .i64 c2, .int .i64 c3, .int .i64 c4, .int .i64 c5], 25), (bx, [.int .i64 g1, .int .i64 g2, .int .i64 g3, .int .i64 g4, .int .i64 g5, .int .i64 g6, .int .i64 g7, .int .i64 g8, .int .i64 g9], 23), (bY, [.string dn, .int .i64 d1, .int .i64 d2, .int .i64 d3, .int .i64 d4, .int .i64 d5], 25)] Emp)) ?_ ?_
  all_goals simp only [Act.put, L0, L1, L2]
  ·
    refine Evo2.start' (ℓ := some 7) (S := Chg (fun j => w1.heap.size ≤ j)) (E := Grow.G) (by kernel_rfl) ⟨Chg.pre _, by decide +kernel, (by intro c a d v w h; cases d <;> exact h), by decide +kernel⟩ (fun ok => ?_)
    first | (refine Evo2.val ok 0 ?_ ?_ ?_; rotate_left; (focus (intro w' hg; refine Box.exec_loadAll ?_ Try.underlying23 CG (B0.out.chg (Chg.trans (Chg.refl (fun j => w1.heap.size ≤ j) _) hg) (by omega)) ?_; (all_goals (first | exact ⟨rfl, rfl⟩ | rfl)))); simp only [Act.put, L0, L1, L2]) | (refine Evo2.val ok 0 ?_ ?_ ?_; rotate_left; (focus (intro w' hg; refine Box.exec_loadAll ?_ Try.underlying25 CE (B1.out.chg (Chg.trans (Chg.refl (fun j => w1.heap.size ≤ j) _) hg) (by omega)) ?_; (all_goals (first | exact ⟨rfl, rfl⟩ | rfl)))); simp only [Act.put, L0, L1, L2]) | (refine Evo2.va ok 0 _ _ ?_)
    (refine Evo2.cal ok 1 ?_ 14 ?_ ?_ ?_ ?_; rotate_left 2; (focus (intro w'; go_simp <;> with_reducible rfl)); (focus (intro w' g'; with_reducible exact MK.out w')); simp only [Act.put, L0, L1, L2])
    first | (refine Evo2.val ok 2 ?_ ?_ ?_; rotate_left; (focus (intro w' hg; refine Box.exec_loadAll ?_ Try.underlying23 CG (B0.out.chg (Chg.trans (Chg.refl (fun j => w1.heap.size ≤ j) _) hg) (by omega)) ?_; (all_goals (first | exact ⟨rfl, rfl⟩ | rfl)))); simp only [Act.put, L0, L1, L2]) | (refine Evo2.val ok 2 ?_ ?_ ?_; rotate_left; (focus (intro w' hg; refine Box.exec_loadAll ?_ Try.underlying25 CE (B1.out.chg (Chg.trans (Chg.refl (fun j => w1.heap.size ≤ j) _) hg) (by omega)) ?_; (all_goals (first | exact ⟨rfl, rfl⟩ | rfl)))); simp only [Act.put, L0, L1, L2]) | (refine Evo2.va ok 2 _ _ ?_)
    (refine Evo2.cal ok 3 ?_ 15 ?_ ?_ ?_ ?_; rotate_left 2; (focus (intro w'; go_simp <;> with_reducible rfl)); (focus (intro w' g'; with_reducible exact GC.out w')); simp only [Act.put, L0, L1, L2])
    refine Evo2.all [4, 5] (by decide +kernel) rfl ?_
    intro wp1 gp1 iq hq
    simp only [List.mem_cons, List.mem_nil_iff, or_false] at hq
    have AP1 := Chg.trans (Chg.refl (fun j => w1.heap.size ≤ j) _) (Chg.grow gp1)
    replace HK := Lib.hid (HK.out.grow FE.out gp1)
    rcases hq with rfl | rfl
    ·
      refine Evo2.runs (by rfl) (by rfl) (fun K' hK' => ?_)
      go_simp
      (try (simp only [Evo.after_value, Evo.after_skip]))
      refine hK'.out _ _ ?_
      clear hK'
      simp only [Act.put, L0, L1, L2]
      refine ⟨.inr (Chg.alloc (Chg.refl _ _) _), ?_⟩
      generalize hG1 : World.alloc wp1 _ = wg1
      have GG1 : Grow.G wp1 wg1 := hG1 ▸ Grow.G.alloc (Grow.G.refl _) _
      have NC1 := (congrArg (fun W : World => W.heap[wp1.heap.size]?) hG1).symm.trans (MapKept.heap_alloc wp1 _).1
      have NL1 : wp1.heap.size < wg1.heap.size := by rw [← hG1]; simp
      clear hG1
      replace HK := Lib.hid (HK.out.add FE.out GG1 (b := wp1.heap.size) (cs := [.int .i64 0, .int .i64 0, .int .i64 0, .int .i64 0, .int .i64 0, .int .i64 0, .int .i64 0, .int .i64 0, .int .i64 0]) NC1 (Nat.le_refl _)); have LO1 := AP1.size
      refine Evo2.all [5] (by decide +kernel) rfl ?_
      intro wp2 gp2 iq hq
      simp only [List.mem_cons, List.mem_nil_iff, or_false] at hq
      have AP2 := Chg.trans (Chg.trans AP1 (Chg.grow GG1)) (Chg.grow gp2)
      replace HK := Lib.hid (HK.out.grow FE.out gp2)
      have NC1 := (gp2.block _ NL1).trans NC1
      have NL1 := Nat.lt_of_lt_of_le NL1 gp2.size
      subst hq
      refine Evo2.runs (by rfl) (by rfl) (fun K' hK' => ?_)
      go_simp
      (try (simp only [Evo.after_value, Evo.after_skip]))
      refine hK'.out _ _ ?_
      clear hK'
      simp only [Act.put, L0, L1, L2]
      refine ⟨.inr (Chg.alloc (Chg.refl _ _) _), ?_⟩
      generalize hG2 : World.alloc wp2 _ = wg2
      have GG2 : Grow.G wp2 wg2 := hG2 ▸ Grow.G.alloc (Grow.G.refl _) _
      have NC1 := (GG2.block _ NL1).trans NC1
      have NL1 := Nat.lt_of_lt_of_le NL1 GG2.size
      have NC2 := (congrArg (fun W : World => W.heap[wp2.heap.size]?) hG2).symm.trans (MapKept.heap_alloc wp2 _).1
      have NL2 : wp2.heap.size < wg2.heap.size := by rw [← hG2]; simp
      clear hG2
      replace HK := Lib.hid (HK.out.add FE.out GG2 (b := wp2.heap.size) (cs := [.string ⟨#[]⟩, .int .i64 0, .int .i64 0, .int .i64 0, .int .i64 0, .int .i64 0]) NC2 (Nat.le_refl _)); have LO2 := AP2.size
      refine Evo2.all [6] (by decide +kernel) rfl ?_
      intro wp3 gp3 iq hq
      simp only [List.mem_cons, List.mem_nil_iff, or_false] at hq
      have AP3 := Chg.trans (Chg.trans AP2 (Chg.grow GG2)) (Chg.grow gp3)
      replace HK := Lib.hid (HK.out.grow FE.out gp3)
      have NC1 := (gp3.block _ NL1).trans NC1
      have NL1 := Nat.lt_of_lt_of_le NL1 gp3.size
      have NC2 := (gp3.block _ NL2).trans NC2
      have NL2 := Nat.lt_of_lt_of_le NL2 gp3.size
      subst hq
      refine upStoreAll (by rfl) (by rfl) rfl rfl rfl (n := 9) (by kernel_rfl) (by first | exact HK.out.mem.blk (i := 2) rfl | exact HK.out.mem.blk (i := 3) rfl) rfl rfl rfl ?_
      intro wc3 BZ CW3
      have CH3 : Chg (fun j => w1.heap.size ≤ j) _ _ := CW3.mono (fun j _ e => by have e : j = _ := e; show _ ≤ j; omega)
      replace HK := Lib.hid (by first | exact HK.out.set FE.out (i := 2) rfl BZ CW3 | exact HK.out.set FE.out (i := 3) rfl BZ CW3)
      refine ⟨.inr CH3, ?_⟩
      simp only [Act.put, L0, L1, L2]
      refine Evo2.all [7] (by decide +kernel) rfl ?_
      intro wp4 gp4 iq hq
      simp only [List.mem_cons, List.mem_nil_iff, or_false] at hq
      have AP4 := Chg.trans (Chg.trans AP3 CH3) (Chg.grow gp4)
      replace HK := Lib.hid (HK.out.grow FE.out gp4)
      subst hq
      refine upStoreAll (by rfl) (by rfl) rfl rfl rfl (n := 6) (by kernel_rfl) (by first | exact HK.out.mem.blk (i := 2) rfl | exact HK.out.mem.blk (i := 3) rfl) rfl rfl rfl ?_
      intro wc4 BZ CW4
      have CH4 : Chg (fun j => w1.heap.size ≤ j) _ _ := CW4.mono (fun j _ e => by have e : j = _ := e; show _ ≤ j; omega)
      replace HK := Lib.hid (by first | exact HK.out.set FE.out (i := 2) rfl BZ CW4 | exact HK.out.set FE.out (i := 3) rfl BZ CW4)
      refine ⟨.inl (by first | rfl | trivial), ?_⟩
      simp only [Act.put, L0, L1, L2]
      refine Evo2.done (by decide +kernel) (fun wz gz => ?_)
      have AZ := Chg.trans (Chg.trans AP4 CH4) (Chg.grow gz)
      replace HK := Lib.hid (HK.out.grow FE.out gz)
      dsimp only [PostN] 
      (repeat apply Exists.intro) 
      refine ⟨rfl, Lib.hid ?_⟩ 
      have HL := HK.out 
      simp only [List.nil_append, List.cons_append, List.set_cons_zero, List.set_cons_succ] at HL 
      first | exact HL | exact HL.perm (List.Perm.cons _ (List.Perm.cons _ (List.Perm.swap _ _ [])))
    ·
      refine Evo2.runs (by rfl) (by rfl) (fun K' hK' => ?_)
      go_simp
      (try (simp only [Evo.after_value, Evo.after_skip]))
      refine hK'.out _ _ ?_
      clear hK'
      simp only [Act.put, L0, L1, L2]
      refine ⟨.inr (Chg.alloc (Chg.refl _ _) _), ?_⟩
      generalize hG1 : World.alloc wp1 _ = wg1
      have GG1 : Grow.G wp1 wg1 := hG1 ▸ Grow.G.alloc (Grow.G.refl _) _
      have NC1 := (congrArg (fun W : World => W.heap[wp1.heap.size]?) hG1).symm.trans (MapKept.heap_alloc wp1 _).1
      have NL1 : wp1.heap.size < wg1.heap.size := by rw [← hG1]; simp
      clear hG1
      replace HK := Lib.hid (HK.out.add FE.out GG1 (b := wp1.heap.size) (cs := [.string ⟨#[]⟩, .int .i64 0, .int .i64 0, .int .i64 0, .int .i64 0, .int .i64 0]) NC1 (Nat.le_refl _)); have LO1 := AP1.size
      refine Evo2.all [4] (by decide +kernel) rfl ?_
      intro wp2 gp2 iq hq
      simp only [List.mem_cons, List.mem_nil_iff, or_false] at hq
      have AP2 := Chg.trans (Chg.trans AP1 (Chg.grow GG1)) (Chg.grow gp2)
      replace HK := Lib.hid (HK.out.grow FE.out gp2)
      have NC1 := (gp2.block _ NL1).trans NC1
      have NL1 := Nat.lt_of_lt_of_le NL1 gp2.size
      subst hq
      refine Evo2.runs (by rfl) (by rfl) (fun K' hK' => ?_)
      go_simp
      (try (simp only [Evo.after_value, Evo.after_skip]))
      refine hK'.out _ _ ?_
      clear hK'
      simp only [Act.put, L0, L1, L2]
      refine ⟨.inr (Chg.alloc (Chg.refl _ _) _), ?_⟩
      generalize hG2 : World.alloc wp2 _ = wg2
      have GG2 : Grow.G wp2 wg2 := hG2 ▸ Grow.G.alloc (Grow.G.refl _) _
      have NC1 := (GG2.block _ NL1).trans NC1
      have NL1 := Nat.lt_of_lt_of_le NL1 GG2.size
      have NC2 := (congrArg (fun W : World => W.heap[wp2.heap.size]?) hG2).symm.trans (MapKept.heap_alloc wp2 _).1
      have NL2 : wp2.heap.size < wg2.heap.size := by rw [← hG2]; simp
      clear hG2
      replace HK := Lib.hid (HK.out.add FE.out GG2 (b := wp2.heap.size) (cs := [.int .i64 0, .int .i64 0, .int .i64 0, .int .i64 0, .int .i64 0, .int .i64 0, .int .i64 0, .int .i64 0, .int .i64 0]) NC2 (Nat.le_refl _)); have LO2 := AP2.size
      refine Evo2.all [6] (by decide +kernel) rfl ?_
      intro wp3 gp3 iq hq
      simp only [List.mem_cons, List.mem_nil_iff, or_false] at hq
      have AP3 := Chg.trans (Chg.trans AP2 (Chg.grow GG2)) (Chg.grow gp3)
      replace HK := Lib.hid (HK.out.grow FE.out gp3)
      have NC1 := (gp3.block _ NL1).trans NC1
      have NL1 := Nat.lt_of_lt_of_le NL1 gp3.size
      have NC2 := (gp3.block _ NL2).trans NC2
      have NL2 := Nat.lt_of_lt_of_le NL2 gp3.size
      subst hq
      refine upStoreAll (by rfl) (by rfl) rfl rfl rfl (n := 9) (by kernel_rfl) (by first | exact HK.out.mem.blk (i := 2) rfl | exact HK.out.mem.blk (i := 3) rfl) rfl rfl rfl ?_
      intro wc3 BZ CW3
      have CH3 : Chg (fun j => w1.heap.size ≤ j) _ _ := CW3.mono (fun j _ e => by have e : j = _ := e; show _ ≤ j; omega)
      replace HK := Lib.hid (by first | exact HK.out.set FE.out (i := 2) rfl BZ CW3 | exact HK.out.set FE.out (i := 3) rfl BZ CW3)
      refine ⟨.inr CH3, ?_⟩
      simp only [Act.put, L0, L1, L2]
      refine Evo2.all [7] (by decide +kernel) rfl ?_
      intro wp4 gp4 iq hq
      simp only [List.mem_cons, List.mem_nil_iff, or_false] at hq
      have AP4 := Chg.trans (Chg.trans AP3 CH3) (Chg.grow gp4)
      replace HK := Lib.hid (HK.out.grow FE.out gp4)
      subst hq
      refine upStoreAll (by rfl) (by rfl) rfl rfl rfl (n := 6) (by kernel_rfl) (by first | exact HK.out.mem.blk (i := 2) rfl | exact HK.out.mem.blk (i := 3) rfl) rfl rfl rfl ?_
      intro wc4 BZ CW4
      have CH4 : Chg (fun j => w1.heap.size ≤ j) _ _ := CW4.mono (fun j _ e => by have e : j = _ := e; show _ ≤ j; omega)
      replace HK := Lib.hid (by first | exact HK.out.set FE.out (i := 2) rfl BZ CW4 | exact HK.out.set FE.out (i := 3) rfl BZ CW4)
      refine ⟨.inl (by first | rfl | trivial), ?_⟩
      simp only [Act.put, L0, L1, L2]
      refine Evo2.done (by decide +kernel) (fun wz gz => ?_)
      have AZ := Chg.trans (Chg.trans AP4 CH4) (Chg.grow gz)
      replace HK := Lib.hid (HK.out.grow FE.out gz)
      dsimp only [PostN] 
      (repeat apply Exists.intro) 
      refine ⟨rfl, Lib.hid ?_⟩ 
      have HL := HK.out 
      simp only [List.nil_append, List.cons_append, List.set_cons_zero, List.set_cons_succ] at HL 
      first | exact HL | exact HL.perm (List.Perm.cons _ (List.Perm.cons _ (List.Perm.swap _ _ [])))
  ·
    rintro A W3 ⟨x17, x18, x19, x20, bx, bY, rfl, H6⟩
    replace H := H6
    clear H6 HK B0 B1 l0 l1 MK GC CE CG
    go_wp2_with (first | (refine Mem.loadAll 2 (t := 23) rfl rfl rfl Try.underlying23 (n := 9) (by kernel_rfl) H.out.mem rfl rfl ?_) | (refine Mem.loadAll 3 (t := 25) rfl rfl rfl Try.underlying25 (n := 6) (by kernel_rfl) H.out.mem rfl rfl ?_))
    refine (DC.out _).mono ?_
    rintro e w4 ⟨rfl, hg⟩
    replace H := Lib.hid (H.out.grow FE.out hg)
    clear hg DC
    go_wp2_with ((refine Hold.storeAll 4 (t := 30) FE.out rfl rfl rfl rfl (n := 2) (by kernel_rfl) (Hold.alloc' H.out FE.out _ _ rfl) rfl rfl rfl rfl ?_; intro W5 HMm CW5))
    simp only [K0, K1, L1, L2, K2, K3, K4, K5, K6, K7, Nat.reduceAdd, Nat.reduceSub] at HMm
    replace H := Lib.hid HMm
    clear HMm
    refine Stay.go ?_
    go_wp2_with (first | (refine Mem.load1 2 (t := 3) rfl rfl rfl Try.underlying3 rfl H.out.mem rfl rfl ?_) | (refine Mem.load1 3 (t := 3) rfl rfl rfl Try.underlying3 rfl H.out.mem rfl rfl ?_))
    refine (RN.out _).mono ?_
    rintro e wx ⟨rfl, rfl⟩
    clear RN
    obtain ⟨⟨P1, P2⟩, WB, LB, R2, hm, BB, rn⟩ := HX.out
    have u1 : (if 1 < g3 then g3 else 1) = m := by rw [← hm]; split <;> omega
    have m1 : 1 ≤ m ∧ m ≤ 30 := by omega
    have wm2 : IntKind.i64.wrap (2 * m) = 2 * m := IntWalk.i64_in _ ⟨by omega, by omega⟩
    have wm4 : IntKind.i64.wrap (4 * m) = 4 * m := IntWalk.i64_in _ ⟨by omega, by omega⟩
    obtain ⟨X, hX⟩ : ∃ X, max (4 * m) d3 = X := ⟨_, rfl⟩
    have U2 := Lib.hid (show (if 4 * m < d3 then d3 else 4 * m) = X by rw [← hX]; split <;> omega)
    obtain ⟨Y, hY⟩ : ∃ Y, min g1 (min d4 X) = Y := ⟨_, rfl⟩
    have U3 := Lib.hid (show (if X < (if d4 < g1 then d4 else g1) then X else (if d4 < g1 then d4 else g1)) = Y by rw [← hY]; split <;> split <;> omega)
    rw [hX, hY] at P2
    have HP2 := Lib.hid P2
    have HB := Lib.hid (And.intro WB LB)
    obtain ⟨K', rfl⟩ : ∃ K' : Nat, K = (K' : Int) := ⟨K.toNat, by omega⟩
    have hK : K' ≤ 8 := by omega
    have HP1 := Lib.hid P1
    clear hm hX hY P1 P2 WB LB rn BB
    have c22 := H.out.mem.cell (i := 2) (o := 2) rfl rfl
    have c40 := H.out.mem.cell (i := 4) (o := 0) rfl rfl
    have c41 := H.out.mem.cell (i := 4) (o := 1) rfl rfl
    have c20 := H.out.mem.cell (i := 2) (o := 0) rfl rfl
    have c21 := H.out.mem.cell (i := 2) (o := 1) rfl rfl
    have c33 := H.out.mem.cell (i := 3) (o := 3) rfl rfl
    have c34 := H.out.mem.cell (i := 3) (o := 4) rfl rfl
    have hj : (decide (2 * m ≤ b) = true ∧ (L == 6) = true) ∨ (decide (2 * m ≤ b) = false ∧ (L == 6) = false) := by
      by_cases h : 2 * m ≤ b
      · exact .inl ⟨decide_eq_true h, by simpa using HP1.out.1 h⟩
      · exact .inr ⟨decide_eq_false h, by simpa using fun q => h (HP1.out.2 q)⟩
    have hl : (decide (0 < L) = true ∧ decide (W < Y) = false) ∨ (decide (0 < L) = false ∧ decide (0 < L) = false) := by
      by_cases h : 0 < L
      · have := HP2.out h
        exact .inl ⟨decide_eq_true h, decide_eq_false (by omega)⟩
      · exact .inr ⟨decide_eq_false h, decide_eq_false h⟩
    clear m1
    rcases hj with ⟨a1, a2⟩ | ⟨a1, a2⟩
    all_goals rcases hl with ⟨a3, a4⟩ | ⟨a3, a4⟩
    all_goals
      have u2 := U2.out
      have u3 := U3.out
      go_wp2_with fail
      refine (WN.out _).mono ?_
      rintro e wx ⟨rfl, rfl⟩
      clear u1 u2 u3 c22 c40 c41 c20 c21 c33 c34
      clear a1 a2 a3 a4
      go_wp2_with fail
      go_loopw [13] (fun i wr => ∃ (k : Nat) (W' L' : Int), k ≤ K' ∧ i = .int .i64 k ∧ (0 ≤ W' ∧ W' ≤ 10) ∧ (0 ≤ L' ∧ L' ≤ 6) ∧ Hid (Hold w wr [(w.heap.size, [.int .i64 x1, .int .i64 x2, .int .i64 x3, .int .i64 x4, .int .i64 x5, .int .i64 x6, .int .i64 x7, .int .i64 x8, .int .i64 x9], 23), (w.heap.size + 1, [.string cn, .int .i64 c1, .int .i64 c2, .int .i64 c3, .int .i64 c4, .int .i64 c5], 25), (bx, [.int .i64 g1, .int .i64 g2, .int .i64 g3, .int .i64 g4, .int .i64 g5, .int .i64 g6, .int .i64 g7, .int .i64 g8, .int .i64 g9], 23), (bY, [.string dn, .int .i64 d1, .int .i64 d2, .int .i64 d3, .int .i64 d4, .int .i64 d5], 25), (w4.heap.size, [.int .i64 W', .int .i64 L'], 30)] Emp)) (fun i _ => K' - (intOf i).toNat)
      case atStart => exact ⟨0, W, L, by omega, rfl, HB.out.1.2.2, HB.out.2, H⟩
      case round =>
        clear H
        obtain ⟨k, W', L', hk, rfl, hW, hL, H⟩ := hrel
        by_cases hlt : k < K'
        · have b0 : decide ((k : Int) < (K' : Int)) = true := decide_eq_true (by omega)
          have hk1 : IntKind.i64.wrap ((k : Int) + 1) = (k : Int) + 1 := IntWalk.i64_in _ ⟨by omega, by omega⟩
          obtain ⟨QD, QL, QW⟩ := DQ.out W' L' hW hL
          have Q := Lib.hid QD
          obtain ⟨n2, hn2⟩ : ∃ n2, max 0 (L' - 1) = n2 := ⟨_, rfl⟩
          have v2 : (if 1 < L' then L' - 1 else 0) = n2 := by rw [← hn2]; split <;> omega
          have hn3 : 0 ≤ n2 ∧ n2 ≤ 6 := by omega
          rw [QL, hn2] at Q
          have wl : IntKind.i64.wrap (L' - 1) = L' - 1 := IntWalk.i64_in _ ⟨by omega, by omega⟩
          generalize Sc.want ⟨W', L', g3, 0, 0, 1, 0, 1, 0⟩ (scC ⟨dn, d1, d2, d3, d4, d5⟩) = W2 at *
          clear QD QL hn2 hW hL
          go_wp2_with (first | (refine Mem.loadAll 4 (t := 30) rfl rfl rfl Try.underlying30 (n := 2) (by kernel_rfl) H.out.mem rfl rfl ?_) | (refine Mem.loadAll 3 (t := 25) rfl rfl rfl Try.underlying25 (n := 6) (by kernel_rfl) H.out.mem rfl rfl ?_) | (refine Mem.load1 2 (t := 3) rfl rfl rfl Try.underlying3 rfl H.out.mem rfl rfl ?_))
          refine (Q.out _).mono ?_
          rintro e w6 ⟨rfl, hg⟩
          replace H := Lib.hid (H.out.grow FE.out hg)
          clear hg Q
          go_wp2_with ((refine Hold.storeAll 5 (t := 30) FE.out rfl rfl rfl rfl (n := 2) (by kernel_rfl) (Hold.alloc' H.out FE.out _ _ rfl) rfl rfl rfl rfl ?_; intro W7 HMm CW7))
          simp only [K0, K1, L1, L2, K2, K3, K4, K5, K6, K7, Nat.reduceAdd, Nat.reduceSub] at HMm
          replace H := Lib.hid HMm
          clear HMm
          refine Stay.go ?_
          have e1 : (n2 != n2) = false := by simp
          have e0 : (n2 == n2) = true := by simp
          go_wp2_with (first | (refine Mem.load1 5 (t := 3) rfl rfl rfl Try.underlying3 rfl H.out.mem rfl rfl ?_) | (refine Mem.load1 4 (t := 3) rfl rfl rfl Try.underlying3 rfl H.out.mem rfl rfl ?_) | (refine Mem.loadAll 5 (t := 30) rfl rfl rfl Try.underlying30 (n := 2) (by kernel_rfl) H.out.mem rfl rfl ?_) | (refine Hold.storeAll 4 (t := 30) FE.out rfl rfl rfl rfl (n := 2) (by kernel_rfl) H.out rfl rfl rfl rfl ?_; intro W8 HMm CW8))
          simp only [K0, K1, L1, L2, K2, K3, K4, K5, K6, K7, Nat.reduceAdd, Nat.reduceSub] at HMm
          replace H := Lib.hid HMm
          clear HMm
          refine Stay.go ?_
          go_wp2_with fail
          go_roundw
          case rel => exact ⟨k + 1, W2, n2, by omega, by go_num, QW, hn3, Lib.hid (H.out.take 5)⟩
          case measure => simp [intOf]; omega
        · have b0 : decide ((k : Int) < (K' : Int)) = false := decide_eq_false (by omega)
          go_wp2_with fail
          go_ret
          exact ⟨rfl, H.out.below⟩
end Go.Proofs.Ytifkombocmdmfaa

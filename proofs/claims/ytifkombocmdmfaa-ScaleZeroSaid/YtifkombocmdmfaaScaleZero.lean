
/- The walk of ScaleZero. -/
import Derived.Test.YtifkombocmdmfaaZ71
namespace Go.Proofs.Ytifkombocmdmfaa
set_option maxRecDepth 100000
set_option linter.unusedVariables false
set_option linter.unusedSimpArgs false
set_option linter.unnecessarySimpa false
open Go.RowKit

set_option maxHeartbeats 32000000 in
theorem walkScaleZero (w : World) (r : Sc.G) (hr : r.wf) (c : Cfg) (hc : c.wf ∧ c.nm.size ≤ 140737488351232) :
    Calls Try.prog 5 #[r.v, c.v] w fun e w' => e = .returned (.bool true) ∧ Below w.heap.size w w' := by
  have KN := Lib.hid (fun w => known10_any w)
  have FE := Lib.hid Emp.foot
  have MK := Lib.hid (fun w => make_any r w hr)
  have GC := Lib.hid (fun w => gcfg_any c 0 w hc.1 (by unfold wf64; omega))
  have hg := r.mk2_ok
  have hd := scC_ok c 0
  have RD := r.mk2_rd
  have lfr := hr.lf
  have WL := Lib.hid (fun w => within10_any r.lf 2 w (by omega) (by omega) lfr.1 lfr.2)
  have rl := withinI_range r.lf 2 (by omega)
  clear lfr
  generalize withinI r.lf 2 = k at *
  clear hr hc
  generalize r.mk2 = g at *
  generalize gCfg c 0 = d at *
  obtain ⟨x1, x2, x3, x4, x5, x6, x7, x8, x9⟩ := r
  obtain ⟨g1, g2, g3, g4, g5, g6, g7, g8, g9⟩ := g
  obtain ⟨cn, c1, c2, c3, c4, c5⟩ := c
  obtain ⟨dn, d1, d2, d3, d4, d5⟩ := d
  unfold Sc.G.v Sc.G.cells Cfg.v at *
  dsimp only at *
  have HO := Lib.hid (And.intro hg hd)
  clear hg hd RD
  go_enter Try.func5, Try.ntmps5
  go_wp2_with fail
  refine (KN.out _).mono ?_
  rintro e w1 ⟨rfl, hg⟩
  have H0 := ((((Hold.nil w).alloc' Emp.foot [.int .i64 x1, .int .i64 x2, .int .i64 x3, .int .i64 x4, .int .i64 x5, .int .i64 x6, .int .i64 x7, .int .i64 x8, .int .i64 x9] 23 rfl).alloc' Emp.foot [.string cn, .int .i64 c1, .int .i64 c2, .int .i64 c3, .int .i64 c4, .int .i64 c5] 25 (g := w.heap.size + 1) (by simp)).grow Emp.foot hg)
  simp only [K0, K1, L1, L2, K2, K3, K4, K5, K6, K7, Nat.reduceAdd, Nat.reduceSub] at H0
  have H := Lib.hid H0
  clear H0 hg
  go_wp2_with fail
  have B0 := Lib.hid (H.out.mem.blk (i := 0) rfl)
  have B1 := Lib.hid (H.out.mem.blk (i := 1) rfl)
  have l0 := B0.out.lt
  have l1 := B1.out.lt
  have HK := H
  have CE : (Try.prog.info? 25).map (·.size) = some 6 := by kernel_rfl
  have CG : (Try.prog.info? 23).map (·.size) = some 9 := by kernel_rfl
  refine wp_spec (fun a0 A W => ∃ x10 x11 x12 x13 : Value, ∃ (bx bY : Nat), A = ((((((a0.put (some 5) (.pointer (some ⟨bx, 0, none⟩))).put (some 6) (.pointer (some ⟨bY, 0, none⟩))).put (some 10) x10).put (some 11) x11).put (some 12) x12).put (some 13) x13) ∧ Hid (Hold w W [(w.heap.size, [.int .i64 x1, .int .i64 x2, .int .i64 x3, .int .i64 x4, .int .i64 x5, .int .i64 x6, .int .i64 x7, .int .i64 x8, .int .i64 x9], 23), (w.heap.size + 1, [.string cn, .int .i64 c1, .int .i64 c2, .int .i64 c3, .int .i64 c4, .int .i64 c5], 25), (bx, [.int .i64 g1, .int .i64 g2, .int .i64 g3, .int .i64 g4, .int .i64 g5, .int .i64 g6, .int .i64 g7, .int .i64 g8, .int .i64 g9], 23), (bY, [.string dn, .int .i64 d1, .int .i64 d2, .int .i64 d3, .int .i64 d4, .int .i64 d5], 25)] Emp)) ?_ ?_
  all_goals simp only [Act.put, L0, L1, L2]
  ·
    refine Evo2.start' (ℓ := some 7) (S := Chg (fun j => w1.heap.size ≤ j)) (E := Grow.G) (by kernel_rfl) ⟨Chg.pre _, by decide +kernel, (by intro c a d v w h; cases d <;> exact h), by decide +kernel⟩ (fun ok => ?_)
    first | (refine Evo2.val ok 0 ?_ ?_ ?_; rotate_left; (focus (intro w' hg; refine Box.exec_loadAll ?_ Try.underlying23 CG (B0.out.chg (Chg.trans (Chg.refl (fun j => w1.heap.size ≤ j) _) hg) (by omega)) ?_; (all_goals (first | exact ⟨rfl, rfl⟩ | rfl)))); simp only [Act.put, L0, L1, L2]) | (refine Evo2.val ok 0 ?_ ?_ ?_; rotate_left; (focus (intro w' hg; refine Box.exec_loadAll ?_ Try.underlying25 CE (B1.out.chg (Chg.trans (Chg.refl (fun j => w1.heap.size ≤ j) _) hg) (by omega)) ?_; (all_goals (first | exact ⟨rfl, rfl⟩ | rfl)))); simp only [Act.put, L0, L1, L2]) | (refine Evo2.va ok 0 _ _ ?_)
    (refine Evo2.cal ok 1 ?_ 14 ?_ ?_ ?_ ?_; rotate_left 2; (focus (intro w'; go_simp <;> with_reducible rfl)); (focus (intro w' g'; with_reducible exact MK.out w')); simp only [Act.put, L0, L1, L2])
    first | (refine Evo2.val ok 2 ?_ ?_ ?_; rotate_left; (focus (intro w' hg; refine Box.exec_loadAll ?_ Try.underlying23 CG (B0.out.chg (Chg.trans (Chg.refl (fun j => w1.heap.size ≤ j) _) hg) (by omega)) ?_; (all_goals (first | exact ⟨rfl, rfl⟩ | rfl)))); simp only [Act.put, L0, L1, L2]) | (refine Evo2.val ok 2 ?_ ?_ ?_; rotate_left; (focus (intro w' hg; refine Box.exec_loadAll ?_ Try.underlying25 CE (B1.out.chg (Chg.trans (Chg.refl (fun j => w1.heap.size ≤ j) _) hg) (by omega)) ?_; (all_goals (first | exact ⟨rfl, rfl⟩ | rfl)))); simp only [Act.put, L0, L1, L2]) | (refine Evo2.va ok 2 _ _ ?_)
    (refine Evo2.cal ok 3 ?_ 15 ?_ ?_ ?_ ?_; rotate_left 2; (focus (intro w'; go_simp <;> with_reducible rfl)); (focus (intro w' g'; with_reducible exact GC.out w')); simp only [Act.put, L0, L1, L2])
    refine Evo2.all [4, 5] (by decide +kernel) rfl ?_
    intro wp1 gp1 iq hq
    simp only [List.mem_cons, List.mem_nil_iff, or_false] at hq
    have AP1 := Chg.trans (Chg.refl (fun j => w1.heap.size ≤ j) _) (Chg.grow gp1)
    replace HK := Lib.hid (HK.out.grow FE.out gp1)
    rcases hq with rfl | rfl
    ·
      refine Evo2.runs (by rfl) (by rfl) (fun K' hK' => ?_)
      go_simp
      (try (simp only [Evo.after_value, Evo.after_skip]))
      refine hK'.out _ _ ?_
      clear hK'
      simp only [Act.put, L0, L1, L2]
      refine ⟨.inr (Chg.alloc (Chg.refl _ _) _), ?_⟩
      generalize hG1 : World.alloc wp1 _ = wg1
      have GG1 : Grow.G wp1 wg1 := hG1 ▸ Grow.G.alloc (Grow.G.refl _) _
      have NC1 := (congrArg (fun W : World => W.heap[wp1.heap.size]?) hG1).symm.trans (MapKept.heap_alloc wp1 _).1
      have NL1 : wp1.heap.size < wg1.heap.size := by rw [← hG1]; simp
      clear hG1
      replace HK := Lib.hid (HK.out.add FE.out GG1 (b := wp1.heap.size) (cs := [.int .i64 0, .int .i64 0, .int .i64 0, .int .i64 0, .int .i64 0, .int .i64 0, .int .i64 0, .int .i64 0, .int .i64 0]) NC1 (Nat.le_refl _)); have LO1 := AP1.size
      refine Evo2.all [5] (by decide +kernel) rfl ?_
      intro wp2 gp2 iq hq
      simp only [List.mem_cons, List.mem_nil_iff, or_false] at hq
      have AP2 := Chg.trans (Chg.trans AP1 (Chg.grow GG1)) (Chg.grow gp2)
      replace HK := Lib.hid (HK.out.grow FE.out gp2)
      have NC1 := (gp2.block _ NL1).trans NC1
      have NL1 := Nat.lt_of_lt_of_le NL1 gp2.size
      subst hq
      refine Evo2.runs (by rfl) (by rfl) (fun K' hK' => ?_)
      go_simp
      (try (simp only [Evo.after_value, Evo.after_skip]))
      refine hK'.out _ _ ?_
      clear hK'
      simp only [Act.put, L0, L1, L2]
      refine ⟨.inr (Chg.alloc (Chg.refl _ _) _), ?_⟩
      generalize hG2 : World.alloc wp2 _ = wg2
      have GG2 : Grow.G wp2 wg2 := hG2 ▸ Grow.G.alloc (Grow.G.refl _) _
      have NC1 := (GG2.block _ NL1).trans NC1
      have NL1 := Nat.lt_of_lt_of_le NL1 GG2.size
      have NC2 := (congrArg (fun W : World => W.heap[wp2.heap.size]?) hG2).symm.trans (MapKept.heap_alloc wp2 _).1
      have NL2 : wp2.heap.size < wg2.heap.size := by rw [← hG2]; simp
      clear hG2
      replace HK := Lib.hid (HK.out.add FE.out GG2 (b := wp2.heap.size) (cs := [.string ⟨#[]⟩, .int .i64 0, .int .i64 0, .int .i64 0, .int .i64 0, .int .i64 0]) NC2 (Nat.le_refl _)); have LO2 := AP2.size
      refine Evo2.all [6] (by decide +kernel) rfl ?_
      intro wp3 gp3 iq hq
      simp only [List.mem_cons, List.mem_nil_iff, or_false] at hq
      have AP3 := Chg.trans (Chg.trans AP2 (Chg.grow GG2)) (Chg.grow gp3)
      replace HK := Lib.hid (HK.out.grow FE.out gp3)
      have NC1 := (gp3.block _ NL1).trans NC1
      have NL1 := Nat.lt_of_lt_of_le NL1 gp3.size
      have NC2 := (gp3.block _ NL2).trans NC2
      have NL2 := Nat.lt_of_lt_of_le NL2 gp3.size
      subst hq
      refine upStoreAll (by rfl) (by rfl) rfl rfl rfl (n := 9) (by kernel_rfl) (by first | exact HK.out.mem.blk (i := 2) rfl | exact HK.out.mem.blk (i := 3) rfl) rfl rfl rfl ?_
      intro wc3 BZ CW3
      have CH3 : Chg (fun j => w1.heap.size ≤ j) _ _ := CW3.mono (fun j _ e => by have e : j = _ := e; show _ ≤ j; omega)
      replace HK := Lib.hid (by first | exact HK.out.set FE.out (i := 2) rfl BZ CW3 | exact HK.out.set FE.out (i := 3) rfl BZ CW3)
      refine ⟨.inr CH3, ?_⟩
      simp only [Act.put, L0, L1, L2]
      refine Evo2.all [7] (by decide +kernel) rfl ?_
      intro wp4 gp4 iq hq
      simp only [List.mem_cons, List.mem_nil_iff, or_false] at hq
      have AP4 := Chg.trans (Chg.trans AP3 CH3) (Chg.grow gp4)
      replace HK := Lib.hid (HK.out.grow FE.out gp4)
      subst hq
      refine upStoreAll (by rfl) (by rfl) rfl rfl rfl (n := 6) (by kernel_rfl) (by first | exact HK.out.mem.blk (i := 2) rfl | exact HK.out.mem.blk (i := 3) rfl) rfl rfl rfl ?_
      intro wc4 BZ CW4
      have CH4 : Chg (fun j => w1.heap.size ≤ j) _ _ := CW4.mono (fun j _ e => by have e : j = _ := e; show _ ≤ j; omega)
      replace HK := Lib.hid (by first | exact HK.out.set FE.out (i := 2) rfl BZ CW4 | exact HK.out.set FE.out (i := 3) rfl BZ CW4)
      refine ⟨.inl (by first | rfl | trivial), ?_⟩
      simp only [Act.put, L0, L1, L2]
      refine Evo2.done (by decide +kernel) (fun wz gz => ?_)
      have AZ := Chg.trans (Chg.trans AP4 CH4) (Chg.grow gz)
      replace HK := Lib.hid (HK.out.grow FE.out gz)
      dsimp only [PostN] 
      (repeat apply Exists.intro) 
      refine ⟨rfl, Lib.hid ?_⟩ 
      have HL := HK.out 
      simp only [List.nil_append, List.cons_append, List.set_cons_zero, List.set_cons_succ] at HL 
      first | exact HL | exact HL.perm (List.Perm.cons _ (List.Perm.cons _ (List.Perm.swap _ _ [])))
    ·
      refine Evo2.runs (by rfl) (by rfl) (fun K' hK' => ?_)
      go_simp
      (try (simp only [Evo.after_value, Evo.after_skip]))
      refine hK'.out _ _ ?_
      clear hK'
      simp only [Act.put, L0, L1, L2]
      refine ⟨.inr (Chg.alloc (Chg.refl _ _) _), ?_⟩
      generalize hG1 : World.alloc wp1 _ = wg1
      have GG1 : Grow.G wp1 wg1 := hG1 ▸ Grow.G.alloc (Grow.G.refl _) _
      have NC1 := (congrArg (fun W : World => W.heap[wp1.heap.size]?) hG1).symm.trans (MapKept.heap_alloc wp1 _).1
      have NL1 : wp1.heap.size < wg1.heap.size := by rw [← hG1]; simp
      clear hG1
      replace HK := Lib.hid (HK.out.add FE.out GG1 (b := wp1.heap.size) (cs := [.string ⟨#[]⟩, .int .i64 0, .int .i64 0, .int .i64 0, .int .i64 0, .int .i64 0]) NC1 (Nat.le_refl _)); have LO1 := AP1.size
      refine Evo2.all [4] (by decide +kernel) rfl ?_
      intro wp2 gp2 iq hq
      simp only [List.mem_cons, List.mem_nil_iff, or_false] at hq
      have AP2 := Chg.trans (Chg.trans AP1 (Chg.grow GG1)) (Chg.grow gp2)
      replace HK := Lib.hid (HK.out.grow FE.out gp2)
      have NC1 := (gp2.block _ NL1).trans NC1
      have NL1 := Nat.lt_of_lt_of_le NL1 gp2.size
      subst hq
      refine Evo2.runs (by rfl) (by rfl) (fun K' hK' => ?_)
      go_simp
      (try (simp only [Evo.after_value, Evo.after_skip]))
      refine hK'.out _ _ ?_
      clear hK'
      simp only [Act.put, L0, L1, L2]
      refine ⟨.inr (Chg.alloc (Chg.refl _ _) _), ?_⟩
      generalize hG2 : World.alloc wp2 _ = wg2
      have GG2 : Grow.G wp2 wg2 := hG2 ▸ Grow.G.alloc (Grow.G.refl _) _
      have NC1 := (GG2.block _ NL1).trans NC1
      have NL1 := Nat.lt_of_lt_of_le NL1 GG2.size
      have NC2 := (congrArg (fun W : World => W.heap[wp2.heap.size]?) hG2).symm.trans (MapKept.heap_alloc wp2 _).1
      have NL2 : wp2.heap.size < wg2.heap.size := by rw [← hG2]; simp
      clear hG2
      replace HK := Lib.hid (HK.out.add FE.out GG2 (b := wp2.heap.size) (cs := [.int .i64 0, .int .i64 0, .int .i64 0, .int .i64 0, .int .i64 0, .int .i64 0, .int .i64 0, .int .i64 0, .int .i64 0]) NC2 (Nat.le_refl _)); have LO2 := AP2.size
      refine Evo2.all [6] (by decide +kernel) rfl ?_
      intro wp3 gp3 iq hq
      simp only [List.mem_cons, List.mem_nil_iff, or_false] at hq
      have AP3 := Chg.trans (Chg.trans AP2 (Chg.grow GG2)) (Chg.grow gp3)
      replace HK := Lib.hid (HK.out.grow FE.out gp3)
      have NC1 := (gp3.block _ NL1).trans NC1
      have NL1 := Nat.lt_of_lt_of_le NL1 gp3.size
      have NC2 := (gp3.block _ NL2).trans NC2
      have NL2 := Nat.lt_of_lt_of_le NL2 gp3.size
      subst hq
      refine upStoreAll (by rfl) (by rfl) rfl rfl rfl (n := 9) (by kernel_rfl) (by first | exact HK.out.mem.blk (i := 2) rfl | exact HK.out.mem.blk (i := 3) rfl) rfl rfl rfl ?_
      intro wc3 BZ CW3
      have CH3 : Chg (fun j => w1.heap.size ≤ j) _ _ := CW3.mono (fun j _ e => by have e : j = _ := e; show _ ≤ j; omega)
      replace HK := Lib.hid (by first | exact HK.out.set FE.out (i := 2) rfl BZ CW3 | exact HK.out.set FE.out (i := 3) rfl BZ CW3)
      refine ⟨.inr CH3, ?_⟩
      simp only [Act.put, L0, L1, L2]
      refine Evo2.all [7] (by decide +kernel) rfl ?_
      intro wp4 gp4 iq hq
      simp only [List.mem_cons, List.mem_nil_iff, or_false] at hq
      have AP4 := Chg.trans (Chg.trans AP3 CH3) (Chg.grow gp4)
      replace HK := Lib.hid (HK.out.grow FE.out gp4)
      subst hq
      refine upStoreAll (by rfl) (by rfl) rfl rfl rfl (n := 6) (by kernel_rfl) (by first | exact HK.out.mem.blk (i := 2) rfl | exact HK.out.mem.blk (i := 3) rfl) rfl rfl rfl ?_
      intro wc4 BZ CW4
      have CH4 : Chg (fun j => w1.heap.size ≤ j) _ _ := CW4.mono (fun j _ e => by have e : j = _ := e; show _ ≤ j; omega)
      replace HK := Lib.hid (by first | exact HK.out.set FE.out (i := 2) rfl BZ CW4 | exact HK.out.set FE.out (i := 3) rfl BZ CW4)
      refine ⟨.inl (by first | rfl | trivial), ?_⟩
      simp only [Act.put, L0, L1, L2]
      refine Evo2.done (by decide +kernel) (fun wz gz => ?_)
      have AZ := Chg.trans (Chg.trans AP4 CH4) (Chg.grow gz)
      replace HK := Lib.hid (HK.out.grow FE.out gz)
      dsimp only [PostN] 
      (repeat apply Exists.intro) 
      refine ⟨rfl, Lib.hid ?_⟩ 
      have HL := HK.out 
      simp only [List.nil_append, List.cons_append, List.set_cons_zero, List.set_cons_succ] at HL 
      first | exact HL | exact HL.perm (List.Perm.cons _ (List.Perm.cons _ (List.Perm.swap _ _ [])))
  ·
    rintro A W3 ⟨x10, x11, x12, x13, bx, bY, rfl, H6⟩
    replace H := H6
    clear H6 HK B0 B1 l0 l1 MK GC CE CG
    have c01 := H.out.mem.cell (i := 0) (o := 1) rfl rfl
    go_wp2_with fail
    refine (WL.out _).mono ?_
    rintro e wx ⟨rfl, rfl⟩
    obtain ⟨⟨q1, q2, q3, q4, q5, q6, q7, q8, q9⟩, ⟨p1, p2, p3, p4⟩⟩ := HO.out
    dsimp only at q1 q2 q3 q4 q5 q6 q7 q8 q9 p1 p2 p3 p4
    by_cases hk : k = 0
    · have b0 : (k == 0) = true := by simpa using hk
      have h1 : (⟨g1, 0, g3, g4, 0, g6, 0, g8, g9⟩ : Sc.G).ok := ⟨q1, Sc.l0, q3, q4, Sc.k0, q6, Sc.k0, q8, q9⟩
      have h2 : (scC ⟨dn, d1, d2, 0, d4, d5⟩).ok := ⟨p1, p2, ⟨Int.le_refl _, by show (0 : Int) ≤ d4; omega⟩, p4⟩
      have DC := Lib.hid (fun w => dec10_any ⟨g1, 0, g3, g4, 0, g6, 0, g8, g9⟩ ⟨dn, d1, d2, 0, d4, d5⟩ w h1 h2)
      have ZF := Sc.zero h1 h2
      generalize Sc.want ⟨g1, 0, g3, g4, 0, g6, 0, g8, g9⟩ (scC ⟨dn, d1, d2, 0, d4, d5⟩) = W at *
      generalize Sc.left ⟨g1, 0, g3, g4, 0, g6, 0, g8, g9⟩ (scC ⟨dn, d1, d2, 0, d4, d5⟩) = L at *
      dsimp only at ZF
      unfold Sc.G.v Sc.G.cells Cfg.v at DC
      dsimp only at DC
      have HZF := Lib.hid ZF
      clear ZF h1 h2 hk q1 q2 q3 q4 q5 q6 q7 q8 q9 p1 p2 p3 p4 rl c01 WL
      go_wp2_with ((refine Hold.store 3 (t := 3) FE.out rfl rfl rfl rfl (vs := [.int .i64 0]) rfl (n := 1) (by kernel_rfl) H.out rfl rfl (by simp) rfl ?_; intro V1 HMm CV1))
      simp only [K0, K1, L1, L2, K2, K3, K4, K5, K6, K7, Nat.reduceAdd, Nat.reduceSub] at HMm
      replace H := Lib.hid HMm
      clear HMm
      refine Stay.go ?_
      go_wp2_with ((refine Hold.store 2 (t := 3) FE.out rfl rfl rfl rfl (vs := [.int .i64 0]) rfl (n := 1) (by kernel_rfl) H.out rfl rfl (by simp) rfl ?_; intro V2 HMm CV2))
      simp only [K0, K1, L1, L2, K2, K3, K4, K5, K6, K7, Nat.reduceAdd, Nat.reduceSub] at HMm
      replace H := Lib.hid HMm
      clear HMm
      refine Stay.go ?_
      go_wp2_with ((refine Hold.store 2 (t := 3) FE.out rfl rfl rfl rfl (vs := [.int .i64 0]) rfl (n := 1) (by kernel_rfl) H.out rfl rfl (by simp) rfl ?_; intro V3 HMm CV3))
      simp only [K0, K1, L1, L2, K2, K3, K4, K5, K6, K7, Nat.reduceAdd, Nat.reduceSub] at HMm
      replace H := Lib.hid HMm
      clear HMm
      refine Stay.go ?_
      go_wp2_with ((refine Hold.store 2 (t := 3) FE.out rfl rfl rfl rfl (vs := [.int .i64 0]) rfl (n := 1) (by kernel_rfl) H.out rfl rfl (by simp) rfl ?_; intro V4 HMm CV4))
      simp only [K0, K1, L1, L2, K2, K3, K4, K5, K6, K7, Nat.reduceAdd, Nat.reduceSub] at HMm
      replace H := Lib.hid HMm
      clear HMm
      refine Stay.go ?_
      go_wp2_with (first | (refine Mem.loadAll 2 (t := 23) rfl rfl rfl Try.underlying23 (n := 9) (by kernel_rfl) H.out.mem rfl rfl ?_) | (refine Mem.loadAll 3 (t := 25) rfl rfl rfl Try.underlying25 (n := 6) (by kernel_rfl) H.out.mem rfl rfl ?_))
      refine (DC.out _).mono ?_
      rintro e w4 ⟨rfl, hg⟩
      replace H := Lib.hid (H.out.grow FE.out hg)
      clear hg DC
      go_wp2_with ((refine Hold.storeAll 4 (t := 30) FE.out rfl rfl rfl rfl (n := 2) (by kernel_rfl) (Hold.alloc' H.out FE.out _ _ rfl) rfl rfl rfl rfl ?_; intro V5 HMm CV5))
      simp only [K0, K1, L1, L2, K2, K3, K4, K5, K6, K7, Nat.reduceAdd, Nat.reduceSub] at HMm
      replace H := Lib.hid HMm
      clear HMm
      refine Stay.go ?_
      have c40 := H.out.mem.cell (i := 4) (o := 0) rfl rfl
      have c33 := H.out.mem.cell (i := 3) (o := 3) rfl rfl
      have c35 := H.out.mem.cell (i := 3) (o := 5) rfl rfl
      have c20 := H.out.mem.cell (i := 2) (o := 0) rfl rfl
      have c22 := H.out.mem.cell (i := 2) (o := 2) rfl rfl
      have c23 := H.out.mem.cell (i := 2) (o := 3) rfl rfl
      have c28 := H.out.mem.cell (i := 2) (o := 8) rfl rfl
      by_cases hW : W = 0
      · obtain ⟨z1, z2, z3, z4⟩ := HZF.out hW
        have e1 : (W == 0) = true := by simpa using hW
        have e8 : (W != 0) = false := by simpa using hW
        have e2 : (0 == (0 : Int)) = true := by simpa using z1
        have e3 : (g4 == 0) = true := by simpa using z2
        have e4 : decide (g3 ≤ 1) = true := decide_eq_true z3
        clear hW z1 z2 z3
        by_cases h0 : g1 = 0
        · have e5 : (g1 == 0) = true := by simpa using h0
          clear h0 z4
          go_wp2_with fail
          go_ret
          exact ⟨rfl, H.out.below⟩
        · have e5 : (g1 == 0) = false := by simpa using h0
          have e6 : decide (d5 ≤ g9) = true := decide_eq_true (z4.resolve_left h0)
          clear h0 z4
          go_wp2_with fail
          go_ret
          exact ⟨rfl, H.out.below⟩
      · have e1 : (W == 0) = false := by simpa using hW
        have e7 : (W != 0) = true := by simpa using hW
        clear hW
        go_wp2_with fail
        go_ret
        exact ⟨rfl, H.out.below⟩
    · have b0 : (k == 0) = false := by simpa using hk
      have DC := Lib.hid (fun w => dec10_any ⟨g1, g2, g3, g4, g5, g6, g7, g8, g9⟩ ⟨dn, d1, d2, d3, d4, d5⟩ w HO.out.1 HO.out.2)
      have ZF := Sc.zero HO.out.1 HO.out.2
      generalize Sc.want ⟨g1, g2, g3, g4, g5, g6, g7, g8, g9⟩ (scC ⟨dn, d1, d2, d3, d4, d5⟩) = W at *
      generalize Sc.left ⟨g1, g2, g3, g4, g5, g6, g7, g8, g9⟩ (scC ⟨dn, d1, d2, d3, d4, d5⟩) = L at *
      dsimp only at ZF
      unfold Sc.G.v Sc.G.cells Cfg.v at DC
      dsimp only at DC
      have HZF := Lib.hid ZF
      clear ZF hk q1 q2 q3 q4 q5 q6 q7 q8 q9 p1 p2 p3 p4 rl c01 WL
      go_wp2_with (first | (refine Mem.loadAll 2 (t := 23) rfl rfl rfl Try.underlying23 (n := 9) (by kernel_rfl) H.out.mem rfl rfl ?_) | (refine Mem.loadAll 3 (t := 25) rfl rfl rfl Try.underlying25 (n := 6) (by kernel_rfl) H.out.mem rfl rfl ?_))
      refine (DC.out _).mono ?_
      rintro e w4 ⟨rfl, hg⟩
      replace H := Lib.hid (H.out.grow FE.out hg)
      clear hg DC
      go_wp2_with ((refine Hold.storeAll 4 (t := 30) FE.out rfl rfl rfl rfl (n := 2) (by kernel_rfl) (Hold.alloc' H.out FE.out _ _ rfl) rfl rfl rfl rfl ?_; intro V6 HMm CV6))
      simp only [K0, K1, L1, L2, K2, K3, K4, K5, K6, K7, Nat.reduceAdd, Nat.reduceSub] at HMm
      replace H := Lib.hid HMm
      clear HMm
      refine Stay.go ?_
      have c40 := H.out.mem.cell (i := 4) (o := 0) rfl rfl
      have c33 := H.out.mem.cell (i := 3) (o := 3) rfl rfl
      have c35 := H.out.mem.cell (i := 3) (o := 5) rfl rfl
      have c20 := H.out.mem.cell (i := 2) (o := 0) rfl rfl
      have c22 := H.out.mem.cell (i := 2) (o := 2) rfl rfl
      have c23 := H.out.mem.cell (i := 2) (o := 3) rfl rfl
      have c28 := H.out.mem.cell (i := 2) (o := 8) rfl rfl
      by_cases hW : W = 0
      · obtain ⟨z1, z2, z3, z4⟩ := HZF.out hW
        have e1 : (W == 0) = true := by simpa using hW
        have e8 : (W != 0) = false := by simpa using hW
        have e2 : (d3 == (0 : Int)) = true := by simpa using z1
        have e3 : (g4 == 0) = true := by simpa using z2
        have e4 : decide (g3 ≤ 1) = true := decide_eq_true z3
        clear hW z1 z2 z3
        by_cases h0 : g1 = 0
        · have e5 : (g1 == 0) = true := by simpa using h0
          clear h0 z4
          go_wp2_with fail
          go_ret
          exact ⟨rfl, H.out.below⟩
        · have e5 : (g1 == 0) = false := by simpa using h0
          have e6 : decide (d5 ≤ g9) = true := decide_eq_true (z4.resolve_left h0)
          clear h0 z4
          go_wp2_with fail
          go_ret
          exact ⟨rfl, H.out.below⟩
      · have e1 : (W == 0) = false := by simpa using hW
        have e7 : (W != 0) = true := by simpa using hW
        clear hW
        go_wp2_with fail
        go_ret
        exact ⟨rfl, H.out.below⟩
end Go.Proofs.Ytifkombocmdmfaa

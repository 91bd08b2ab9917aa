
/- The walk of ScaleMore. -/
import Derived.Test.YtifkombocmdmfaaZ71
namespace Go.Proofs.Ytifkombocmdmfaa
set_option maxRecDepth 100000
set_option linter.unusedVariables false
set_option linter.unusedSimpArgs false
set_option linter.unnecessarySimpa false
open Go.RowKit

set_option maxHeartbeats 32000000 in
theorem walkScaleMore (w : World) (r : Sc.G) (hr : r.wf) (c : Cfg) (hc : c.wf ∧ c.nm.size ≤ 140737488351232) (n : Int) (hn : wf64 n) :
    Calls Try.prog 7 #[r.v, c.v, .int .i64 n] w fun e w' => e = .returned (.bool true) ∧ Below w.heap.size w w' := by
  have KN := Lib.hid (fun w => known10_any w)
  have FE := Lib.hid Emp.foot
  have MK := Lib.hid (fun w => make_any r w hr)
  have GC := Lib.hid (fun w => gcfg_any c 0 w hc.1 (by unfold wf64; omega))
  have hg := r.mk2_ok
  have hd := scC_ok c 0
  have RD := r.mk2_rd
  have t1 := tdiv_wf hn 50 (by omega)
  have t2 := tdiv_wf hn 2500 (by omega)
  have WA := Lib.hid (fun w => (show Calls Try.prog 18 #[.int .i64 (n), .int .i64 50] w fun e w' => e = .returned (.int .i64 (withinI (n) 50)) ∧ Grow.G w w' from by exact quietG0 (within10_any (n) 50 w (by omega) (by omega) hn.1 hn.2)))
  have WB := Lib.hid (fun w => (show Calls Try.prog 18 #[.int .i64 (IntKind.i64.wrap (n.tdiv 50)), .int .i64 50] w fun e w' => e = .returned (.int .i64 (withinI (n.tdiv 50) 50)) ∧ Grow.G w w' from by rw [IntWalk.i64_in _ t1]; exact quietG0 (within10_any (n.tdiv 50) 50 w (by omega) (by omega) t1.1 t1.2)))
  have WC := Lib.hid (fun w => (show Calls Try.prog 18 #[.int .i64 (IntKind.i64.wrap (n.tdiv 2500)), .int .i64 3] w fun e w' => e = .returned (.int .i64 (withinI (n.tdiv 2500) 3)) ∧ Grow.G w w' from by rw [IntWalk.i64_in _ t2]; exact quietG0 (within10_any (n.tdiv 2500) 3 w (by omega) (by omega) t2.1 t2.2)))
  have v1b := withinI_range n 50 (by omega)
  have v2b := withinI_range (n.tdiv 50) 50 (by omega)
  have v3b := withinI_range (n.tdiv 2500) 3 (by omega)
  generalize withinI n 50 = v1 at *
  generalize withinI (n.tdiv 50) 50 = v2 at *
  generalize withinI (n.tdiv 2500) 3 = v3 at *
  have SM := r.mk2_small
  clear hr hc hn t1 t2
  generalize r.mk2 = g at *
  generalize gCfg c 0 = d at *
  obtain ⟨x1, x2, x3, x4, x5, x6, x7, x8, x9⟩ := r
  obtain ⟨g1, g2, g3, g4, g5, g6, g7, g8, g9⟩ := g
  obtain ⟨cn, c1, c2, c3, c4, c5⟩ := c
  obtain ⟨dn, d1, d2, d3, d4, d5⟩ := d
  unfold Sc.G.v Sc.G.cells Cfg.v at *
  dsimp only at *
  have hh : (⟨g1, g2, g3, g4 + v3, g5 + v1, g6, g7 + v2, g8, g9⟩ : Sc.G).ok := by
    obtain ⟨q1, q2, q3, q4, q5, q6, q7, q8, q9⟩ := hg
    dsimp only at *
    exact ⟨q1, q2, q3, by dsimp only; omega, by dsimp only; omega, q6, by dsimp only; omega, q8, q9⟩
  have MO := Sc.more (g := ⟨g1, g2, g3, g4, g5, g6, g7, g8, g9⟩) (h := ⟨g1, g2, g3, g4 + v3, g5 + v1, g6, g7 + v2, g8, g9⟩) hg hh hd rfl rfl rfl rfl rfl rfl (by dsimp only; omega) (by dsimp only; omega) (by dsimp only; omega)
  have D1 := Lib.hid (fun w => dec10_any ⟨g1, g2, g3, g4, g5, g6, g7, g8, g9⟩ ⟨dn, d1, d2, d3, d4, d5⟩ w hg hd)
  have D2 := Lib.hid (fun w => dec10_any ⟨g1, g2, g3, g4 + v3, g5 + v1, g6, g7 + v2, g8, g9⟩ ⟨dn, d1, d2, d3, d4, d5⟩ w hh hd)
  generalize Sc.want ⟨g1, g2, g3, g4, g5, g6, g7, g8, g9⟩ (scC ⟨dn, d1, d2, d3, d4, d5⟩) = W1 at *
  generalize Sc.left ⟨g1, g2, g3, g4, g5, g6, g7, g8, g9⟩ (scC ⟨dn, d1, d2, d3, d4, d5⟩) = LA at *
  generalize Sc.want ⟨g1, g2, g3, g4 + v3, g5 + v1, g6, g7 + v2, g8, g9⟩ (scC ⟨dn, d1, d2, d3, d4, d5⟩) = W2 at *
  generalize Sc.left ⟨g1, g2, g3, g4 + v3, g5 + v1, g6, g7 + v2, g8, g9⟩ (scC ⟨dn, d1, d2, d3, d4, d5⟩) = LB at *
  unfold Sc.G.v Sc.G.cells Cfg.v at D1 D2
  dsimp only at D1 D2
  have e1 := Lib.hid (show IntKind.i64.wrap (g5 + v1) = g5 + v1 ∧ IntKind.i64.wrap (g7 + v2) = g7 + v2 ∧ IntKind.i64.wrap (g4 + v3) = g4 + v3 from by
    have q4 := hg.bs; have q5 := hg.st; have q7 := hg.sh
    dsimp only at q4 q5 q7
    exact ⟨IntWalk.i64_in _ ⟨by omega, by omega⟩, IntWalk.i64_in _ ⟨by omega, by omega⟩, IntWalk.i64_in _ ⟨by omega, by omega⟩⟩)
  have HMO := Lib.hid MO
  clear MO hg hh hd SM RD v1b v2b v3b
  go_enter Try.func7, Try.ntmps7
  go_wp2_with fail
  refine (KN.out _).mono ?_
  rintro e w1 ⟨rfl, hg⟩
  have H0 := ((((Hold.nil w).alloc' Emp.foot [.int .i64 x1, .int .i64 x2, .int .i64 x3, .int .i64 x4, .int .i64 x5, .int .i64 x6, .int .i64 x7, .int .i64 x8, .int .i64 x9] 23 rfl).alloc' Emp.foot [.string cn, .int .i64 c1, .int .i64 c2, .int .i64 c3, .int .i64 c4, .int .i64 c5] 25 (g := w.heap.size + 1) (by simp)).grow Emp.foot hg)
  simp only [K0, K1, L1, L2, K2, K3, K4, K5, K6, K7, Nat.reduceAdd, Nat.reduceSub] at H0
  have H := Lib.hid H0
  clear H0 hg
  go_wp2_with fail
  have B0 := Lib.hid (H.out.mem.blk (i := 0) rfl)
  have B1 := Lib.hid (H.out.mem.blk (i := 1) rfl)
  have l0 := B0.out.lt
  have l1 := B1.out.lt
  have HK := H
  have CE : (Try.prog.info? 25).map (·.size) = some 6 := by kernel_rfl
  have CG : (Try.prog.info? 23).map (·.size) = some 9 := by kernel_rfl
  refine wp_spec (fun a0 A W => ∃ x14 x15 x16 x17 : Value, ∃ (bx bY : Nat), A = ((((((a0.put (some 7) (.pointer (some ⟨bx, 0, none⟩))).put (some 8) (.pointer (some ⟨bY, 0, none⟩))).put (some 14) x14).put (some 15) x15).put (some 16) x16).put (some 17) x17) ∧ Hid (Hold w W [(w.heap.size, [.int .i64 x1, .int .i64 x2, .int .i64 x3, .int .i64 x4, .int .i64 x5, .int .i64 x6, .int .i64 x7, .int .i64 x8, .int .i64 x9], 23), (w.heap.size + 1, [.string cn, .int .i64 c1, .int .i64 c2, .int .i64 c3, .int .i64 c4, .int .i64 c5], 25), (bx, [.int .i64 g1, .int .i64 g2, .int .i64 g3, .int .i64 g4, .int .i64 g5, .int .i64 g6, .int .i64 g7, .int .i64 g8, .int .i64 g9], 23), (bY, [.string dn, .int .i64 d1, .int .i64 d2, .int .i64 d3, .int .i64 d4, .int .i64 d5], 25)] Emp)) ?_ ?_
  all_goals simp only [Act.put, L0, L1, L2]
  ·
    refine Evo2.start' (ℓ := some 7) (S := Chg (fun j => w1.heap.size ≤ j)) (E := Grow.G) (by kernel_rfl) ⟨Chg.pre _, by decide +kernel, (by intro c a d v w h; cases d <;> exact h), by decide +kernel⟩ (fun ok => ?_)
    first | (refine Evo2.val ok 0 ?_ ?_ ?_; rotate_left; (focus (intro w' hg; refine Box.exec_loadAll ?_ Try.underlying23 CG (B0.out.chg (Chg.trans (Chg.refl (fun j => w1.heap.size ≤ j) _) hg) (by omega)) ?_; (all_goals (first | exact ⟨rfl, rfl⟩ | rfl)))); simp only [Act.put, L0, L1, L2]) | (refine Evo2.val ok 0 ?_ ?_ ?_; rotate_left; (focus (intro w' hg; refine Box.exec_loadAll ?_ Try.underlying25 CE (B1.out.chg (Chg.trans (Chg.refl (fun j => w1.heap.size ≤ j) _) hg) (by omega)) ?_; (all_goals (first | exact ⟨rfl, rfl⟩ | rfl)))); simp only [Act.put, L0, L1, L2]) | (refine Evo2.va ok 0 _ _ ?_)
    (refine Evo2.cal ok 1 ?_ 14 ?_ ?_ ?_ ?_; rotate_left 2; (focus (intro w'; go_simp <;> with_reducible rfl)); (focus (intro w' g'; with_reducible exact MK.out w')); simp only [Act.put, L0, L1, L2])
    first | (refine Evo2.val ok 2 ?_ ?_ ?_; rotate_left; (focus (intro w' hg; refine Box.exec_loadAll ?_ Try.underlying23 CG (B0.out.chg (Chg.trans (Chg.refl (fun j => w1.heap.size ≤ j) _) hg) (by omega)) ?_; (all_goals (first | exact ⟨rfl, rfl⟩ | rfl)))); simp only [Act.put, L0, L1, L2]) | (refine Evo2.val ok 2 ?_ ?_ ?_; rotate_left; (focus (intro w' hg; refine Box.exec_loadAll ?_ Try.underlying25 CE (B1.out.chg (Chg.trans (Chg.refl (fun j => w1.heap.size ≤ j) _) hg) (by omega)) ?_; (all_goals (first | exact ⟨rfl, rfl⟩ | rfl)))); simp only [Act.put, L0, L1, L2]) | (refine Evo2.va ok 2 _ _ ?_)
    (refine Evo2.cal ok 3 ?_ 15 ?_ ?_ ?_ ?_; rotate_left 2; (focus (intro w'; go_simp <;> with_reducible rfl)); (focus (intro w' g'; with_reducible exact GC.out w')); simp only [Act.put, L0, L1, L2])
    refine Evo2.all [4, 5] (by decide +kernel) rfl ?_
    intro wp1 gp1 iq hq
    simp only [List.mem_cons, List.mem_nil_iff, or_false] at hq
    have AP1 := Chg.trans (Chg.refl (fun j => w1.heap.size ≤ j) _) (Chg.grow gp1)
    replace HK := Lib.hid (HK.out.grow FE.out gp1)
    rcases hq with rfl | rfl
    ·
      refine Evo2.runs (by rfl) (by rfl) (fun K' hK' => ?_)
      go_simp
      (try (simp only [Evo.after_value, Evo.after_skip]))
      refine hK'.out _ _ ?_
      clear hK'
      simp only [Act.put, L0, L1, L2]
      refine ⟨.inr (Chg.alloc (Chg.refl _ _) _), ?_⟩
      generalize hG1 : World.alloc wp1 _ = wg1
      have GG1 : Grow.G wp1 wg1 := hG1 ▸ Grow.G.alloc (Grow.G.refl _) _
      have NC1 := (congrArg (fun W : World => W.heap[wp1.heap.size]?) hG1).symm.trans (MapKept.heap_alloc wp1 _).1
      have NL1 : wp1.heap.size < wg1.heap.size := by rw [← hG1]; simp
      clear hG1
      replace HK := Lib.hid (HK.out.add FE.out GG1 (b := wp1.heap.size) (cs := [.int .i64 0, .int .i64 0, .int .i64 0, .int .i64 0, .int .i64 0, .int .i64 0, .int .i64 0, .int .i64 0, .int .i64 0]) NC1 (Nat.le_refl _)); have LO1 := AP1.size
      refine Evo2.all [5] (by decide +kernel) rfl ?_
      intro wp2 gp2 iq hq
      simp only [List.mem_cons, List.mem_nil_iff, or_false] at hq
      have AP2 := Chg.trans (Chg.trans AP1 (Chg.grow GG1)) (Chg.grow gp2)
      replace HK := Lib.hid (HK.out.grow FE.out gp2)
      have NC1 := (gp2.block _ NL1).trans NC1
      have NL1 := Nat.lt_of_lt_of_le NL1 gp2.size
      subst hq
      refine Evo2.runs (by rfl) (by rfl) (fun K' hK' => ?_)
      go_simp
      (try (simp only [Evo.after_value, Evo.after_skip]))
      refine hK'.out _ _ ?_
      clear hK'
      simp only [Act.put, L0, L1, L2]
      refine ⟨.inr (Chg.alloc (Chg.refl _ _) _), ?_⟩
      generalize hG2 : World.alloc wp2 _ = wg2
      have GG2 : Grow.G wp2 wg2 := hG2 ▸ Grow.G.alloc (Grow.G.refl _) _
      have NC1 := (GG2.block _ NL1).trans NC1
      have NL1 := Nat.lt_of_lt_of_le NL1 GG2.size
      have NC2 := (congrArg (fun W : World => W.heap[wp2.heap.size]?) hG2).symm.trans (MapKept.heap_alloc wp2 _).1
      have NL2 : wp2.heap.size < wg2.heap.size := by rw [← hG2]; simp
      clear hG2
      replace HK := Lib.hid (HK.out.add FE.out GG2 (b := wp2.heap.size) (cs := [.string ⟨#[]⟩, .int .i64 0, .int .i64 0, .int .i64 0, .int .i64 0, .int .i64 0]) NC2 (Nat.le_refl _)); have LO2 := AP2.size
      refine Evo2.all [6] (by decide +kernel) rfl ?_
      intro wp3 gp3 iq hq
      simp only [List.mem_cons, List.mem_nil_iff, or_false] at hq
      have AP3 := Chg.trans (Chg.trans AP2 (Chg.grow GG2)) (Chg.grow gp3)
      replace HK := Lib.hid (HK.out.grow FE.out gp3)
      have NC1 := (gp3.block _ NL1).trans NC1
      have NL1 := Nat.lt_of_lt_of_le NL1 gp3.size
      have NC2 := (gp3.block _ NL2).trans NC2
      have NL2 := Nat.lt_of_lt_of_le NL2 gp3.size
      subst hq
      refine upStoreAll (by rfl) (by rfl) rfl rfl rfl (n := 9) (by kernel_rfl) (by first | exact HK.out.mem.blk (i := 2) rfl | exact HK.out.mem.blk (i := 3) rfl) rfl rfl rfl ?_
      intro wc3 BZ CW3
      have CH3 : Chg (fun j => w1.heap.size ≤ j) _ _ := CW3.mono (fun j _ e => by have e : j = _ := e; show _ ≤ j; omega)
      replace HK := Lib.hid (by first | exact HK.out.set FE.out (i := 2) rfl BZ CW3 | exact HK.out.set FE.out (i := 3) rfl BZ CW3)
      refine ⟨.inr CH3, ?_⟩
      simp only [Act.put, L0, L1, L2]
      refine Evo2.all [7] (by decide +kernel) rfl ?_
      intro wp4 gp4 iq hq
      simp only [List.mem_cons, List.mem_nil_iff, or_false] at hq
      have AP4 := Chg.trans (Chg.trans AP3 CH3) (Chg.grow gp4)
      replace HK := Lib.hid (HK.out.grow FE.out gp4)
      subst hq
      refine upStoreAll (by rfl) (by rfl) rfl rfl rfl (n := 6) (by kernel_rfl) (by first | exact HK.out.mem.blk (i := 2) rfl | exact HK.out.mem.blk (i := 3) rfl) rfl rfl rfl ?_
      intro wc4 BZ CW4
      have CH4 : Chg (fun j => w1.heap.size ≤ j) _ _ := CW4.mono (fun j _ e => by have e : j = _ := e; show _ ≤ j; omega)
      replace HK := Lib.hid (by first | exact HK.out.set FE.out (i := 2) rfl BZ CW4 | exact HK.out.set FE.out (i := 3) rfl BZ CW4)
      refine ⟨.inl (by first | rfl | trivial), ?_⟩
      simp only [Act.put, L0, L1, L2]
      refine Evo2.done (by decide +kernel) (fun wz gz => ?_)
      have AZ := Chg.trans (Chg.trans AP4 CH4) (Chg.grow gz)
      replace HK := Lib.hid (HK.out.grow FE.out gz)
      dsimp only [PostN] 
      (repeat apply Exists.intro) 
      refine ⟨rfl, Lib.hid ?_⟩ 
      have HL := HK.out 
      simp only [List.nil_append, List.cons_append, List.set_cons_zero, List.set_cons_succ] at HL 
      first | exact HL | exact HL.perm (List.Perm.cons _ (List.Perm.cons _ (List.Perm.swap _ _ [])))
    ·
      refine Evo2.runs (by rfl) (by rfl) (fun K' hK' => ?_)
      go_simp
      (try (simp only [Evo.after_value, Evo.after_skip]))
      refine hK'.out _ _ ?_
      clear hK'
      simp only [Act.put, L0, L1, L2]
      refine ⟨.inr (Chg.alloc (Chg.refl _ _) _), ?_⟩
      generalize hG1 : World.alloc wp1 _ = wg1
      have GG1 : Grow.G wp1 wg1 := hG1 ▸ Grow.G.alloc (Grow.G.refl _) _
      have NC1 := (congrArg (fun W : World => W.heap[wp1.heap.size]?) hG1).symm.trans (MapKept.heap_alloc wp1 _).1
      have NL1 : wp1.heap.size < wg1.heap.size := by rw [← hG1]; simp
      clear hG1
      replace HK := Lib.hid (HK.out.add FE.out GG1 (b := wp1.heap.size) (cs := [.string ⟨#[]⟩, .int .i64 0, .int .i64 0, .int .i64 0, .int .i64 0, .int .i64 0]) NC1 (Nat.le_refl _)); have LO1 := AP1.size
      refine Evo2.all [4] (by decide +kernel) rfl ?_
      intro wp2 gp2 iq hq
      simp only [List.mem_cons, List.mem_nil_iff, or_false] at hq
      have AP2 := Chg.trans (Chg.trans AP1 (Chg.grow GG1)) (Chg.grow gp2)
      replace HK := Lib.hid (HK.out.grow FE.out gp2)
      have NC1 := (gp2.block _ NL1).trans NC1
      have NL1 := Nat.lt_of_lt_of_le NL1 gp2.size
      subst hq
      refine Evo2.runs (by rfl) (by rfl) (fun K' hK' => ?_)
      go_simp
      (try (simp only [Evo.after_value, Evo.after_skip]))
      refine hK'.out _ _ ?_
      clear hK'
      simp only [Act.put, L0, L1, L2]
      refine ⟨.inr (Chg.alloc (Chg.refl _ _) _), ?_⟩
      generalize hG2 : World.alloc wp2 _ = wg2
      have GG2 : Grow.G wp2 wg2 := hG2 ▸ Grow.G.alloc (Grow.G.refl _) _
      have NC1 := (GG2.block _ NL1).trans NC1
      have NL1 := Nat.lt_of_lt_of_le NL1 GG2.size
      have NC2 := (congrArg (fun W : World => W.heap[wp2.heap.size]?) hG2).symm.trans (MapKept.heap_alloc wp2 _).1
      have NL2 : wp2.heap.size < wg2.heap.size := by rw [← hG2]; simp
      clear hG2
      replace HK := Lib.hid (HK.out.add FE.out GG2 (b := wp2.heap.size) (cs := [.int .i64 0, .int .i64 0, .int .i64 0, .int .i64 0, .int .i64 0, .int .i64 0, .int .i64 0, .int .i64 0, .int .i64 0]) NC2 (Nat.le_refl _)); have LO2 := AP2.size
      refine Evo2.all [6] (by decide +kernel) rfl ?_
      intro wp3 gp3 iq hq
      simp only [List.mem_cons, List.mem_nil_iff, or_false] at hq
      have AP3 := Chg.trans (Chg.trans AP2 (Chg.grow GG2)) (Chg.grow gp3)
      replace HK := Lib.hid (HK.out.grow FE.out gp3)
      have NC1 := (gp3.block _ NL1).trans NC1
      have NL1 := Nat.lt_of_lt_of_le NL1 gp3.size
      have NC2 := (gp3.block _ NL2).trans NC2
      have NL2 := Nat.lt_of_lt_of_le NL2 gp3.size
      subst hq
      refine upStoreAll (by rfl) (by rfl) rfl rfl rfl (n := 9) (by kernel_rfl) (by first | exact HK.out.mem.blk (i := 2) rfl | exact HK.out.mem.blk (i := 3) rfl) rfl rfl rfl ?_
      intro wc3 BZ CW3
      have CH3 : Chg (fun j => w1.heap.size ≤ j) _ _ := CW3.mono (fun j _ e => by have e : j = _ := e; show _ ≤ j; omega)
      replace HK := Lib.hid (by first | exact HK.out.set FE.out (i := 2) rfl BZ CW3 | exact HK.out.set FE.out (i := 3) rfl BZ CW3)
      refine ⟨.inr CH3, ?_⟩
      simp only [Act.put, L0, L1, L2]
      refine Evo2.all [7] (by decide +kernel) rfl ?_
      intro wp4 gp4 iq hq
      simp only [List.mem_cons, List.mem_nil_iff, or_false] at hq
      have AP4 := Chg.trans (Chg.trans AP3 CH3) (Chg.grow gp4)
      replace HK := Lib.hid (HK.out.grow FE.out gp4)
      subst hq
      refine upStoreAll (by rfl) (by rfl) rfl rfl rfl (n := 6) (by kernel_rfl) (by first | exact HK.out.mem.blk (i := 2) rfl | exact HK.out.mem.blk (i := 3) rfl) rfl rfl rfl ?_
      intro wc4 BZ CW4
      have CH4 : Chg (fun j => w1.heap.size ≤ j) _ _ := CW4.mono (fun j _ e => by have e : j = _ := e; show _ ≤ j; omega)
      replace HK := Lib.hid (by first | exact HK.out.set FE.out (i := 2) rfl BZ CW4 | exact HK.out.set FE.out (i := 3) rfl BZ CW4)
      refine ⟨.inl (by first | rfl | trivial), ?_⟩
      simp only [Act.put, L0, L1, L2]
      refine Evo2.done (by decide +kernel) (fun wz gz => ?_)
      have AZ := Chg.trans (Chg.trans AP4 CH4) (Chg.grow gz)
      replace HK := Lib.hid (HK.out.grow FE.out gz)
      dsimp only [PostN] 
      (repeat apply Exists.intro) 
      refine ⟨rfl, Lib.hid ?_⟩ 
      have HL := HK.out 
      simp only [List.nil_append, List.cons_append, List.set_cons_zero, List.set_cons_succ] at HL 
      first | exact HL | exact HL.perm (List.Perm.cons _ (List.Perm.cons _ (List.Perm.swap _ _ [])))
  ·
    rintro A W3 ⟨x14, x15, x16, x17, bx, bY, rfl, H6⟩
    replace H := H6
    clear H6 HK B0 B1 l0 l1 MK GC CE CG
    go_wp2_with (first | (refine Mem.loadAll 2 (t := 23) rfl rfl rfl Try.underlying23 (n := 9) (by kernel_rfl) H.out.mem rfl rfl ?_) | (refine Hold.storeAll 4 (t := 23) FE.out rfl rfl rfl rfl (n := 9) (by kernel_rfl) (Hold.alloc' H.out FE.out _ _ rfl) rfl rfl rfl rfl ?_; intro W4 HMm CW4))
    simp only [K0, K1, L1, L2, K2, K3, K4, K5, K6, K7, Nat.reduceAdd, Nat.reduceSub] at HMm
    replace H := Lib.hid HMm
    clear HMm
    refine Stay.go ?_
    have B2 := Lib.hid (H.out.mem.blk (i := 2) rfl)
    have SB := H.out.mem.blk (i := 4) rfl
    have l2 := B2.out.lt
    have l3 := (H.out.mem.blk (i := 3) rfl).lt
    have l4 := SB.lt
    have n24 : bx ≠ W3.heap.size := H.out.mem.dist (i := 2) (j := 4) rfl rfl (by decide)
    have KC := Lib.hid (fun (w' : World) (h : Chg (fun k => k = W3.heap.size) W4 w') => (⟨(((B2.out.chg h n24).cell 4).trans rfl), (((B2.out.chg h n24).cell 6).trans rfl), (((B2.out.chg h n24).cell 3).trans rfl), trivial⟩ : w'.cell? ⟨bx, 4, none⟩ = some (.int .i64 g5) ∧ w'.cell? ⟨bx, 6, none⟩ = some (.int .i64 g7) ∧ w'.cell? ⟨bx, 3, none⟩ = some (.int .i64 g4) ∧ True))
    go_wp2_with fail
    refine Evo2.start' (ℓ := none) (S := Chg (fun k => k = W3.heap.size)) (E := Grow.G) (by kernel_rfl) ⟨Chg.pre _, by decide +kernel, (by intro c a d v w h; cases d <;> exact h), by decide +kernel⟩ (fun ok => ?_)
    refine Evo2.va ok 0 _ _ ?_
    first | (refine Evo2.vl ok 1 KC.out (Chg.refl (fun k => k = W3.heap.size) _) _ _ ?_) | (refine Evo2.va ok 1 _ _ ?_)
    refine Evo2.va ok 2 _ _ ?_
    (refine Evo2.cal ok 3 ?_ 18 ?_ ?_ ?_ ?_; rotate_left 2; (focus (intro w'; go_simp <;> with_reducible rfl)); (focus (intro w' g'; with_reducible exact WA.out w')); simp only [Act.put, L0, L1, L2])
    refine Evo2.va ok 4 _ _ ?_
    refine Evo2.va ok 5 _ _ ?_
    first | (refine Evo2.vl ok 6 KC.out (Chg.refl (fun k => k = W3.heap.size) _) _ _ ?_) | (refine Evo2.va ok 6 _ _ ?_)
    refine Evo2.va ok 7 _ _ ?_
    refine Evo2.va ok 8 _ _ ?_
    (refine Evo2.cal ok 9 ?_ 18 ?_ ?_ ?_ ?_; rotate_left 2; (focus (intro w'; go_simp <;> with_reducible rfl)); (focus (intro w' g'; with_reducible exact WB.out w')); simp only [Act.put, L0, L1, L2])
    refine Evo2.va ok 10 _ _ ?_
    refine Evo2.va ok 11 _ _ ?_
    first | (refine Evo2.vl ok 12 KC.out (Chg.refl (fun k => k = W3.heap.size) _) _ _ ?_) | (refine Evo2.va ok 12 _ _ ?_)
    refine Evo2.va ok 13 _ _ ?_
    refine Evo2.va ok 14 _ _ ?_
    (refine Evo2.cal ok 15 ?_ 18 ?_ ?_ ?_ ?_; rotate_left 2; (focus (intro w'; go_simp <;> with_reducible rfl)); (focus (intro w' g'; with_reducible exact WC.out w')); simp only [Act.put, L0, L1, L2])
    refine Evo2.va ok 16 _ _ ?_
    refine Evo2.va ok 17 _ _ ?_
    refine Evo2.all [18] (by decide +kernel) rfl ?_
    intro wp1 gp1 iq hq
    simp only [List.mem_cons, List.mem_nil_iff, or_false] at hq
    have AP1 := Chg.trans (Chg.refl (fun k => k = W3.heap.size) _) (Chg.grow gp1)
    (try replace SB := Blk.grow SB gp1)
    subst hq
    refine Evo2.runs (by rfl) (by rfl) (fun K' hK' => ?_)
    (try obtain ⟨q1, q2, q3⟩ := KC.out wp1 AP1)
    have gl := Blk.lt SB; have f0 := Blk.free SB 4; have e0 := (Blk.cell SB 4).trans rfl
    go_simp
    (try (simp only [Evo.after_value, Evo.after_skip]))
    refine hK'.out _ _ ?_
    clear hK'
    simp only [Act.put, L0, L1, L2]
    (try clear gl f0 e0)
    have SB := Blk.set SB 4 (.int .i64 (IntKind.i64.wrap (g5 + v1)))
    (try clear q1 q2 q3)
    refine ⟨.inr (by (repeat refine Chg.setCell ?_ (fun _ => by first | rfl | (simp; done) | (simp; omega)) _ _); exact Chg.refl _ _), ?_⟩
    refine Evo2.va ok 19 _ _ ?_
    refine Evo2.all [20] (by decide +kernel) rfl ?_
    intro wp2 gp2 iq hq
    simp only [List.mem_cons, List.mem_nil_iff, or_false] at hq
    have AP2 := Chg.trans (Chg.trans AP1 (by (repeat refine Chg.setCell ?_ (fun _ => by first | rfl | (simp; done) | (simp; omega)) _ _); exact Chg.refl _ _)) (Chg.grow gp2)
    (try replace SB := Blk.grow SB gp2)
    subst hq
    refine Evo2.runs (by rfl) (by rfl) (fun K' hK' => ?_)
    (try obtain ⟨q1, q2, q3⟩ := KC.out wp2 AP2)
    have gl := Blk.lt SB; have f0 := Blk.free SB 6; have e0 := (Blk.cell SB 6).trans rfl
    go_simp
    (try (simp only [Evo.after_value, Evo.after_skip]))
    refine hK'.out _ _ ?_
    clear hK'
    simp only [Act.put, L0, L1, L2]
    (try clear gl f0 e0)
    have SB := Blk.set SB 6 (.int .i64 (IntKind.i64.wrap (g7 + v2)))
    (try clear q1 q2 q3)
    refine ⟨.inr (by (repeat refine Chg.setCell ?_ (fun _ => by first | rfl | (simp; done) | (simp; omega)) _ _); exact Chg.refl _ _), ?_⟩
    refine Evo2.va ok 21 _ _ ?_
    refine Evo2.all [22] (by decide +kernel) rfl ?_
    intro wp3 gp3 iq hq
    simp only [List.mem_cons, List.mem_nil_iff, or_false] at hq
    have AP3 := Chg.trans (Chg.trans AP2 (by (repeat refine Chg.setCell ?_ (fun _ => by first | rfl | (simp; done) | (simp; omega)) _ _); exact Chg.refl _ _)) (Chg.grow gp3)
    (try replace SB := Blk.grow SB gp3)
    subst hq
    refine Evo2.runs (by rfl) (by rfl) (fun K' hK' => ?_)
    (try obtain ⟨q1, q2, q3⟩ := KC.out wp3 AP3)
    have gl := Blk.lt SB; have f0 := Blk.free SB 3; have e0 := (Blk.cell SB 3).trans rfl
    go_simp
    (try (simp only [Evo.after_value, Evo.after_skip]))
    refine hK'.out _ _ ?_
    clear hK'
    simp only [Act.put, L0, L1, L2]
    (try clear gl f0 e0)
    have SB := Blk.set SB 3 (.int .i64 (IntKind.i64.wrap (g4 + v3)))
    (try clear q1 q2 q3)
    refine ⟨.inr (by (repeat refine Chg.setCell ?_ (fun _ => by first | rfl | (simp; done) | (simp; omega)) _ _); exact Chg.refl _ _), ?_⟩
    refine Evo2.done (by decide +kernel) (fun wz gz => ?_)
    have AZ := Chg.trans (Chg.trans AP3 (by (repeat refine Chg.setCell ?_ (fun _ => by first | rfl | (simp; done) | (simp; omega)) _ _); exact Chg.refl _ _)) (Chg.grow gz)
    (try replace SB := Blk.grow SB gz)
    simp only [List.setIfInBounds_toArray, List.set_cons_zero, List.set_cons_succ, e1.out.1, e1.out.2.1, e1.out.2.2] at SB
    have H0 := H.out.set FE.out (i := 4) rfl SB AZ
    simp only [K0, K1, L1, L2, K2, K3, K4, K5, K6, K7, Nat.reduceAdd, Nat.reduceSub] at H0
    replace H := Lib.hid H0
    clear H0 SB AZ gz KC n24 WA WB WC B2 l2 l3 l4 AP1 AP2 AP3 gp1 gp2 gp3
    go_wp2_with fail
    have B2 := Lib.hid (H.out.mem.blk (i := 2) rfl)
    have B3 := Lib.hid (H.out.mem.blk (i := 3) rfl)
    have B4 := Lib.hid (H.out.mem.blk (i := 4) rfl)
    have l2 := B2.out.lt
    have l3 := B3.out.lt
    have l4 := B4.out.lt
    have HK := H
    have CE : (Try.prog.info? 25).map (·.size) = some 6 := by kernel_rfl
    have CG : (Try.prog.info? 23).map (·.size) = some 9 := by kernel_rfl
    refine wp_spec (fun a0 A W => ∃ x39 x40 x41 x42 x43 x44 : Value, ∃ (bz bw : Nat), A = ((((((((a0.put (some 10) (.pointer (some ⟨bz, 0, none⟩))).put (some 11) (.pointer (some ⟨bw, 0, none⟩))).put (some 39) x39).put (some 40) x40).put (some 41) x41).put (some 42) x42).put (some 43) x43).put (some 44) x44) ∧ Hid (Hold w W [(w.heap.size, [.int .i64 x1, .int .i64 x2, .int .i64 x3, .int .i64 x4, .int .i64 x5, .int .i64 x6, .int .i64 x7, .int .i64 x8, .int .i64 x9], 23), (w.heap.size + 1, [.string cn, .int .i64 c1, .int .i64 c2, .int .i64 c3, .int .i64 c4, .int .i64 c5], 25), (bx, [.int .i64 g1, .int .i64 g2, .int .i64 g3, .int .i64 g4, .int .i64 g5, .int .i64 g6, .int .i64 g7, .int .i64 g8, .int .i64 g9], 23), (bY, [.string dn, .int .i64 d1, .int .i64 d2, .int .i64 d3, .int .i64 d4, .int .i64 d5], 25), (W3.heap.size, [.int .i64 g1, .int .i64 g2, .int .i64 g3, .int .i64 (g4 + v3), .int .i64 (g5 + v1), .int .i64 g6, .int .i64 (g7 + v2), .int .i64 g8, .int .i64 g9], 23), (bz, [.int .i64 W1, .int .i64 LA], 30), (bw, [.int .i64 W2, .int .i64 LB], 30)] Emp)) ?_ ?_
    all_goals simp only [Act.put, L0, L1, L2]
    ·
      refine Evo2.start' (ℓ := some 9) (S := Chg (fun j => wz.heap.size ≤ j)) (E := Grow.G) (by kernel_rfl) ⟨Chg.pre _, by decide +kernel, (by intro c a d v w h; cases d <;> exact h), by decide +kernel⟩ (fun ok => ?_)
      first | (refine Evo2.val ok 0 ?_ ?_ ?_; rotate_left; (focus (intro w' hg; refine Box.exec_loadAll ?_ Try.underlying23 CG (B2.out.chg (Chg.trans (Chg.refl (fun j => wz.heap.size ≤ j) _) hg) (by omega)) ?_; (all_goals (first | exact ⟨rfl, rfl⟩ | rfl)))); simp only [Act.put, L0, L1, L2]) | (refine Evo2.val ok 0 ?_ ?_ ?_; rotate_left; (focus (intro w' hg; refine Box.exec_loadAll ?_ Try.underlying25 CE (B3.out.chg (Chg.trans (Chg.refl (fun j => wz.heap.size ≤ j) _) hg) (by omega)) ?_; (all_goals (first | exact ⟨rfl, rfl⟩ | rfl)))); simp only [Act.put, L0, L1, L2]) | (refine Evo2.val ok 0 ?_ ?_ ?_; rotate_left; (focus (intro w' hg; refine Box.exec_loadAll ?_ Try.underlying23 CG (B4.out.chg (Chg.trans (Chg.refl (fun j => wz.heap.size ≤ j) _) hg) (by omega)) ?_; (all_goals (first | exact ⟨rfl, rfl⟩ | rfl)))); simp only [Act.put, L0, L1, L2]) | (refine Evo2.va ok 0 _ _ ?_)
      first | (refine Evo2.val ok 1 ?_ ?_ ?_; rotate_left; (focus (intro w' hg; refine Box.exec_loadAll ?_ Try.underlying23 CG (B2.out.chg (Chg.trans (Chg.refl (fun j => wz.heap.size ≤ j) _) hg) (by omega)) ?_; (all_goals (first | exact ⟨rfl, rfl⟩ | rfl)))); simp only [Act.put, L0, L1, L2]) | (refine Evo2.val ok 1 ?_ ?_ ?_; rotate_left; (focus (intro w' hg; refine Box.exec_loadAll ?_ Try.underlying25 CE (B3.out.chg (Chg.trans (Chg.refl (fun j => wz.heap.size ≤ j) _) hg) (by omega)) ?_; (all_goals (first | exact ⟨rfl, rfl⟩ | rfl)))); simp only [Act.put, L0, L1, L2]) | (refine Evo2.val ok 1 ?_ ?_ ?_; rotate_left; (focus (intro w' hg; refine Box.exec_loadAll ?_ Try.underlying23 CG (B4.out.chg (Chg.trans (Chg.refl (fun j => wz.heap.size ≤ j) _) hg) (by omega)) ?_; (all_goals (first | exact ⟨rfl, rfl⟩ | rfl)))); simp only [Act.put, L0, L1, L2]) | (refine Evo2.va ok 1 _ _ ?_)
      (refine Evo2.cal ok 2 ?_ 16 ?_ ?_ ?_ ?_; rotate_left 2; (focus (intro w'; go_simp <;> with_reducible rfl)); (focus (intro w' g'; with_reducible exact D1.out w')); simp only [Act.put, L0, L1, L2])
      first | (refine Evo2.val ok 3 ?_ ?_ ?_; rotate_left; (focus (intro w' hg; refine Box.exec_loadAll ?_ Try.underlying23 CG (B2.out.chg (Chg.trans (Chg.refl (fun j => wz.heap.size ≤ j) _) hg) (by omega)) ?_; (all_goals (first | exact ⟨rfl, rfl⟩ | rfl)))); simp only [Act.put, L0, L1, L2]) | (refine Evo2.val ok 3 ?_ ?_ ?_; rotate_left; (focus (intro w' hg; refine Box.exec_loadAll ?_ Try.underlying25 CE (B3.out.chg (Chg.trans (Chg.refl (fun j => wz.heap.size ≤ j) _) hg) (by omega)) ?_; (all_goals (first | exact ⟨rfl, rfl⟩ | rfl)))); simp only [Act.put, L0, L1, L2]) | (refine Evo2.val ok 3 ?_ ?_ ?_; rotate_left; (focus (intro w' hg; refine Box.exec_loadAll ?_ Try.underlying23 CG (B4.out.chg (Chg.trans (Chg.refl (fun j => wz.heap.size ≤ j) _) hg) (by omega)) ?_; (all_goals (first | exact ⟨rfl, rfl⟩ | rfl)))); simp only [Act.put, L0, L1, L2]) | (refine Evo2.va ok 3 _ _ ?_)
      first | (refine Evo2.val ok 4 ?_ ?_ ?_; rotate_left; (focus (intro w' hg; refine Box.exec_loadAll ?_ Try.underlying23 CG (B2.out.chg (Chg.trans (Chg.refl (fun j => wz.heap.size ≤ j) _) hg) (by omega)) ?_; (all_goals (first | exact ⟨rfl, rfl⟩ | rfl)))); simp only [Act.put, L0, L1, L2]) | (refine Evo2.val ok 4 ?_ ?_ ?_; rotate_left; (focus (intro w' hg; refine Box.exec_loadAll ?_ Try.underlying25 CE (B3.out.chg (Chg.trans (Chg.refl (fun j => wz.heap.size ≤ j) _) hg) (by omega)) ?_; (all_goals (first | exact ⟨rfl, rfl⟩ | rfl)))); simp only [Act.put, L0, L1, L2]) | (refine Evo2.val ok 4 ?_ ?_ ?_; rotate_left; (focus (intro w' hg; refine Box.exec_loadAll ?_ Try.underlying23 CG (B4.out.chg (Chg.trans (Chg.refl (fun j => wz.heap.size ≤ j) _) hg) (by omega)) ?_; (all_goals (first | exact ⟨rfl, rfl⟩ | rfl)))); simp only [Act.put, L0, L1, L2]) | (refine Evo2.va ok 4 _ _ ?_)
      (refine Evo2.cal ok 5 ?_ 16 ?_ ?_ ?_ ?_; rotate_left 2; (focus (intro w'; go_simp <;> with_reducible rfl)); (focus (intro w' g'; with_reducible exact D2.out w')); simp only [Act.put, L0, L1, L2])
      refine Evo2.all [6, 7] (by decide +kernel) rfl ?_
      intro wp1 gp1 iq hq
      simp only [List.mem_cons, List.mem_nil_iff, or_false] at hq
      have AP1 := Chg.trans (Chg.refl (fun j => wz.heap.size ≤ j) _) (Chg.grow gp1)
      replace HK := Lib.hid (HK.out.grow FE.out gp1)
      rcases hq with rfl | rfl
      ·
        refine Evo2.runs (by rfl) (by rfl) (fun K' hK' => ?_)
        go_simp
        (try (simp only [Evo.after_value, Evo.after_skip]))
        refine hK'.out _ _ ?_
        clear hK'
        simp only [Act.put, L0, L1, L2]
        refine ⟨.inr (Chg.alloc (Chg.refl _ _) _), ?_⟩
        generalize hG1 : World.alloc wp1 _ = wg1
        have GG1 : Grow.G wp1 wg1 := hG1 ▸ Grow.G.alloc (Grow.G.refl _) _
        have NC1 := (congrArg (fun W : World => W.heap[wp1.heap.size]?) hG1).symm.trans (MapKept.heap_alloc wp1 _).1
        have NL1 : wp1.heap.size < wg1.heap.size := by rw [← hG1]; simp
        clear hG1
        replace HK := Lib.hid (HK.out.add FE.out GG1 (b := wp1.heap.size) (cs := [.int .i64 0, .int .i64 0]) NC1 (Nat.le_refl _)); have LO1 := AP1.size
        refine Evo2.all [7] (by decide +kernel) rfl ?_
        intro wp2 gp2 iq hq
        simp only [List.mem_cons, List.mem_nil_iff, or_false] at hq
        have AP2 := Chg.trans (Chg.trans AP1 (Chg.grow GG1)) (Chg.grow gp2)
        replace HK := Lib.hid (HK.out.grow FE.out gp2)
        have NC1 := (gp2.block _ NL1).trans NC1
        have NL1 := Nat.lt_of_lt_of_le NL1 gp2.size
        subst hq
        refine Evo2.runs (by rfl) (by rfl) (fun K' hK' => ?_)
        go_simp
        (try (simp only [Evo.after_value, Evo.after_skip]))
        refine hK'.out _ _ ?_
        clear hK'
        simp only [Act.put, L0, L1, L2]
        refine ⟨.inr (Chg.alloc (Chg.refl _ _) _), ?_⟩
        generalize hG2 : World.alloc wp2 _ = wg2
        have GG2 : Grow.G wp2 wg2 := hG2 ▸ Grow.G.alloc (Grow.G.refl _) _
        have NC1 := (GG2.block _ NL1).trans NC1
        have NL1 := Nat.lt_of_lt_of_le NL1 GG2.size
        have NC2 := (congrArg (fun W : World => W.heap[wp2.heap.size]?) hG2).symm.trans (MapKept.heap_alloc wp2 _).1
        have NL2 : wp2.heap.size < wg2.heap.size := by rw [← hG2]; simp
        clear hG2
        replace HK := Lib.hid (HK.out.add FE.out GG2 (b := wp2.heap.size) (cs := [.int .i64 0, .int .i64 0]) NC2 (Nat.le_refl _)); have LO2 := AP2.size
        refine Evo2.all [8] (by decide +kernel) rfl ?_
        intro wp3 gp3 iq hq
        simp only [List.mem_cons, List.mem_nil_iff, or_false] at hq
        have AP3 := Chg.trans (Chg.trans AP2 (Chg.grow GG2)) (Chg.grow gp3)
        replace HK := Lib.hid (HK.out.grow FE.out gp3)
        have NC1 := (gp3.block _ NL1).trans NC1
        have NL1 := Nat.lt_of_lt_of_le NL1 gp3.size
        have NC2 := (gp3.block _ NL2).trans NC2
        have NL2 := Nat.lt_of_lt_of_le NL2 gp3.size
        subst hq
        refine upStoreAll (by rfl) (by rfl) rfl rfl rfl (n := 2) (by kernel_rfl) (by first | exact HK.out.mem.blk (i := 5) rfl | exact HK.out.mem.blk (i := 6) rfl) rfl rfl rfl ?_
        intro wc3 BZ CW3
        have CH3 : Chg (fun j => wz.heap.size ≤ j) _ _ := CW3.mono (fun j _ e => by have e : j = _ := e; show _ ≤ j; omega)
        replace HK := Lib.hid (by first | exact HK.out.set FE.out (i := 5) rfl BZ CW3 | exact HK.out.set FE.out (i := 6) rfl BZ CW3)
        refine ⟨.inr CH3, ?_⟩
        simp only [Act.put, L0, L1, L2]
        refine Evo2.all [9] (by decide +kernel) rfl ?_
        intro wp4 gp4 iq hq
        simp only [List.mem_cons, List.mem_nil_iff, or_false] at hq
        have AP4 := Chg.trans (Chg.trans AP3 CH3) (Chg.grow gp4)
        replace HK := Lib.hid (HK.out.grow FE.out gp4)
        subst hq
        refine upStoreAll (by rfl) (by rfl) rfl rfl rfl (n := 2) (by kernel_rfl) (by first | exact HK.out.mem.blk (i := 5) rfl | exact HK.out.mem.blk (i := 6) rfl) rfl rfl rfl ?_
        intro wc4 BZ CW4
        have CH4 : Chg (fun j => wz.heap.size ≤ j) _ _ := CW4.mono (fun j _ e => by have e : j = _ := e; show _ ≤ j; omega)
        replace HK := Lib.hid (by first | exact HK.out.set FE.out (i := 5) rfl BZ CW4 | exact HK.out.set FE.out (i := 6) rfl BZ CW4)
        refine ⟨.inl (by first | rfl | trivial), ?_⟩
        simp only [Act.put, L0, L1, L2]
        refine Evo2.done (by decide +kernel) (fun wz gz => ?_)
        have AZ := Chg.trans (Chg.trans AP4 CH4) (Chg.grow gz)
        replace HK := Lib.hid (HK.out.grow FE.out gz)
        dsimp only [PostN] 
        (repeat apply Exists.intro) 
        refine ⟨rfl, Lib.hid ?_⟩ 
        have HL := HK.out 
        simp only [List.nil_append, List.cons_append, List.set_cons_zero, List.set_cons_succ] at HL 
        first | exact HL | exact HL.perm (List.Perm.cons _ (List.Perm.cons _ (List.Perm.cons _ (List.Perm.cons _ (List.Perm.cons _ (List.Perm.swap _ _ []))))))
      ·
        refine Evo2.runs (by rfl) (by rfl) (fun K' hK' => ?_)
        go_simp
        (try (simp only [Evo.after_value, Evo.after_skip]))
        refine hK'.out _ _ ?_
        clear hK'
        simp only [Act.put, L0, L1, L2]
        refine ⟨.inr (Chg.alloc (Chg.refl _ _) _), ?_⟩
        generalize hG1 : World.alloc wp1 _ = wg1
        have GG1 : Grow.G wp1 wg1 := hG1 ▸ Grow.G.alloc (Grow.G.refl _) _
        have NC1 := (congrArg (fun W : World => W.heap[wp1.heap.size]?) hG1).symm.trans (MapKept.heap_alloc wp1 _).1
        have NL1 : wp1.heap.size < wg1.heap.size := by rw [← hG1]; simp
        clear hG1
        replace HK := Lib.hid (HK.out.add FE.out GG1 (b := wp1.heap.size) (cs := [.int .i64 0, .int .i64 0]) NC1 (Nat.le_refl _)); have LO1 := AP1.size
        refine Evo2.all [6] (by decide +kernel) rfl ?_
        intro wp2 gp2 iq hq
        simp only [List.mem_cons, List.mem_nil_iff, or_false] at hq
        have AP2 := Chg.trans (Chg.trans AP1 (Chg.grow GG1)) (Chg.grow gp2)
        replace HK := Lib.hid (HK.out.grow FE.out gp2)
        have NC1 := (gp2.block _ NL1).trans NC1
        have NL1 := Nat.lt_of_lt_of_le NL1 gp2.size
        subst hq
        refine Evo2.runs (by rfl) (by rfl) (fun K' hK' => ?_)
        go_simp
        (try (simp only [Evo.after_value, Evo.after_skip]))
        refine hK'.out _ _ ?_
        clear hK'
        simp only [Act.put, L0, L1, L2]
        refine ⟨.inr (Chg.alloc (Chg.refl _ _) _), ?_⟩
        generalize hG2 : World.alloc wp2 _ = wg2
        have GG2 : Grow.G wp2 wg2 := hG2 ▸ Grow.G.alloc (Grow.G.refl _) _
        have NC1 := (GG2.block _ NL1).trans NC1
        have NL1 := Nat.lt_of_lt_of_le NL1 GG2.size
        have NC2 := (congrArg (fun W : World => W.heap[wp2.heap.size]?) hG2).symm.trans (MapKept.heap_alloc wp2 _).1
        have NL2 : wp2.heap.size < wg2.heap.size := by rw [← hG2]; simp
        clear hG2
        replace HK := Lib.hid (HK.out.add FE.out GG2 (b := wp2.heap.size) (cs := [.int .i64 0, .int .i64 0]) NC2 (Nat.le_refl _)); have LO2 := AP2.size
        refine Evo2.all [8] (by decide +kernel) rfl ?_
        intro wp3 gp3 iq hq
        simp only [List.mem_cons, List.mem_nil_iff, or_false] at hq
        have AP3 := Chg.trans (Chg.trans AP2 (Chg.grow GG2)) (Chg.grow gp3)
        replace HK := Lib.hid (HK.out.grow FE.out gp3)
        have NC1 := (gp3.block _ NL1).trans NC1
        have NL1 := Nat.lt_of_lt_of_le NL1 gp3.size
        have NC2 := (gp3.block _ NL2).trans NC2
        have NL2 := Nat.lt_of_lt_of_le NL2 gp3.size
        subst hq
        refine upStoreAll (by rfl) (by rfl) rfl rfl rfl (n := 2) (by kernel_rfl) (by first | exact HK.out.mem.blk (i := 5) rfl | exact HK.out.mem.blk (i := 6) rfl) rfl rfl rfl ?_
        intro wc3 BZ CW3
        have CH3 : Chg (fun j => wz.heap.size ≤ j) _ _ := CW3.mono (fun j _ e => by have e : j = _ := e; show _ ≤ j; omega)
        replace HK := Lib.hid (by first | exact HK.out.set FE.out (i := 5) rfl BZ CW3 | exact HK.out.set FE.out (i := 6) rfl BZ CW3)
        refine ⟨.inr CH3, ?_⟩
        simp only [Act.put, L0, L1, L2]
        refine Evo2.all [9] (by decide +kernel) rfl ?_
        intro wp4 gp4 iq hq
        simp only [List.mem_cons, List.mem_nil_iff, or_false] at hq
        have AP4 := Chg.trans (Chg.trans AP3 CH3) (Chg.grow gp4)
        replace HK := Lib.hid (HK.out.grow FE.out gp4)
        subst hq
        refine upStoreAll (by rfl) (by rfl) rfl rfl rfl (n := 2) (by kernel_rfl) (by first | exact HK.out.mem.blk (i := 5) rfl | exact HK.out.mem.blk (i := 6) rfl) rfl rfl rfl ?_
        intro wc4 BZ CW4
        have CH4 : Chg (fun j => wz.heap.size ≤ j) _ _ := CW4.mono (fun j _ e => by have e : j = _ := e; show _ ≤ j; omega)
        replace HK := Lib.hid (by first | exact HK.out.set FE.out (i := 5) rfl BZ CW4 | exact HK.out.set FE.out (i := 6) rfl BZ CW4)
        refine ⟨.inl (by first | rfl | trivial), ?_⟩
        simp only [Act.put, L0, L1, L2]
        refine Evo2.done (by decide +kernel) (fun wz gz => ?_)
        have AZ := Chg.trans (Chg.trans AP4 CH4) (Chg.grow gz)
        replace HK := Lib.hid (HK.out.grow FE.out gz)
        dsimp only [PostN] 
        (repeat apply Exists.intro) 
        refine ⟨rfl, Lib.hid ?_⟩ 
        have HL := HK.out 
        simp only [List.nil_append, List.cons_append, List.set_cons_zero, List.set_cons_succ] at HL 
        first | exact HL | exact HL.perm (List.Perm.cons _ (List.Perm.cons _ (List.Perm.cons _ (List.Perm.cons _ (List.Perm.cons _ (List.Perm.swap _ _ []))))))
    ·
      rintro A W6 ⟨x39, x40, x41, x42, x43, x44, bz, bw, rfl, H6⟩
      replace H := H6
      clear H6 HK B2 B3 B4 l2 l3 l4 D1 D2 CE CG
      have c50 := H.out.mem.cell (i := 5) (o := 0) rfl rfl
      have c51 := H.out.mem.cell (i := 5) (o := 1) rfl rfl
      have c60 := H.out.mem.cell (i := 6) (o := 0) rfl rfl
      have c61 := H.out.mem.cell (i := 6) (o := 1) rfl rfl
      have a1 : decide (W1 ≤ W2) = true := decide_eq_true HMO.out.1
      have a2 : decide (LA ≤ LB) = true := decide_eq_true HMO.out.2
      go_wp2_with fail
      go_ret
      exact ⟨rfl, H.out.below⟩
end Go.Proofs.Ytifkombocmdmfaa

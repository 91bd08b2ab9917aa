
/- The walk of StampStays. -/
import Derived.Test.YtjcdmnogmpjkkaaDoorZ96
import Derived.Test.YtjcdmnogmpjkkaaDoorZ95
import Derived.Test.YtjcdmnogmpjkkaaDoorZ2
import Derived.Test.YtjcdmnogmpjkkaaDoorZ97
namespace Go.Proofs.YtjcdmnogmpjkkaaDoor
set_option maxRecDepth 100000
set_option linter.unusedVariables false
set_option linter.unusedSimpArgs false
set_option linter.unnecessarySimpa false
open Go.RowKit

set_option maxHeartbeats 64000000 in
theorem walkStampStays (w : World) (c : Cfg) (hc : c.wf ∧ c.nm.size ≤ 140737488351232) (d : Cfg) (hd : d.wf ∧ d.nm.size ≤ 140737488351232) (la : Option Addr) (xs : List StepD) (lc : Nat) (hl : StepsL w la xs) (n : Int) (hn : wf64 n) (ht : Tab w) :
    Calls Tryd.prog 4 #[c.v, d.v, .slice la xs.length lc, .int .i64 n] w fun e w' => e = .returned (.bool true) ∧ Below w.heap.size w w' := by
  have KN := Lib.hid (fun w' (q : Tab w') => known12_any w' q)
  have HT := Lib.hid ht
  have FP := Lib.hid (fun g l => (BkB.foot g l).sep Emp.foot)
  have FE := Lib.hid Emp.foot
  have HX := Lib.hid hl
  have CE : (Tryd.prog.info? 33).map (·.size) = some 6 := by kernel_rfl
  have WN := Lib.hid (fun w => within12_any n 999999 w (by omega) (by omega) hn.1 hn.2)
  have rn := withinI_range n 999999 (by omega)
  obtain ⟨G, hG⟩ : ∃ G, 1 + withinI n 999999 = G := ⟨_, rfl⟩
  have hwr : IntKind.i64.wrap (1 + withinI n 999999) = G := by rw [hG]; exact IntWalk.i64_in _ ⟨by omega, by omega⟩
  have hGb : 1 ≤ G ∧ G ≤ 999999 := by omega
  obtain ⟨i1, i2, i3, i4, i5, ec, hce, hgc⟩ := gcfg_web c hc.1
  obtain ⟨j1, j2, j3, j4, j5, ed, hde, hgd⟩ := gcfg_web d hd.1
  obtain ⟨sv, hsv⟩ : ∃ sv, revS ⟨#[119, 101, 98]⟩ G = sv := ⟨_, rfl⟩
  have HSV := Lib.hid hsv
  have RV := Lib.hid (fun w => rrev_any ⟨#[119, 101, 98]⟩ G w (by decide))
  rw [hsv] at RV
  have zs1 := revS_size ⟨#[119, 101, 98]⟩ G
  rw [hsv] at zs1
  have HCE := Lib.hid hce
  have HDE := Lib.hid hde
  have GC := Lib.hid hgc
  have GD := Lib.hid hgd
  have S1 := Lib.hid (stamp_new (C := ⟨⟨#[119, 101, 98]⟩, i1, i2, i3, i4, i5⟩) (G := G))
  obtain ⟨R, hR⟩ : ∃ R, newR ⟨⟨#[119, 101, 98]⟩, i1, i2, i3, i4, i5⟩ G = R := ⟨_, rfl⟩
  have F1 : findK [R] sv = some R := by rw [← hR, ← hsv]; exact find_one _ _
  have S2 := Lib.hid (stamp_again (l := [R]) (C := ⟨⟨#[119, 101, 98]⟩, i1, i2, i3, i4, i5⟩) (D := ⟨⟨#[119, 101, 98]⟩, j1, j2, j3, j4, j5⟩) (G := G) rfl (hsv ▸ F1))
  have F1 := Lib.hid F1
  have HR := Lib.hid hR
  rw [hR] at S1
  obtain ⟨cn, c1, c2, c3, c4, c5⟩ := c
  obtain ⟨dn, d1, d2, d3, d4, d5⟩ := d
  unfold Cfg.v at *
  dsimp only at *
  have GC := Lib.hid GC.out
  clear hc hd hl hn ht hG rn ec hce hgc ed hde hgd hsv hR
  go_enter Tryd.func4, Tryd.ntmps4
  go_wp2_with fail
  refine (KN.out _ (HT.out.below (Grow.G.alloc (Grow.G.alloc (Grow.G.refl _) _) _))).mono ?_
  rintro e w1 ⟨rfl, hg⟩
  have H0 := (((Hold.nil w).alloc' Emp.foot [.string cn, .int .i64 c1, .int .i64 c2, .int .i64 c3, .int .i64 c4, .int .i64 c5] 33 rfl).alloc' Emp.foot [.string dn, .int .i64 d1, .int .i64 d2, .int .i64 d3, .int .i64 d4, .int .i64 d5] 33 (g := w.heap.size + 1) (by simp)).grow Emp.foot hg
  simp only [K0, K1, L1, L2, K2, K3, K4, K5, K6, K7, Nat.reduceAdd, Nat.reduceSub] at H0
  have H := Lib.hid H0
  clear H0 hg
  go_wp2_with fail
  refine (hold_bknew H.out FE.out).mono ?_
  rintro e w2 ⟨g, rfl, hh⟩
  replace H := Lib.hid hh
  clear hh KN
  go_wp2_with fail
  refine (WN.out _).mono ?_
  rintro e wx ⟨rfl, rfl⟩
  clear WN
  go_wp2_with fail
  have B0 := Lib.hid (H.out.mem.blk (i := 0) rfl)
  have B1 := Lib.hid (H.out.mem.blk (i := 1) rfl)
  have l0 := B0.out.lt
  have l1 := B1.out.lt
  have HK := H
  refine wp_spec (fun a0 A W => ∃ x28 x29 x30 x31 : Value, ∃ (bx bY : Nat), A = ((((((a0.put (some 11) (.pointer (some ⟨bx, 0, none⟩))).put (some 12) (.pointer (some ⟨bY, 0, none⟩))).put (some 28) x28).put (some 29) x29).put (some 30) x30).put (some 31) x31) ∧ Hid (Hold w W [(w.heap.size, [.string cn, .int .i64 c1, .int .i64 c2, .int .i64 c3, .int .i64 c4, .int .i64 c5], 33), (w.heap.size + 1, [.string dn, .int .i64 d1, .int .i64 d2, .int .i64 d3, .int .i64 d4, .int .i64 d5], 33), (bx, [.string ⟨#[119, 101, 98]⟩, .int .i64 i1, .int .i64 i2, .int .i64 i3, .int .i64 i4, .int .i64 i5], 33), (bY, [.string ⟨#[119, 101, 98]⟩, .int .i64 j1, .int .i64 j2, .int .i64 j3, .int .i64 j4, .int .i64 j5], 33)] (Sep (BkB g []) Emp))) ?_ ?_
  all_goals simp only [Act.put, L0, L1, L2]
  ·
    refine Evo2.start' (ℓ := some 7) (S := Chg (fun j => w2.heap.size ≤ j)) (E := Grow.G) (by kernel_rfl) ⟨Chg.pre _, by decide +kernel, (by intro c a d v w h; cases d <;> exact h), by decide +kernel⟩ (fun ok => ?_)
    first | (refine Evo2.val ok 0 ?_ ?_ ?_; rotate_left; (focus (intro w' hg; refine Box.exec_loadAll ?_ Tryd.underlying33 CE (B0.out.chg (Chg.trans (Chg.refl (fun j => w2.heap.size ≤ j) _) hg) (by omega)) ?_; (all_goals (first | exact ⟨rfl, rfl⟩ | rfl)))); simp only [Act.put, L0, L1, L2]) | (refine Evo2.val ok 0 ?_ ?_ ?_; rotate_left; (focus (intro w' hg; refine Box.exec_loadAll ?_ Tryd.underlying33 CE (B1.out.chg (Chg.trans (Chg.refl (fun j => w2.heap.size ≤ j) _) hg) (by omega)) ?_; (all_goals (first | exact ⟨rfl, rfl⟩ | rfl)))); simp only [Act.put, L0, L1, L2]) | (refine Evo2.va ok 0 _ _ ?_)
    (refine Evo2.cal ok 1 ?_ 14 ?_ ?_ ?_ ?_; rotate_left 2; (focus (intro w'; go_simp <;> with_reducible rfl)); (focus (intro w' g'; with_reducible exact GC.out w')); simp only [Act.put, L0, L1, L2])
    first | (refine Evo2.val ok 2 ?_ ?_ ?_; rotate_left; (focus (intro w' hg; refine Box.exec_loadAll ?_ Tryd.underlying33 CE (B0.out.chg (Chg.trans (Chg.refl (fun j => w2.heap.size ≤ j) _) hg) (by omega)) ?_; (all_goals (first | exact ⟨rfl, rfl⟩ | rfl)))); simp only [Act.put, L0, L1, L2]) | (refine Evo2.val ok 2 ?_ ?_ ?_; rotate_left; (focus (intro w' hg; refine Box.exec_loadAll ?_ Tryd.underlying33 CE (B1.out.chg (Chg.trans (Chg.refl (fun j => w2.heap.size ≤ j) _) hg) (by omega)) ?_; (all_goals (first | exact ⟨rfl, rfl⟩ | rfl)))); simp only [Act.put, L0, L1, L2]) | (refine Evo2.va ok 2 _ _ ?_)
    (refine Evo2.cal ok 3 ?_ 14 ?_ ?_ ?_ ?_; rotate_left 2; (focus (intro w'; go_simp <;> with_reducible rfl)); (focus (intro w' g'; with_reducible exact GD.out w')); simp only [Act.put, L0, L1, L2])
    refine Evo2.all [4, 5] (by decide +kernel) rfl ?_
    intro wp1 gp1 iq hq
    simp only [List.mem_cons, List.mem_nil_iff, or_false] at hq
    have AP1 := Chg.trans (Chg.refl (fun j => w2.heap.size ≤ j) _) (Chg.grow gp1)
    replace HK := Lib.hid (HK.out.grow (FP.out _ _) gp1)
    rcases hq with rfl | rfl
    ·
      refine Evo2.runs (by rfl) (by rfl) (fun K' hK' => ?_)
      go_simp
      (try (simp only [Evo.after_value, Evo.after_skip]))
      refine hK'.out _ _ ?_
      clear hK'
      simp only [Act.put, L0, L1, L2]
      refine ⟨.inr (Chg.alloc (Chg.refl _ _) _), ?_⟩
      generalize hG1 : World.alloc wp1 _ = wg1
      have GG1 : Grow.G wp1 wg1 := hG1 ▸ Grow.G.alloc (Grow.G.refl _) _
      have NC1 := (congrArg (fun W : World => W.heap[wp1.heap.size]?) hG1).symm.trans (MapKept.heap_alloc wp1 _).1
      have NL1 : wp1.heap.size < wg1.heap.size := by rw [← hG1]; simp
      clear hG1
      replace HK := Lib.hid (HK.out.add (FP.out _ _) GG1 (b := wp1.heap.size) (cs := [.string ⟨#[]⟩, .int .i64 0, .int .i64 0, .int .i64 0, .int .i64 0, .int .i64 0]) NC1 (Nat.le_refl _)); have LO1 := AP1.size
      refine Evo2.all [5] (by decide +kernel) rfl ?_
      intro wp2 gp2 iq hq
      simp only [List.mem_cons, List.mem_nil_iff, or_false] at hq
      have AP2 := Chg.trans (Chg.trans AP1 (Chg.grow GG1)) (Chg.grow gp2)
      replace HK := Lib.hid (HK.out.grow (FP.out _ _) gp2)
      have NC1 := (gp2.block _ NL1).trans NC1
      have NL1 := Nat.lt_of_lt_of_le NL1 gp2.size
      subst hq
      refine Evo2.runs (by rfl) (by rfl) (fun K' hK' => ?_)
      go_simp
      (try (simp only [Evo.after_value, Evo.after_skip]))
      refine hK'.out _ _ ?_
      clear hK'
      simp only [Act.put, L0, L1, L2]
      refine ⟨.inr (Chg.alloc (Chg.refl _ _) _), ?_⟩
      generalize hG2 : World.alloc wp2 _ = wg2
      have GG2 : Grow.G wp2 wg2 := hG2 ▸ Grow.G.alloc (Grow.G.refl _) _
      have NC1 := (GG2.block _ NL1).trans NC1
      have NL1 := Nat.lt_of_lt_of_le NL1 GG2.size
      have NC2 := (congrArg (fun W : World => W.heap[wp2.heap.size]?) hG2).symm.trans (MapKept.heap_alloc wp2 _).1
      have NL2 : wp2.heap.size < wg2.heap.size := by rw [← hG2]; simp
      clear hG2
      replace HK := Lib.hid (HK.out.add (FP.out _ _) GG2 (b := wp2.heap.size) (cs := [.string ⟨#[]⟩, .int .i64 0, .int .i64 0, .int .i64 0, .int .i64 0, .int .i64 0]) NC2 (Nat.le_refl _)); have LO2 := AP2.size
      refine Evo2.all [6] (by decide +kernel) rfl ?_
      intro wp3 gp3 iq hq
      simp only [List.mem_cons, List.mem_nil_iff, or_false] at hq
      have AP3 := Chg.trans (Chg.trans AP2 (Chg.grow GG2)) (Chg.grow gp3)
      replace HK := Lib.hid (HK.out.grow (FP.out _ _) gp3)
      have NC1 := (gp3.block _ NL1).trans NC1
      have NL1 := Nat.lt_of_lt_of_le NL1 gp3.size
      have NC2 := (gp3.block _ NL2).trans NC2
      have NL2 := Nat.lt_of_lt_of_le NL2 gp3.size
      subst hq
      refine upStoreAll (by rfl) (by rfl) rfl rfl rfl (n := 6) (by kernel_rfl) (by first | exact HK.out.mem.blk (i := 2) rfl | exact HK.out.mem.blk (i := 3) rfl) rfl rfl rfl ?_
      intro wc3 BZ CW3
      have CH3 : Chg (fun j => w2.heap.size ≤ j) _ _ := CW3.mono (fun j _ e => by have e : j = _ := e; show _ ≤ j; omega)
      replace HK := Lib.hid (by first | exact HK.out.set (FP.out _ _) (i := 2) rfl BZ CW3 | exact HK.out.set (FP.out _ _) (i := 3) rfl BZ CW3)
      refine ⟨.inr CH3, ?_⟩
      simp only [Act.put, L0, L1, L2]
      refine Evo2.all [7] (by decide +kernel) rfl ?_
      intro wp4 gp4 iq hq
      simp only [List.mem_cons, List.mem_nil_iff, or_false] at hq
      have AP4 := Chg.trans (Chg.trans AP3 CH3) (Chg.grow gp4)
      replace HK := Lib.hid (HK.out.grow (FP.out _ _) gp4)
      subst hq
      refine upStoreAll (by rfl) (by rfl) rfl rfl rfl (n := 6) (by kernel_rfl) (by first | exact HK.out.mem.blk (i := 2) rfl | exact HK.out.mem.blk (i := 3) rfl) rfl rfl rfl ?_
      intro wc4 BZ CW4
      have CH4 : Chg (fun j => w2.heap.size ≤ j) _ _ := CW4.mono (fun j _ e => by have e : j = _ := e; show _ ≤ j; omega)
      replace HK := Lib.hid (by first | exact HK.out.set (FP.out _ _) (i := 2) rfl BZ CW4 | exact HK.out.set (FP.out _ _) (i := 3) rfl BZ CW4)
      refine ⟨.inl (by first | rfl | trivial), ?_⟩
      simp only [Act.put, L0, L1, L2]
      refine Evo2.done (by decide +kernel) (fun wz gz => ?_)
      have AZ := Chg.trans (Chg.trans AP4 CH4) (Chg.grow gz)
      replace HK := Lib.hid (HK.out.grow (FP.out _ _) gz)
      dsimp only [PostN] 
      have HZ := HK.out 
      simp only [List.nil_append, List.cons_append, List.set_cons_zero, List.set_cons_succ] at HZ 
      (repeat apply Exists.intro) 
      refine ⟨rfl, Lib.hid ?_⟩ 
      first | exact HZ | exact HZ.perm (List.Perm.cons _ (List.Perm.cons _ (List.Perm.swap _ _ [])))
    ·
      refine Evo2.runs (by rfl) (by rfl) (fun K' hK' => ?_)
      go_simp
      (try (simp only [Evo.after_value, Evo.after_skip]))
      refine hK'.out _ _ ?_
      clear hK'
      simp only [Act.put, L0, L1, L2]
      refine ⟨.inr (Chg.alloc (Chg.refl _ _) _), ?_⟩
      generalize hG1 : World.alloc wp1 _ = wg1
      have GG1 : Grow.G wp1 wg1 := hG1 ▸ Grow.G.alloc (Grow.G.refl _) _
      have NC1 := (congrArg (fun W : World => W.heap[wp1.heap.size]?) hG1).symm.trans (MapKept.heap_alloc wp1 _).1
      have NL1 : wp1.heap.size < wg1.heap.size := by rw [← hG1]; simp
      clear hG1
      replace HK := Lib.hid (HK.out.add (FP.out _ _) GG1 (b := wp1.heap.size) (cs := [.string ⟨#[]⟩, .int .i64 0, .int .i64 0, .int .i64 0, .int .i64 0, .int .i64 0]) NC1 (Nat.le_refl _)); have LO1 := AP1.size
      refine Evo2.all [4] (by decide +kernel) rfl ?_
      intro wp2 gp2 iq hq
      simp only [List.mem_cons, List.mem_nil_iff, or_false] at hq
      have AP2 := Chg.trans (Chg.trans AP1 (Chg.grow GG1)) (Chg.grow gp2)
      replace HK := Lib.hid (HK.out.grow (FP.out _ _) gp2)
      have NC1 := (gp2.block _ NL1).trans NC1
      have NL1 := Nat.lt_of_lt_of_le NL1 gp2.size
      subst hq
      refine Evo2.runs (by rfl) (by rfl) (fun K' hK' => ?_)
      go_simp
      (try (simp only [Evo.after_value, Evo.after_skip]))
      refine hK'.out _ _ ?_
      clear hK'
      simp only [Act.put, L0, L1, L2]
      refine ⟨.inr (Chg.alloc (Chg.refl _ _) _), ?_⟩
      generalize hG2 : World.alloc wp2 _ = wg2
      have GG2 : Grow.G wp2 wg2 := hG2 ▸ Grow.G.alloc (Grow.G.refl _) _
      have NC1 := (GG2.block _ NL1).trans NC1
      have NL1 := Nat.lt_of_lt_of_le NL1 GG2.size
      have NC2 := (congrArg (fun W : World => W.heap[wp2.heap.size]?) hG2).symm.trans (MapKept.heap_alloc wp2 _).1
      have NL2 : wp2.heap.size < wg2.heap.size := by rw [← hG2]; simp
      clear hG2
      replace HK := Lib.hid (HK.out.add (FP.out _ _) GG2 (b := wp2.heap.size) (cs := [.string ⟨#[]⟩, .int .i64 0, .int .i64 0, .int .i64 0, .int .i64 0, .int .i64 0]) NC2 (Nat.le_refl _)); have LO2 := AP2.size
      refine Evo2.all [6] (by decide +kernel) rfl ?_
      intro wp3 gp3 iq hq
      simp only [List.mem_cons, List.mem_nil_iff, or_false] at hq
      have AP3 := Chg.trans (Chg.trans AP2 (Chg.grow GG2)) (Chg.grow gp3)
      replace HK := Lib.hid (HK.out.grow (FP.out _ _) gp3)
      have NC1 := (gp3.block _ NL1).trans NC1
      have NL1 := Nat.lt_of_lt_of_le NL1 gp3.size
      have NC2 := (gp3.block _ NL2).trans NC2
      have NL2 := Nat.lt_of_lt_of_le NL2 gp3.size
      subst hq
      refine upStoreAll (by rfl) (by rfl) rfl rfl rfl (n := 6) (by kernel_rfl) (by first | exact HK.out.mem.blk (i := 2) rfl | exact HK.out.mem.blk (i := 3) rfl) rfl rfl rfl ?_
      intro wc3 BZ CW3
      have CH3 : Chg (fun j => w2.heap.size ≤ j) _ _ := CW3.mono (fun j _ e => by have e : j = _ := e; show _ ≤ j; omega)
      replace HK := Lib.hid (by first | exact HK.out.set (FP.out _ _) (i := 2) rfl BZ CW3 | exact HK.out.set (FP.out _ _) (i := 3) rfl BZ CW3)
      refine ⟨.inr CH3, ?_⟩
      simp only [Act.put, L0, L1, L2]
      refine Evo2.all [7] (by decide +kernel) rfl ?_
      intro wp4 gp4 iq hq
      simp only [List.mem_cons, List.mem_nil_iff, or_false] at hq
      have AP4 := Chg.trans (Chg.trans AP3 CH3) (Chg.grow gp4)
      replace HK := Lib.hid (HK.out.grow (FP.out _ _) gp4)
      subst hq
      refine upStoreAll (by rfl) (by rfl) rfl rfl rfl (n := 6) (by kernel_rfl) (by first | exact HK.out.mem.blk (i := 2) rfl | exact HK.out.mem.blk (i := 3) rfl) rfl rfl rfl ?_
      intro wc4 BZ CW4
      have CH4 : Chg (fun j => w2.heap.size ≤ j) _ _ := CW4.mono (fun j _ e => by have e : j = _ := e; show _ ≤ j; omega)
      replace HK := Lib.hid (by first | exact HK.out.set (FP.out _ _) (i := 2) rfl BZ CW4 | exact HK.out.set (FP.out _ _) (i := 3) rfl BZ CW4)
      refine ⟨.inl (by first | rfl | trivial), ?_⟩
      simp only [Act.put, L0, L1, L2]
      refine Evo2.done (by decide +kernel) (fun wz gz => ?_)
      have AZ := Chg.trans (Chg.trans AP4 CH4) (Chg.grow gz)
      replace HK := Lib.hid (HK.out.grow (FP.out _ _) gz)
      dsimp only [PostN] 
      have HZ := HK.out 
      simp only [List.nil_append, List.cons_append, List.set_cons_zero, List.set_cons_succ] at HZ 
      (repeat apply Exists.intro) 
      refine ⟨rfl, Lib.hid ?_⟩ 
      first | exact HZ | exact HZ.perm (List.Perm.cons _ (List.Perm.cons _ (List.Perm.swap _ _ [])))
  ·
    rintro A W3 ⟨x28, x29, x30, x31, bx, bY, rfl, H6⟩
    replace H := H6
    clear H6 HK B0 B1 l0 l1 GC GD
    go_wp2_with ((refine Mem.loadAll 2 (t := 33) rfl rfl rfl Tryd.underlying33 (n := 6) (by kernel_rfl) H.out.mem rfl rfl ?_))
    refine (hold_bkstamp (st := sv) (bo := true) (l' := [R]) H.out FE.out (tabG HT.out H.out.below) ⟨⟨#[119, 101, 98]⟩, i1, i2, i3, i4, i5⟩ G HCE.out hGb (by decide) HSV.out S1.out.1 S1.out.2).mono ?_
    rintro e w6 ⟨rfl, hh⟩
    replace H := Lib.hid hh
    clear hh
    go_wp2_with ((refine Mem.loadAll 3 (t := 33) rfl rfl rfl Tryd.underlying33 (n := 6) (by kernel_rfl) H.out.mem rfl rfl ?_))
    refine (hold_bkstamp (st := sv) (bo := false) (l' := [R]) H.out FE.out (tabG HT.out H.out.below) ⟨⟨#[119, 101, 98]⟩, j1, j2, j3, j4, j5⟩ G HDE.out hGb (by simp) HSV.out S2.out.1 S2.out.2).mono ?_
    rintro e w7 ⟨rfl, hh⟩
    replace H := Lib.hid hh
    clear hh S1 S2 HCE HDE
    go_wp2_with fail
    go_loopw [17] (fun i wr => ∃ (k : Nat) (l : List Rv), k ≤ 20 ∧ l.length ≤ k + 1 ∧ i = .int .i64 (k : Int) ∧ Hid (findK l sv = some R) ∧ Hid (Hold w wr [(w.heap.size, [.string cn, .int .i64 c1, .int .i64 c2, .int .i64 c3, .int .i64 c4, .int .i64 c5], 33), (w.heap.size + 1, [.string dn, .int .i64 d1, .int .i64 d2, .int .i64 d3, .int .i64 d4, .int .i64 d5], 33), (bx, [.string ⟨#[119, 101, 98]⟩, .int .i64 i1, .int .i64 i2, .int .i64 i3, .int .i64 i4, .int .i64 i5], 33), (bY, [.string ⟨#[119, 101, 98]⟩, .int .i64 j1, .int .i64 j2, .int .i64 j3, .int .i64 j4, .int .i64 j5], 33)] (Sep (BkB g l) Emp))) (fun i _ => 20 - (_root_.Go.RowKit.intOf i).toNat)
    case atStart => exact ⟨0, [R], by omega, by simp, rfl, F1, H⟩
    case round =>
      clear H F1
      obtain ⟨k, l, hk, hll, rfl, FR, H⟩ := hrel
      have hk1 : IntKind.i64.wrap ((k : Int) + 1) = (k : Int) + 1 := IntWalk.i64_in _ ⟨by omega, by omega⟩
      by_cases h12 : k < xs.length ∧ k < 20
      · obtain ⟨h1, h2⟩ := h12
        obtain ⟨x, hx⟩ : ∃ x, xs[k]? = some x := ⟨_, List.getElem?_eq_getElem h1⟩
        obtain ⟨b, off, rfl, hcc⟩ := HX.out.at hx
        have ok := HX.out.ok x (List.mem_of_getElem? hx)
        obtain ⟨xk, xn, xm, ⟨e0, e1, e2, e3, e4, e5⟩⟩ := x
        obtain ⟨s, f1, f2, f3, f4, f5, ef, hfe, hgf⟩ := gcfg_some ⟨e0, e1, e2, e3, e4, e5⟩ xm ok.c ok.n
        have GF := Lib.hid hgf
        have HFE := Lib.hid hfe
        have HC := Lib.hid hcc
        have WK := Lib.hid (fun w => quiet12 (within12_any xn 99 w (by omega) (by omega) ok.g.1 ok.g.2))
        have rk := withinI_range xn 99 (by omega)
        obtain ⟨Q, hQ⟩ : ∃ Q, 1 + withinI xn 99 = Q := ⟨_, rfl⟩
        have hwq : IntKind.i64.wrap (1 + withinI xn 99) = Q := by rw [hQ]; exact IntWalk.i64_in _ ⟨by omega, by omega⟩
        have hQb : 1 ≤ Q ∧ Q ≤ 999999 := by omega
        have d1' : decide ((k : Int) < (xs.length : Int)) = true := decide_eq_true (by omega)
        have d2' : decide ((k : Int) < 20) = true := decide_eq_true (by omega)
        have k1 : (0 : Int) ≤ (k : Int) := by omega
        have k2 : (k : Int) < (xs.length : Int) := by omega
        obtain ⟨F, hF⟩ := H.out.named
        have HF := Lib.hid hF
        obtain ⟨bo, hbo⟩ : ∃ bo, newK l ⟨s, f1, f2, f3, f4, f5⟩ Q = bo := ⟨_, rfl⟩
        obtain ⟨ln, hln⟩ : ∃ ln, putK l ⟨s, f1, f2, f3, f4, f5⟩ Q = ln := ⟨_, rfl⟩
        obtain ⟨rs, hrs⟩ : ∃ rs, revS s Q = rs := ⟨_, rfl⟩
        have P4 : ln.length ≤ k + 1 + 1 := by have := putK_len l ⟨s, f1, f2, f3, f4, f5⟩ Q; rw [hln] at this; omega
        have FN : Hid (findK ln sv = some R) := Lib.hid (by rw [← hln]; exact find_stays FR.out)
        have ST := Lib.hid (fun (w' : World) (L : List MBox) (h : HoldF w w' L (Sep (BkB g l) Emp) F) => hold_bkstampF (st := rs) h (tabG HT.out h.mem.below) ⟨s, f1, f2, f3, f4, f5⟩ Q HFE.out hQb (by omega) hrs hbo hln)
        unfold Cfg.v at ST
        dsimp only at ST
        have KC := Lib.hid (fun (w' : World) (h : Chg F wr w') => (have q := HC.out w' (HF.out.mem.below.trans (h.base HF.out.mem.size HF.out.lo)); ⟨q 1 _ rfl, q 2 _ rfl, q 3 _ rfl, q 4 _ rfl, q 5 _ rfl, q 6 _ rfl, q 7 _ rfl, q 8 _ rfl, trivial⟩ : w'.cell? ⟨b, off + k * 9 + 1, none⟩ = some (.int .i64 xn) ∧ w'.cell? ⟨b, off + k * 9 + 2, none⟩ = some (.int .i64 xm) ∧ w'.cell? ⟨b, off + k * 9 + 3, none⟩ = some (.string e0) ∧ w'.cell? ⟨b, off + k * 9 + 4, none⟩ = some (.int .i64 e1) ∧ w'.cell? ⟨b, off + k * 9 + 5, none⟩ = some (.int .i64 e2) ∧ w'.cell? ⟨b, off + k * 9 + 6, none⟩ = some (.int .i64 e3) ∧ w'.cell? ⟨b, off + k * 9 + 7, none⟩ = some (.int .i64 e4) ∧ w'.cell? ⟨b, off + k * 9 + 8, none⟩ = some (.int .i64 e5) ∧ True))
        clear hF hbo hln hrs hx hcc ok ef hfe hgf rk hQ FR H
        go_wp2_with fail
        refine Evo2.start' (ℓ := none) (S := Chg (F)) (E := Grow.G) (by kernel_rfl) ⟨Chg.pre _, by decide +kernel, (by intro c a d v w h; cases d <;> exact h), by decide +kernel⟩ (fun ok => ?_)
        refine Evo2.va ok 0 _ _ ?_
        refine Evo2.va ok 1 _ _ ?_
        refine Evo2.va ok 2 _ _ ?_
        refine Evo2.va ok 3 _ _ ?_
        refine Evo2.va ok 4 _ _ ?_
        first | (refine Evo2.vl ok 5 KC.out (Chg.refl (F) _) _ _ ?_) | (refine Evo2.va ok 5 _ _ ?_)
        refine Evo2.va ok 6 _ _ ?_
        refine Evo2.va ok 7 _ _ ?_
        refine Evo2.va ok 8 _ _ ?_
        refine Evo2.va ok 9 _ _ ?_
        first | (refine Evo2.vl ok 10 KC.out (Chg.refl (F) _) _ _ ?_) | (refine Evo2.va ok 10 _ _ ?_)
        (refine Evo2.cal ok 11 ?_ 14 ?_ ?_ ?_ ?_; rotate_left 2; (focus (intro w'; go_simp <;> with_reducible rfl)); (focus (intro w' g'; with_reducible exact GF.out w')); simp only [Act.put, L0, L1, L2])
        refine Evo2.va ok 12 _ _ ?_
        refine Evo2.va ok 13 _ _ ?_
        refine Evo2.va ok 14 _ _ ?_
        refine Evo2.va ok 15 _ _ ?_
        first | (refine Evo2.vl ok 16 KC.out (Chg.refl (F) _) _ _ ?_) | (refine Evo2.va ok 16 _ _ ?_)
        (refine Evo2.cal ok 17 ?_ 13 ?_ ?_ ?_ ?_; rotate_left 2; (focus (intro w'; go_simp <;> with_reducible rfl)); (focus (intro w' g'; with_reducible exact WK.out w')); simp only [Act.put, L0, L1, L2])
        refine Evo2.va ok 18 _ _ ?_
        refine Evo2.all [19] (by decide +kernel) rfl ?_
        intro wp1 gp1 iq hq
        simp only [List.mem_cons, List.mem_nil_iff, or_false] at hq
        have AP1 := Chg.trans (Chg.refl (F) _) (Chg.grow gp1)
        subst hq
        refine Evo2.enters 15 _ (by rfl) (by rfl) (by go_simp; exact ⟨rfl, rfl⟩) ?_
        refine (ST.out wp1 _ (HF.out.grow (FP.out _ _) gp1)).mono ?_
        rintro e wc1 ⟨rfl, H7, CH1⟩
        refine ⟨_, rfl, .inr CH1, ?_⟩
        have AC1 := Chg.trans AP1 CH1
        simp only [Act.put, L0, L1, L2]
        refine Evo2.done (by decide +kernel) (fun wz gz => ?_)
        have AZ := Chg.trans AC1 (Chg.grow gz)
        have H := Lib.hid (H7.grow (FP.out _ _) gz)
        clear H7 AZ gz CH1 KC HF ST
        go_wp2_with fail
        go_roundw
        case rel => exact ⟨k + 1, ln, by omega, by omega, by go_num, FN, H⟩
        case measure => simp [_root_.Go.RowKit.intOf]; omega
      · have hl9 : l.length ≤ 1000 := by omega
        have h3 : ¬ k < xs.length ∨ (k < xs.length ∧ ¬ k < 20) := by omega
        have RC : R.cells = [.string sv, .int .i64 G, .string ⟨#[119, 101, 98]⟩, .int .i64 i1, .int .i64 i2, .int .i64 i3, .int .i64 i4, .int .i64 i5] := by rw [← HR.out, ← HSV.out]; rfl
        have g1 : getK l sv = R := by unfold getK; rw [FR.out]; rfl
        have g2 : hasK l sv = true := by unfold hasK; rw [FR.out]; rfl
        have g3 : prvK l sv = false := by unfold prvK; rw [FR.out, ← HR.out]; rfl
        have GG := Lib.hid (fun (w' : World) (L : List MBox) (h : Hold w w' L (Sep (BkB g l) Emp)) => hold_bkget (r := R) (bo := true) h FE.out (tabG HT.out h.below) sv (by omega) hl9 g1 g2)
        rw [RC] at GG
        have GP := Lib.hid (fun (w' : World) (L : List MBox) (h : Hold w w' L (Sep (BkB g l) Emp)) => hold_bkproved (bo := false) h FE.out sv (by omega) hl9 g3)
        have EQ := eql_self_rv sv ⟨#[119, 101, 98]⟩ G i1 i2 i3 i4 i5
        clear h12 RC g1 g2 g3 FR
        rcases h3 with z1 | ⟨z1, z2⟩
        case' inl => have d1' : decide ((k : Int) < (xs.length : Int)) = false := decide_eq_false (by omega)
        case' inr =>
          have d1' : decide ((k : Int) < (xs.length : Int)) = true := decide_eq_true (by omega)
          have d2' : decide ((k : Int) < 20) = false := decide_eq_false (by omega)
        all_goals
          go_wp2_with fail
          refine (GG.out _ _ H.out).mono ?_
          rintro e w8 ⟨rfl, -, hh⟩
          replace H := Lib.hid hh
          clear hh
          go_wp2_with ((refine Hold.storeAll 4 (t := 46) (FP.out g _) rfl rfl rfl rfl (n := 8) (by kernel_rfl) (Hold.alloc' H.out (FP.out g _) _ _ rfl) rfl rfl rfl rfl ?_; intro W9 HMm CW9))
          simp only [K0, K1, L1, L2, K2, K3, K4, K5, K6, K7, Nat.reduceAdd, Nat.reduceSub] at HMm
          replace H := Lib.hid HMm
          clear HMm
          refine Stay.go ?_
          go_wp2_with fail
          refine (RV.out _).mono ?_
          rintro e w10 ⟨rfl, g10⟩
          replace H := Lib.hid (H.out.grow (FP.out _ _) g10)
          clear g10
          go_wp2_with (first | (with_reducible refine Mem.isList ?_; refine loadAllW 4 (t := 46) rfl rfl rfl Tryd.underlying46 (n := 8) (by kernel_rfl) H.out.mem rfl rfl ?_) | (with_reducible refine Mem.isList ?_; refine loadAllW 2 (t := 33) rfl rfl rfl Tryd.underlying33 (n := 6) (by kernel_rfl) H.out.mem rfl rfl ?_))
          refine (GP.out _ _ H.out).mono ?_
          rintro e w11 ⟨rfl, -, hh⟩
          replace H := Lib.hid hh
          clear hh
          go_wp2_with fail
          go_ret
          exact ⟨rfl, H.out.below⟩
end Go.Proofs.YtjcdmnogmpjkkaaDoor


/- The walk of ScaleAgain. -/
import Derived.Test.YtifkombocmdmfaaZ71
namespace Go.Proofs.Ytifkombocmdmfaa
set_option maxRecDepth 100000
set_option linter.unusedVariables false
set_option linter.unusedSimpArgs false
set_option linter.unnecessarySimpa false
open Go.RowKit

theorem again_start {A : Int} {c : Sc.C} {x r : Int} (hx : 0 ≤ x ∧ x ≤ 10) (hr : 0 ≤ r ∧ r ≤ 10) : Sc.At A c 0 x 0 r := ⟨hx, Sc.l0, hr, fun h => by omega, fun h => by omega, fun h => by omega, fun h => by omega⟩
set_option maxHeartbeats 32000000 in
theorem walkScaleAgain (w : World) (c : Cfg) (hc : c.wf ∧ c.nm.size ≤ 140737488351232) (n : Int) (hn : wf64 n) (q : Int) (hq : wf64 q) :
    Calls Try.prog 9 #[c.v, .int .i64 n, .int .i64 q] w fun e w' => e = .returned (.bool true) ∧ Below w.heap.size w w' := by
  have KN := Lib.hid (fun w => known10_any w)
  have FE := Lib.hid Emp.foot
  have GC := Lib.hid (fun w => gcfg_any c 0 w hc.1 (by unfold wf64; omega))
  have hd := scC_ok c 0
  have t1 := tdiv_wf hq 11 (by omega)
  have WA := Lib.hid (fun w => within10_any n 80 w (by omega) (by omega) hn.1 hn.2)
  have WB := Lib.hid (fun w => within10_any q 11 w (by omega) (by omega) hq.1 hq.2)
  have WC := Lib.hid (fun w => within10_any (q.tdiv 11) 11 w (by omega) (by omega) t1.1 t1.2)
  have HWT := Lib.hid (show wrap64 (q.tdiv 11) = q.tdiv 11 from IntWalk.wrap64_in _ (by unfold wf64 at t1; omega))
  have ab := withinI_range n 80 (by omega)
  have xb := withinI_range q 11 (by omega)
  have rb := withinI_range (q.tdiv 11) 11 (by omega)
  generalize withinI n 80 = a at *
  generalize withinI q 11 = x at *
  generalize withinI (q.tdiv 11) 11 = r at *
  obtain ⟨v, hv⟩ : ∃ v, 1 + a = v := ⟨_, rfl⟩
  have hv8 : 1 ≤ v ∧ v ≤ 80 := by omega
  have wv : IntKind.i64.wrap (1 + a) = v := by rw [hv]; exact IntWalk.i64_in _ ⟨by omega, by omega⟩
  clear ab hv
  have DQ := Lib.hid (fun (W L R : Int) (hW : 0 ≤ W ∧ W ≤ 10) (hL : 0 ≤ L ∧ L ≤ 6) (hR : 0 ≤ R ∧ R ≤ 10) => fun w => decide_any (Sc.same v W L R) (gCfg c 0) w (Sc.same_ok hv8 hW hL hR) hd)
  have NX := Lib.hid (fun (W L R : Int) k h => Sc.At.next (wt := W) (lf := L) (rd := R) (k := k) hv8 hd h)
  have DN := Lib.hid (fun (W L R : Int) h => Sc.At.done (wt := W) (lf := L) (rd := R) hv8 hd h)
  have RN := Lib.hid (fun w => quietG0 (rneed_any (6 * v) 6 (gCfg c 0).co w ⟨by omega, by omega⟩ Sc.k6 hd.co))
  have HMX := hd.mx; have HMN := hd.mn
  clear hd hc hn hq t1
  have EN : (scC (gCfg c 0)).co = (gCfg c 0).co := rfl
  rw [EN] at NX DN
  generalize Sc.need (6 * v) 6 (gCfg c 0).co = N at *
  clear EN
  generalize gCfg c 0 = d at *
  obtain ⟨cn, c1, c2, c3, c4, c5⟩ := c
  obtain ⟨dn, d1, d2, d3, d4, d5⟩ := d
  unfold Sc.G.args Sc.same at DQ
  unfold Sc.same at NX DN
  unfold Cfg.v at *
  dsimp only at *
  have w6 : IntKind.i64.wrap (6 * v) = 6 * v := IntWalk.i64_in _ ⟨by omega, by omega⟩
  have w2 : IntKind.i64.wrap (2 * v) = 2 * v := IntWalk.i64_in _ ⟨by omega, by omega⟩
  go_enter Try.func9, Try.ntmps9
  go_wp2_with fail
  refine (KN.out _).mono ?_
  rintro e w1 ⟨rfl, hg⟩
  have H0 := ((Hold.nil w).alloc' Emp.foot [.string cn, .int .i64 c1, .int .i64 c2, .int .i64 c3, .int .i64 c4, .int .i64 c5] 25 rfl).grow Emp.foot hg
  simp only [K0, K1, L1, L2, K2, K3, K4, K5, K6, K7, Nat.reduceAdd, Nat.reduceSub] at H0
  have H := Lib.hid H0
  clear H0 hg
  go_wp2_with ((refine Mem.loadAll 0 (t := 25) rfl rfl rfl Try.underlying25 (n := 6) (by kernel_rfl) H.out.mem rfl rfl ?_))
  refine (GC.out _).mono ?_
  rintro e w3 ⟨rfl, hg⟩
  replace H := Lib.hid (H.out.grow FE.out hg)
  clear hg GC
  go_wp2_with ((refine Hold.storeAll 1 (t := 25) FE.out rfl rfl rfl rfl (n := 6) (by kernel_rfl) (Hold.alloc' H.out FE.out _ _ rfl) rfl rfl rfl rfl ?_; intro W3 HMm CW3))
  simp only [K0, K1, L1, L2, K2, K3, K4, K5, K6, K7, Nat.reduceAdd, Nat.reduceSub] at HMm
  replace H := Lib.hid HMm
  clear HMm
  refine Stay.go ?_
  go_wp2_with fail
  refine (WA.out _).mono ?_
  rintro e wx ⟨rfl, rfl⟩
  go_wp2_with fail
  refine (WB.out _).mono ?_
  rintro e wx ⟨rfl, rfl⟩
  go_wp2_with ((refine Hold.storeAll 2 (t := 30) FE.out rfl rfl rfl rfl (n := 2) (by kernel_rfl) (Hold.alloc' H.out FE.out _ _ rfl) rfl rfl rfl rfl ?_; intro W4 HMm CW4))
  simp only [K0, K1, L1, L2, K2, K3, K4, K5, K6, K7, Nat.reduceAdd, Nat.reduceSub] at HMm
  replace H := Lib.hid HMm
  clear HMm
  refine Stay.go ?_
  have wt := HWT.out
  go_wp2_with fail
  refine (WC.out _).mono ?_
  rintro e wx ⟨rfl, rfl⟩
  clear wt WA WB WC wv
  go_wp2_with fail
  go_loopw [10, 11] (fun u i wr => ∃ (k : Nat) (W L R : Int), k ≤ 30 ∧ i = .int .i64 k ∧ u = .int .i64 R ∧ Hid (Sc.At N (scC ⟨dn, d1, d2, d3, d4, d5⟩) k W L R) ∧ Hid (Hold w wr [(w.heap.size, [.string cn, .int .i64 c1, .int .i64 c2, .int .i64 c3, .int .i64 c4, .int .i64 c5], 25), (w3.heap.size, [.string dn, .int .i64 d1, .int .i64 d2, .int .i64 d3, .int .i64 d4, .int .i64 d5], 25), (W3.heap.size, [.int .i64 W, .int .i64 L], 30)] Emp)) (fun _ i _ => 30 - (intOf i).toNat)
  case atStart => exact ⟨0, x, 0, r, by omega, rfl, rfl, Lib.hid (again_start (by omega) (by omega)), H⟩
  case round =>
    clear H xb rb
    obtain ⟨k, W, L, R, hk, rfl, rfl, HA, H⟩ := hrel
    by_cases hlt : k < 30
    · have b0 : decide ((k : Int) < 30) = true := decide_eq_true (by omega)
      have hk1 : IntKind.i64.wrap ((k : Int) + 1) = (k : Int) + 1 := IntWalk.i64_in _ ⟨by omega, by omega⟩
      have Q := Lib.hid (DQ.out W L R HA.out.w HA.out.l HA.out.r)
      have HA2 := Lib.hid (NX.out W L R k HA.out)
      generalize Sc.want ⟨W, L, R, v, 6 * v, 6, 2 * v, 2, 0⟩ (scC ⟨dn, d1, d2, d3, d4, d5⟩) = W2 at *
      generalize Sc.left ⟨W, L, R, v, 6 * v, 6, 2 * v, 2, 0⟩ (scC ⟨dn, d1, d2, d3, d4, d5⟩) = LE at *
      go_wp2_with (first | (refine Mem.loadAll 2 (t := 30) rfl rfl rfl Try.underlying30 (n := 2) (by kernel_rfl) H.out.mem rfl rfl ?_) | (refine Mem.loadAll 1 (t := 25) rfl rfl rfl Try.underlying25 (n := 6) (by kernel_rfl) H.out.mem rfl rfl ?_))
      refine (Q.out _).mono ?_
      rintro e w6 ⟨rfl, hg⟩
      replace H := Lib.hid (H.out.grow FE.out hg)
      clear hg Q
      go_wp2_with ((refine Hold.storeAll 2 (t := 30) FE.out rfl rfl rfl rfl (n := 2) (by kernel_rfl) H.out rfl rfl rfl rfl ?_; intro W7 HMm CW7))
      simp only [K0, K1, L1, L2, K2, K3, K4, K5, K6, K7, Nat.reduceAdd, Nat.reduceSub] at HMm
      replace H := Lib.hid HMm
      clear HMm
      refine Stay.go ?_
      have c20 := H.out.mem.cell (i := 2) (o := 0) rfl rfl
      go_wp2_with fail
      go_roundw
      case rel => exact ⟨k + 1, W2, LE, W2, by omega, by go_num, rfl, HA2, H⟩
      case measure => simp [intOf]; omega
    · obtain rfl : k = 30 := by omega
      have b0 : decide (((30 : Nat) : Int) < 30) = false := by decide
      obtain ⟨e1, e2, e3, e4, e5⟩ := DN.out W L R HA.out
      have Q := Lib.hid (DQ.out W L R HA.out.w HA.out.l HA.out.r)
      rw [e4] at Q
      generalize Sc.left ⟨W, L, R, v, 6 * v, 6, 2 * v, 2, 0⟩ (scC ⟨dn, d1, d2, d3, d4, d5⟩) = LE at *
      have HW0 := HA.out.w
      have HE := Lib.hid (And.intro e2 (And.intro e3 (And.intro e5 HW0)))
      clear e1 e2 e3 e4 e5 DN NX DQ HA HW0
      go_wp2_with fail
      have B1 := Lib.hid (H.out.mem.blk (i := 1) rfl)
      have KC := Lib.hid (fun (w' : World) (h : Chg (fun _ => False) wr w') => (⟨h.cell ((B1.out.cell 3).trans rfl) (fun h => h), h.cell ((B1.out.cell 4).trans rfl) (fun h => h), h.cell ((B1.out.cell 2).trans rfl) (fun h => h), trivial⟩ : w'.cell? ⟨w3.heap.size, 3, none⟩ = some (.int .i64 d3) ∧ w'.cell? ⟨w3.heap.size, 4, none⟩ = some (.int .i64 d4) ∧ w'.cell? ⟨w3.heap.size, 2, none⟩ = some (.int .i64 d2) ∧ True))
      refine wp_spec (fun a0 A W => ∃ x42 x43 x44 x45 x46 x47 x48 x49 x50 x51 x52 : Value, ∃ (y : Int), A = ((((((((((((a0.put (some 12) (.int .i64 y)).put (some 42) x42).put (some 43) x43).put (some 44) x44).put (some 45) x45).put (some 46) x46).put (some 47) x47).put (some 48) x48).put (some 49) x49).put (some 50) x50).put (some 51) x51).put (some 52) x52) ∧ y = Sc.goal N (scC ⟨dn, d1, d2, d3, d4, d5⟩) ∧ Grow.G wr W) ?_ ?_
      all_goals simp only [Act.put, L0, L1, L2]
      ·
        refine Evo2.start' (ℓ := none) (S := Chg (fun _ => False)) (E := Grow.G) (by kernel_rfl) ⟨Chg.pre _, by decide +kernel, (by intro c a d v w h; cases d <;> exact h), by decide +kernel⟩ (fun ok => ?_)
        refine Evo2.va ok 0 _ _ ?_
        first | (refine Evo2.vl ok 1 KC.out (Chg.refl (fun _ => False) _) _ _ ?_) | (refine Evo2.va ok 1 _ _ ?_)
        refine Evo2.va ok 2 _ _ ?_
        first | (refine Evo2.vl ok 3 KC.out (Chg.refl (fun _ => False) _) _ _ ?_) | (refine Evo2.va ok 3 _ _ ?_)
        refine Evo2.va ok 4 _ _ ?_
        refine Evo2.va ok 5 _ _ ?_
        refine Evo2.va ok 6 _ _ ?_
        first | (refine Evo2.vl ok 7 KC.out (Chg.refl (fun _ => False) _) _ _ ?_) | (refine Evo2.va ok 7 _ _ ?_)
        (refine Evo2.cal ok 8 ?_ 20 ?_ ?_ ?_ ?_; rotate_left 2; (focus (intro w'; go_simp <;> with_reducible rfl)); (focus (intro w' g'; with_reducible exact RN.out w')); simp only [Act.put, L0, L1, L2])
        refine Evo2.va ok 9 _ _ ?_
        refine Evo2.va ok 10 _ _ ?_
        refine Evo2.va ok 11 _ _ ?_
        refine Evo2.done (by decide +kernel) (fun wz gz => ?_)
        have AZ := Chg.trans (Chg.refl (fun _ => False) _) (Chg.grow gz)
        dsimp only [PostN] 
        (repeat apply Exists.intro) 
        refine ⟨rfl, ?_, AZ.toGrow (fun _ _ h => h)⟩ 
        unfold Sc.goal 
        dsimp only 
        split <;> split <;> omega
      ·
        rintro A W8 ⟨x42, x43, x44, x45, x46, x47, x48, x49, x50, x51, x52, y, rfl, hy, hg⟩
        replace H := Lib.hid (H.out.grow FE.out hg)
        rw [← hy] at HE
        clear hg hy KC B1 RN HMX HMN
        go_wp2_with (first | (refine Mem.loadAll 2 (t := 30) rfl rfl rfl Try.underlying30 (n := 2) (by kernel_rfl) H.out.mem rfl rfl ?_) | (refine Mem.loadAll 1 (t := 25) rfl rfl rfl Try.underlying25 (n := 6) (by kernel_rfl) H.out.mem rfl rfl ?_))
        refine (Q.out _).mono ?_
        rintro e w9 ⟨rfl, hg⟩
        replace H := Lib.hid (H.out.grow FE.out hg)
        clear hg Q
        go_wp2_with ((refine Hold.storeAll 3 (t := 30) FE.out rfl rfl rfl rfl (n := 2) (by kernel_rfl) (Hold.alloc' H.out FE.out _ _ rfl) rfl rfl rfl rfl ?_; intro W9 HMm CW9))
        simp only [K0, K1, L1, L2, K2, K3, K4, K5, K6, K7, Nat.reduceAdd, Nat.reduceSub] at HMm
        replace H := Lib.hid HMm
        clear HMm
        refine Stay.go ?_
        obtain ⟨e2, e3, e5, h0⟩ := HE.out
        have c20 := H.out.mem.cell (i := 2) (o := 0) rfl rfl
        have c21 := H.out.mem.cell (i := 2) (o := 1) rfl rfl
        have c30 := H.out.mem.cell (i := 3) (o := 0) rfl rfl
        have c14 := H.out.mem.cell (i := 1) (o := 4) rfl rfl
        have a1 : decide (y ≤ W) = true := decide_eq_true e2
        have a2 : decide (W ≤ d4) = true := decide_eq_true e3
        have a3 : (W == W) = true := by simp
        by_cases hl : 0 < L
        · have a4 : decide (0 < L) = true := decide_eq_true hl
          clear hl e5 e2 e3 h0
          go_wp2_with fail
          go_ret
          exact ⟨rfl, H.out.below⟩
        · have a4 : decide (0 < L) = false := decide_eq_false hl
          have e6 := e5.resolve_left hl
          obtain ⟨z, hz⟩ : ∃ z, W / 2 = z := ⟨_, rfl⟩
          have wq : wrap64 (W.tdiv 2) = z := by rw [Int.tdiv_eq_ediv_of_nonneg h0.1, hz]; exact IntWalk.wrap64_in _ ⟨by omega, by omega⟩
          obtain ⟨m, hm⟩ : ∃ m, min d4 z = m := ⟨_, rfl⟩
          rw [hz, hm] at e6
          have U := Lib.hid (show (if z < d4 then z else d4) = m ∧ (if y < m then m else y) = W from ⟨by rw [← hm]; split <;> omega, by split <;> omega⟩)
          clear hl e5 e2 e3 h0 hz hm e6
          obtain ⟨u1, u2⟩ := U.out
          go_wp2_with fail
          go_ret
          exact ⟨by simp, H.out.below⟩
end Go.Proofs.Ytifkombocmdmfaa

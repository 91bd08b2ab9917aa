
/- The walk of ScaleAbove. -/
import Derived.Test.YtifkombocmdmfaaZ71
namespace Go.Proofs.Ytifkombocmdmfaa
set_option maxRecDepth 100000
set_option linter.unusedVariables false
set_option linter.unusedSimpArgs false
set_option linter.unnecessarySimpa false
open Go.RowKit

set_option maxHeartbeats 16000000 in
theorem walkScaleAbove (w : World) (c : Cfg) (hc : c.wf ∧ c.nm.size ≤ 140737488351232) (n : Int) (hn : wf64 n) (q : Int) (hq : wf64 q) :
    Calls Try.prog 12 #[c.v, .int .i64 n, .int .i64 q] w fun e w' => e = .returned (.bool true) ∧ Below w.heap.size w w' := by
  have KN := Lib.hid (fun w => known10_any w)
  have FE := Lib.hid Emp.foot
  have GC := Lib.hid (fun w => gcfg_any c 0 w hc.1 (by unfold wf64; omega))
  have hd := scC_ok c 0
  have WA := Lib.hid (fun w => within10_any q 31 w (by omega) (by omega) hq.1 hq.2)
  have WB := Lib.hid (fun w => within10_any n 1000000 w (by omega) (by omega) hn.1 hn.2)
  have rb := withinI_range q 31 (by omega)
  have vb := withinI_range n 1000000 (by omega)
  generalize withinI q 31 = r at *
  generalize withinI n 1000000 = v at *
  have hg : (⟨0, 0, r, 1, 100000 + v, 6, 100000 + v, 2, 0⟩ : Sc.G).ok := ⟨(show (0 : Int) ≤ 0 ∧ (0 : Int) ≤ 10 by decide), Sc.l0, by dsimp only; omega, Sc.k1, by dsimp only; omega, Sc.k6, by dsimp only; omega, Sc.k2, Sc.k0⟩
  have AB := Sc.above hg hd rfl rfl (by dsimp only; omega) (by dsimp only; omega)
  have DC := Lib.hid (fun w => decide_any ⟨0, 0, r, 1, 100000 + v, 6, 100000 + v, 2, 0⟩ (gCfg c 0) w hg hd)
  unfold Sc.G.args at DC
  rw [AB.1, AB.2] at DC
  unfold Sc.m at DC
  clear hg hd hc hn hq AB
  generalize gCfg c 0 = d at *
  obtain ⟨cn, c1, c2, c3, c4, c5⟩ := c
  obtain ⟨dn, d1, d2, d3, d4, d5⟩ := d
  unfold Cfg.v at *
  dsimp only at *
  obtain ⟨m, hm⟩ : ∃ m, max 1 r = m := ⟨_, rfl⟩
  obtain ⟨x, hx⟩ : ∃ x, max (4 * m) d3 = x := ⟨_, rfl⟩
  obtain ⟨y, hy⟩ : ∃ y, min d4 x = y := ⟨_, rfl⟩
  rw [hm, hx, hy] at DC
  have U := Lib.hid (show (if 1 < r then r else 1) = m ∧ (if 4 * m < d3 then d3 else 4 * m) = x ∧ (if x < d4 then x else d4) = y ∧ 1 ≤ m ∧ m ≤ 31 from ⟨by rw [← hm]; split <;> omega, by rw [← hx]; split <;> omega, by rw [← hy]; split <;> omega, by omega, by omega⟩)
  clear hm hx hy
  have wv : IntKind.i64.wrap (100000 + v) = 100000 + v := IntWalk.i64_in _ ⟨by omega, by omega⟩
  go_enter Try.func12, Try.ntmps12
  go_wp2_with fail
  refine (KN.out _).mono ?_
  rintro e w1 ⟨rfl, hg⟩
  have H0 := ((Hold.nil w).alloc' Emp.foot [.string cn, .int .i64 c1, .int .i64 c2, .int .i64 c3, .int .i64 c4, .int .i64 c5] 25 rfl).grow Emp.foot hg
  simp only [K0, K1, L1, L2, K2, K3, K4, K5, K6, K7, Nat.reduceAdd, Nat.reduceSub] at H0
  have H := Lib.hid H0
  clear H0 hg
  go_wp2_with ((refine Mem.loadAll 0 (t := 25) rfl rfl rfl Try.underlying25 (n := 6) (by kernel_rfl) H.out.mem rfl rfl ?_))
  refine (GC.out _).mono ?_
  rintro e w2 ⟨rfl, hg⟩
  replace H := Lib.hid (H.out.grow FE.out hg)
  clear hg GC
  go_wp2_with ((refine Hold.storeAll 1 (t := 25) FE.out rfl rfl rfl rfl (n := 6) (by kernel_rfl) (Hold.alloc' H.out FE.out _ _ rfl) rfl rfl rfl rfl ?_; intro W3 HMm CW3))
  simp only [K0, K1, L1, L2, K2, K3, K4, K5, K6, K7, Nat.reduceAdd, Nat.reduceSub] at HMm
  replace H := Lib.hid HMm
  clear HMm
  refine Stay.go ?_
  go_wp2_with fail
  refine (WA.out _).mono ?_
  rintro e wx ⟨rfl, rfl⟩
  go_wp2_with fail
  refine (WB.out _).mono ?_
  rintro e wx ⟨rfl, rfl⟩
  clear WA WB
  go_wp2_with ((refine Mem.loadAll 1 (t := 25) rfl rfl rfl Try.underlying25 (n := 6) (by kernel_rfl) H.out.mem rfl rfl ?_))
  refine (DC.out _).mono ?_
  rintro e w4 ⟨rfl, hg⟩
  replace H := Lib.hid (H.out.grow FE.out hg)
  clear hg DC
  go_wp2_with ((refine Hold.storeAll 2 (t := 30) FE.out rfl rfl rfl rfl (n := 2) (by kernel_rfl) (Hold.alloc' H.out FE.out _ _ rfl) rfl rfl rfl rfl ?_; intro W5 HMm CW5))
  simp only [K0, K1, L1, L2, K2, K3, K4, K5, K6, K7, Nat.reduceAdd, Nat.reduceSub] at HMm
  replace H := Lib.hid HMm
  clear HMm
  refine Stay.go ?_
  have c20 := H.out.mem.cell (i := 2) (o := 0) rfl rfl
  have c21 := H.out.mem.cell (i := 2) (o := 1) rfl rfl
  have c13 := H.out.mem.cell (i := 1) (o := 3) rfl rfl
  have c14 := H.out.mem.cell (i := 1) (o := 4) rfl rfl
  obtain ⟨u1, u2, u3, u4, u5⟩ := U.out
  have wm : IntKind.i64.wrap (4 * m) = 4 * m := IntWalk.i64_in _ ⟨by omega, by omega⟩
  go_wp2_with fail
  go_ret
  exact ⟨by simp, H.out.below⟩
end Go.Proofs.Ytifkombocmdmfaa

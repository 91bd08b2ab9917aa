
/- The walk of ScaleNone. -/
import Derived.Test.YtifkombocmdmfaaZ71
namespace Go.Proofs.Ytifkombocmdmfaa
set_option maxRecDepth 100000
set_option linter.unusedVariables false
set_option linter.unusedSimpArgs false
set_option linter.unnecessarySimpa false
open Go.RowKit

set_option maxHeartbeats 16000000 in
theorem walkScaleNone (w : World) (c : Cfg) (hc : c.wf ∧ c.nm.size ≤ 140737488351232) (n1 : Int) (h1 : wf64 n1) (n2 : Int) (h2 : wf64 n2) (n3 : Int) (h3 : wf64 n3) (n4 : Int) (h4 : wf64 n4) :
    Calls Try.prog 11 #[c.v, .int .i64 n1, .int .i64 n2, .int .i64 n3, .int .i64 n4] w fun e w' => e = .returned (.bool true) ∧ Below w.heap.size w w' := by
  have KN := Lib.hid (fun w => known10_any w)
  have FE := Lib.hid Emp.foot
  have GC := Lib.hid (fun w => gcfg_any c 0 w hc.1 (by unfold wf64; omega))
  have hd := scC_ok c 0
  have WA := Lib.hid (fun w => within10_any n1 11 w (by omega) (by omega) h1.1 h1.2)
  have WB := Lib.hid (fun w => within10_any n2 3 w (by omega) (by omega) h2.1 h2.2)
  have WC := Lib.hid (fun w => within10_any n3 40 w (by omega) (by omega) h3.1 h3.2)
  have WD := Lib.hid (fun w => within10_any n4 12 w (by omega) (by omega) h4.1 h4.2)
  have r1 := withinI_range n1 11 (by omega)
  have r2 := withinI_range n2 3 (by omega)
  have r3 := withinI_range n3 40 (by omega)
  have r4 := withinI_range n4 12 (by omega)
  generalize withinI n1 11 = x at *
  generalize withinI n2 3 = b at *
  generalize withinI n3 40 = i at *
  generalize withinI n4 12 = r at *
  have hg : (⟨x, 0, r, b, 0, 0, 0, 0, i⟩ : Sc.G).ok := ⟨by dsimp only; omega, Sc.l0, by dsimp only; omega, by dsimp only; omega, Sc.k0, Sc.k0, Sc.k0, Sc.k0, by dsimp only; omega⟩
  have NB := Sc.none hg hd rfl rfl rfl
  have DC := Lib.hid (fun w => decide_any ⟨x, 0, r, b, 0, 0, 0, 0, i⟩ (gCfg c 0) w hg hd)
  unfold Sc.G.args at DC
  rw [NB.1, NB.2] at DC
  clear hg hd hc h1 h2 h3 h4 NB r1 r2 r3
  generalize gCfg c 0 = d at *
  obtain ⟨cn, c1, c2, c3, c4, c5⟩ := c
  obtain ⟨dn, d1, d2, d3, d4, d5⟩ := d
  unfold Cfg.v at *
  dsimp only at *
  obtain ⟨q, hq⟩ : ∃ q, r / 2 = q := ⟨_, rfl⟩
  have wq : wrap64 (r.tdiv 2) = q := by rw [Int.tdiv_eq_ediv_of_nonneg r4.1, hq]; exact IntWalk.wrap64_in _ ⟨by omega, by omega⟩
  have HWQ := Lib.hid wq
  have hq0 : 0 ≤ q := by omega
  rw [hq] at DC
  have HR := Lib.hid r4
  clear wq hq r4
  go_enter Try.func11, Try.ntmps11
  go_wp2_with fail
  refine (KN.out _).mono ?_
  rintro e w1 ⟨rfl, hg⟩
  have H0 := ((Hold.nil w).alloc' Emp.foot [.string cn, .int .i64 c1, .int .i64 c2, .int .i64 c3, .int .i64 c4, .int .i64 c5] 25 rfl).grow Emp.foot hg
  simp only [K0, K1, L1, L2, K2, K3, K4, K5, K6, K7, Nat.reduceAdd, Nat.reduceSub] at H0
  have H := Lib.hid H0
  clear H0 hg
  go_wp2_with ((refine Mem.loadAll 0 (t := 25) rfl rfl rfl Try.underlying25 (n := 6) (by kernel_rfl) H.out.mem rfl rfl ?_))
  refine (GC.out _).mono ?_
  rintro e w2 ⟨rfl, hg⟩
  replace H := Lib.hid (H.out.grow FE.out hg)
  clear hg GC
  go_wp2_with ((refine Hold.storeAll 1 (t := 25) FE.out rfl rfl rfl rfl (n := 6) (by kernel_rfl) (Hold.alloc' H.out FE.out _ _ rfl) rfl rfl rfl rfl ?_; intro W3 HMm CW3))
  simp only [K0, K1, L1, L2, K2, K3, K4, K5, K6, K7, Nat.reduceAdd, Nat.reduceSub] at HMm
  replace H := Lib.hid HMm
  clear HMm
  refine Stay.go ?_
  go_wp2_with fail
  refine (WA.out _).mono ?_
  rintro e wx ⟨rfl, rfl⟩
  go_wp2_with fail
  refine (WB.out _).mono ?_
  rintro e wx ⟨rfl, rfl⟩
  go_wp2_with fail
  refine (WC.out _).mono ?_
  rintro e wx ⟨rfl, rfl⟩
  go_wp2_with fail
  refine (WD.out _).mono ?_
  rintro e wx ⟨rfl, rfl⟩
  clear WA WB WC WD
  go_wp2_with ((refine Mem.loadAll 1 (t := 25) rfl rfl rfl Try.underlying25 (n := 6) (by kernel_rfl) H.out.mem rfl rfl ?_))
  by_cases q1 : 0 < b
  · have a1 : decide (0 < b) = true := decide_eq_true q1
    have ec : (0 < b ∨ 0 < x ∧ i < d5) = True := by exact eq_true (.inl q1)
    rw [if_pos (by rw [ec]; trivial)] at DC
    clear ec
    clear q1
    refine (DC.out _).mono ?_
    rintro e w4 ⟨rfl, hg⟩
    replace H := Lib.hid (H.out.grow FE.out hg)
    clear hg DC
    obtain ⟨X, hX⟩ : ∃ X, max (max 1 q) d3 = X := ⟨_, rfl⟩
    obtain ⟨Y, hY⟩ : ∃ Y, min d4 X = Y := ⟨_, rfl⟩
    rw [hX, hY]
    have U := Lib.hid (show (if (if 1 < q then q else 1) < d3 then d3 else (if 1 < q then q else 1)) = X ∧ (if X < d4 then X else d4) = Y from ⟨by rw [← hX]; split <;> split <;> omega, by rw [← hY]; split <;> omega⟩)
    clear hX hY
    go_wp2_with ((refine Hold.storeAll 2 (t := 30) FE.out rfl rfl rfl rfl (n := 2) (by kernel_rfl) (Hold.alloc' H.out FE.out _ _ rfl) rfl rfl rfl rfl ?_; intro W5 HMm CW5))
    simp only [K0, K1, L1, L2, K2, K3, K4, K5, K6, K7, Nat.reduceAdd, Nat.reduceSub] at HMm
    replace H := Lib.hid HMm
    clear HMm
    refine Stay.go ?_
    have c20 := H.out.mem.cell (i := 2) (o := 0) rfl rfl
    have c21 := H.out.mem.cell (i := 2) (o := 1) rfl rfl
    have c13 := H.out.mem.cell (i := 1) (o := 3) rfl rfl
    have c14 := H.out.mem.cell (i := 1) (o := 4) rfl rfl
    have c15 := H.out.mem.cell (i := 1) (o := 5) rfl rfl
    obtain ⟨u1, u2⟩ := U.out
    have wq := HWQ.out
    go_wp2_with fail
    go_ret
    exact ⟨by simp, H.out.below⟩
  · have a1 : decide (0 < b) = false := decide_eq_false q1
    by_cases q2 : 0 < x
    · have a2 : decide (0 < x) = true := decide_eq_true q2
      by_cases q3 : i < d5
      · have a3 : decide (i < d5) = true := decide_eq_true q3
        have ec : (0 < b ∨ 0 < x ∧ i < d5) = True := by exact eq_true (.inr ⟨q2, q3⟩)
        rw [if_pos (by rw [ec]; trivial)] at DC
        clear ec
        clear q1 q2 q3
        refine (DC.out _).mono ?_
        rintro e w4 ⟨rfl, hg⟩
        replace H := Lib.hid (H.out.grow FE.out hg)
        clear hg DC
        obtain ⟨X, hX⟩ : ∃ X, max (max 1 q) d3 = X := ⟨_, rfl⟩
        obtain ⟨Y, hY⟩ : ∃ Y, min d4 X = Y := ⟨_, rfl⟩
        rw [hX, hY]
        have U := Lib.hid (show (if (if 1 < q then q else 1) < d3 then d3 else (if 1 < q then q else 1)) = X ∧ (if X < d4 then X else d4) = Y from ⟨by rw [← hX]; split <;> split <;> omega, by rw [← hY]; split <;> omega⟩)
        clear hX hY
        go_wp2_with ((refine Hold.storeAll 2 (t := 30) FE.out rfl rfl rfl rfl (n := 2) (by kernel_rfl) (Hold.alloc' H.out FE.out _ _ rfl) rfl rfl rfl rfl ?_; intro W5 HMm CW5))
        simp only [K0, K1, L1, L2, K2, K3, K4, K5, K6, K7, Nat.reduceAdd, Nat.reduceSub] at HMm
        replace H := Lib.hid HMm
        clear HMm
        refine Stay.go ?_
        have c20 := H.out.mem.cell (i := 2) (o := 0) rfl rfl
        have c21 := H.out.mem.cell (i := 2) (o := 1) rfl rfl
        have c13 := H.out.mem.cell (i := 1) (o := 3) rfl rfl
        have c14 := H.out.mem.cell (i := 1) (o := 4) rfl rfl
        have c15 := H.out.mem.cell (i := 1) (o := 5) rfl rfl
        obtain ⟨u1, u2⟩ := U.out
        have wq := HWQ.out
        go_wp2_with fail
        go_ret
        exact ⟨by simp, H.out.below⟩
      · have a3 : decide (i < d5) = false := decide_eq_false q3
        have ec : (0 < b ∨ 0 < x ∧ i < d5) = False := by exact eq_false (fun h => h.elim q1 (fun h => q3 h.2))
        rw [if_neg (by rw [ec]; exact id)] at DC
        clear ec
        clear q1 q2 q3
        refine (DC.out _).mono ?_
        rintro e w4 ⟨rfl, hg⟩
        replace H := Lib.hid (H.out.grow FE.out hg)
        clear hg DC
        obtain ⟨X, hX⟩ : ∃ X, max (max 0 q) d3 = X := ⟨_, rfl⟩
        obtain ⟨Y, hY⟩ : ∃ Y, min d4 X = Y := ⟨_, rfl⟩
        rw [hX, hY]
        have U := Lib.hid (show (if (if 0 < q then q else 0) < d3 then d3 else (if 0 < q then q else 0)) = X ∧ (if X < d4 then X else d4) = Y from ⟨by rw [← hX]; split <;> split <;> omega, by rw [← hY]; split <;> omega⟩)
        clear hX hY
        go_wp2_with ((refine Hold.storeAll 2 (t := 30) FE.out rfl rfl rfl rfl (n := 2) (by kernel_rfl) (Hold.alloc' H.out FE.out _ _ rfl) rfl rfl rfl rfl ?_; intro W5 HMm CW5))
        simp only [K0, K1, L1, L2, K2, K3, K4, K5, K6, K7, Nat.reduceAdd, Nat.reduceSub] at HMm
        replace H := Lib.hid HMm
        clear HMm
        refine Stay.go ?_
        have c20 := H.out.mem.cell (i := 2) (o := 0) rfl rfl
        have c21 := H.out.mem.cell (i := 2) (o := 1) rfl rfl
        have c13 := H.out.mem.cell (i := 1) (o := 3) rfl rfl
        have c14 := H.out.mem.cell (i := 1) (o := 4) rfl rfl
        have c15 := H.out.mem.cell (i := 1) (o := 5) rfl rfl
        obtain ⟨u1, u2⟩ := U.out
        have wq := HWQ.out
        go_wp2_with fail
        go_ret
        exact ⟨by simp, H.out.below⟩
    · have a2 : decide (0 < x) = false := decide_eq_false q2
      have ec : (0 < b ∨ 0 < x ∧ i < d5) = False := by exact eq_false (fun h => h.elim q1 (fun h => q2 h.1))
      rw [if_neg (by rw [ec]; exact id)] at DC
      clear ec
      clear q1 q2
      refine (DC.out _).mono ?_
      rintro e w4 ⟨rfl, hg⟩
      replace H := Lib.hid (H.out.grow FE.out hg)
      clear hg DC
      obtain ⟨X, hX⟩ : ∃ X, max (max 0 q) d3 = X := ⟨_, rfl⟩
      obtain ⟨Y, hY⟩ : ∃ Y, min d4 X = Y := ⟨_, rfl⟩
      rw [hX, hY]
      have U := Lib.hid (show (if (if 0 < q then q else 0) < d3 then d3 else (if 0 < q then q else 0)) = X ∧ (if X < d4 then X else d4) = Y from ⟨by rw [← hX]; split <;> split <;> omega, by rw [← hY]; split <;> omega⟩)
      clear hX hY
      go_wp2_with ((refine Hold.storeAll 2 (t := 30) FE.out rfl rfl rfl rfl (n := 2) (by kernel_rfl) (Hold.alloc' H.out FE.out _ _ rfl) rfl rfl rfl rfl ?_; intro W5 HMm CW5))
      simp only [K0, K1, L1, L2, K2, K3, K4, K5, K6, K7, Nat.reduceAdd, Nat.reduceSub] at HMm
      replace H := Lib.hid HMm
      clear HMm
      refine Stay.go ?_
      have c20 := H.out.mem.cell (i := 2) (o := 0) rfl rfl
      have c21 := H.out.mem.cell (i := 2) (o := 1) rfl rfl
      have c13 := H.out.mem.cell (i := 1) (o := 3) rfl rfl
      have c14 := H.out.mem.cell (i := 1) (o := 4) rfl rfl
      have c15 := H.out.mem.cell (i := 1) (o := 5) rfl rfl
      obtain ⟨u1, u2⟩ := U.out
      have wq := HWQ.out
      go_wp2_with fail
      go_ret
      exact ⟨by simp, H.out.below⟩
end Go.Proofs.Ytifkombocmdmfaa

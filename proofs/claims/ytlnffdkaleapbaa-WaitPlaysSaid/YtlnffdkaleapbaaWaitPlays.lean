
/- The walk of WaitPlays. -/
import Derived.Test.YtlnffdkaleapbaaZ62
namespace Go.Proofs.Ytlnffdkaleapbaa
set_option maxRecDepth 100000
set_option linter.unusedVariables false
set_option linter.unusedSimpArgs false
set_option linter.unnecessarySimpa false
open Go.RowKit

set_option maxHeartbeats 16000000 in
theorem walkWaitPlays (w : World) (c : Int) (hc : wf64 c) (v : Value) (zs : List Int) (hz : IntSlice w v zs) :
    Calls Try.prog 3 #[.int .i64 c, v] w fun e w' => e = .returned (.bool true) ∧ Below w.heap.size w w' := by
  have KN := Lib.hid (fun w => known8_any w)
  have FE := Lib.hid Emp.foot
  have FP := Lib.hid LnP.foot
  have FR := Lib.hid (fun g s => (RlP.foot g s).sep Emp.foot)
  obtain ⟨va, vc, rfl, hat⟩ := hz.open
  have HZ := Lib.hid hat
  clear hat hz
  have r1 := withinI_range c 9 (by omega)
  have WI := Lib.hid (fun w => within8_any c 9 w (by omega) (by omega) hc.1 hc.2)
  generalize withinI c 9 = K at *
  clear hc
  go_enter Try.func3, Try.ntmps3
  go_wp2_with fail
  refine (KN.out _).mono ?_
  rintro e w1 ⟨rfl, hg⟩
  have H := Lib.hid ((Hold.nil w).grow Emp.foot hg)
  clear hg
  go_wp2_with fail
  refine (WI.out _).mono ?_
  rintro e w2 ⟨rfl, rfl⟩
  go_wp2_with fail
  refine (hold_lnew H.out Emp.foot K (by omega)).mono ?_
  rintro e w3 ⟨g, rfl, hh⟩
  replace H := Lib.hid hh
  clear hh WI
  go_wp2_with fail
  refine (hold_rlnew H.out (LnP.foot _ _) Emp.foot K (by omega)).mono ?_
  rintro e w3 ⟨q, rfl, hh⟩
  replace H := Lib.hid hh
  clear hh
  go_wp2_with fail
  go_loopw [8] (fun i wr => ∃ (k : Nat) (s : Ln), k ≤ 80 ∧ i = .int .i64 (k : Int) ∧ Hid (Hold w wr [] (Sep (LnP g s) (Sep (RlP q s) Emp)))) (fun i _ => 80 - (intOf i).toNat)
  case atStart => exact ⟨0, Ln.new K, by omega, rfl, H⟩
  case round =>
    clear H
    obtain ⟨k, s, hk, rfl, H⟩ := hrel
    by_cases h1 : k < zs.length
    rotate_left
    · have d1 : decide ((k : Int) < (zs.length : Int)) = false := decide_eq_false (by omega)
      go_wp2_with fail
      go_ret
      exact ⟨rfl, H.out.below⟩
    have d1 : decide ((k : Int) < (zs.length : Int)) = true := decide_eq_true (by omega)
    by_cases h2 : k < 80
    rotate_left
    · have d2 : decide ((k : Int) < 80) = false := decide_eq_false (by omega)
      go_wp2_with fail
      go_ret
      exact ⟨rfl, H.out.below⟩
    have d2 : decide ((k : Int) < 80) = true := decide_eq_true (by omega)
    obtain ⟨b, off, rfl, hcz, hw⟩ := HZ.out.at H.out.below h1
    generalize zs.getD k 0 = z at *
    have hz1 := wrap_wf (tdiv_wf hw 8 (by omega))
    have hz3 := tdiv_wf hw 8 (by omega)
    obtain ⟨n, hn⟩ : ∃ n : Int, z.tdiv 8 = n := ⟨_, rfl⟩
    rw [hn] at hz1 hz3
    have hz2 := wrap_wf (tdiv_wf hz3 20 (by omega))
    have hz4 := tdiv_wf hz3 20 (by omega)
    have r4 := withinI_range z 8 (by omega)
    have r5 := withinI_range n 20 (by omega)
    have WA := Lib.hid (fun w => within8_any n 20 w (by omega) (by omega) hz3.1 hz3.2)
    have WB := Lib.hid (fun w => within8_any z 8 w (by omega) (by omega) hw.1 hw.2)
    have WC := Lib.hid (fun w => within8_any (n.tdiv 20) 30 w (by omega) (by omega) hz4.1 hz4.2)
    have WD := Lib.hid (fun w => within8_any n 30 w (by omega) (by omega) hz3.1 hz3.2)
    obtain ⟨x, hx⟩ : ∃ x : Int, 1 + withinI n 20 = x := ⟨_, rfl⟩
    have hwx : IntKind.i64.wrap (1 + withinI n 20) = x := by rw [hx]; exact IntWalk.i64_in _ ⟨by omega, by omega⟩
    obtain ⟨r, hr⟩ : ∃ r : Nat, withinI z 8 = r := ⟨(withinI z 8).toNat, by omega⟩
    rw [hr] at WB r4
    have hk1 : IntKind.i64.wrap ((k : Int) + 1) = (k : Int) + 1 := IntWalk.i64_in _ ⟨by omega, by omega⟩
    have hr8 : r < 8 := by omega
    have hls : ∀ t, (s.late t).length ≤ 100000 := fun t => by
      have h1 := ln_ids_le H.out
      have h2 := s.late_len t
      omega
    have HLS := Lib.hid hls
    clear hw hz3 hz4 r4 r5 hx hr hls
    generalize withinI n 20 = ya at *
    generalize withinI (n.tdiv 20) 30 = yc at *
    generalize withinI n 30 = yd at *
    have hn := Lib.hid hn
    have hdn : z.tdiv 8 = n := hn.out
    go_wp2_with fail
    refine (WB.out _).mono ?_
    rintro e wx ⟨rfl, rfl⟩
    clear WB
    have hcase : r = 0 ∨ r = 1 ∨ r = 2 ∨ 3 ≤ r := by omega
    rcases hcase with rfl | rfl | rfl | h9
    case' inl =>
      clear hr8
      go_wp2_with fail
      refine (hold_lpop H.out (FR.out _ _) rfl rfl rfl).mono ?_
      rintro e ws1 ⟨rfl, hst⟩
      replace H := Lib.hid hst
      clear hst
      go_wp2_with fail
      refine (hold_rlpop H.out (FP.out _ _) FE.out rfl rfl rfl).mono ?_
      rintro e ws2 ⟨rfl, hst⟩
      replace H := Lib.hid hst
      clear hst
      go_wp2_with fail
    case' inr.inl =>
      clear hr8
      go_wp2_with fail
      refine (hold_lpop H.out (FR.out _ _) rfl rfl rfl).mono ?_
      rintro e ws3 ⟨rfl, hst⟩
      replace H := Lib.hid hst
      clear hst
      go_wp2_with fail
      refine (hold_rlpop H.out (FP.out _ _) FE.out rfl rfl rfl).mono ?_
      rintro e ws4 ⟨rfl, hst⟩
      replace H := Lib.hid hst
      clear hst
      go_wp2_with fail
    case' inr.inr.inl =>
      clear hr8
      go_wp2_with fail
      refine (WD.out _).mono ?_
      rintro e wx ⟨rfl, rfl⟩
      go_wp2_with fail
      refine (hold_llate H.out (FR.out _ _) yd rfl rfl).mono ?_
      rintro e w5 ⟨u, rfl, hst⟩
      replace H := Lib.hid (hst.map fun F q => q.under fun F q => q.rot)
      clear hst
      go_wp2_with fail
      refine (WD.out _).mono ?_
      rintro e wx ⟨rfl, rfl⟩
      go_wp2_with fail
      refine (hold_rllate H.out (FP.out _ _) ((IntO.foot _ _).sep FE.out) yd rfl rfl).mono ?_
      rintro e w6 ⟨u2, rfl, hst⟩
      replace H := Lib.hid hst
      clear hst
      go_wp2_with fail
      refine (told8_same H.out (HLS.out yd) (FP.out _ _) (RlP.foot _ _) FE.out).mono ?_
      rintro e ws5 ⟨rfl, hst⟩
      replace H := Lib.hid hst
      clear hst
      go_wp2_with fail
    case' inr.inr.inr =>
      have e0 : ((r : Int) == 0) = false := by simp; omega
      have e1 : ((r : Int) == 1) = false := by simp; omega
      have e2 : ((r : Int) == 2) = false := by simp; omega
      clear hr8 h9
      go_wp2_with fail
      refine (WA.out _).mono ?_
      rintro e wx ⟨rfl, rfl⟩
      go_wp2_with fail
      refine (WC.out _).mono ?_
      rintro e wx ⟨rfl, rfl⟩
      go_wp2_with fail
      refine (hold_lpush H.out (FR.out _ _) x yc rfl rfl).mono ?_
      rintro e ws6 ⟨rfl, hst⟩
      replace H := Lib.hid hst
      clear hst
      go_wp2_with fail
      refine (hold_rlpush H.out (FP.out _ _) FE.out x yc rfl rfl).mono ?_
      rintro e ws7 ⟨rfl, hst⟩
      replace H := Lib.hid hst
      clear hst
      go_wp2_with fail
    all_goals
      clear HLS
      refine (hold_llen H.out rfl).mono ?_
      rintro e ws8 ⟨rfl, hst⟩
      replace H := Lib.hid hst
      clear hst
      go_wp2_with fail
      refine (hold_rllen H.out rfl).mono ?_
      rintro e ws9 ⟨rfl, hst⟩
      replace H := Lib.hid hst
      clear hst
      go_wp2_with fail
      have hls := (ln_ids_le H.out).1
      refine (hold_lall H.out (FR.out _ _) rfl).mono ?_
      rintro e w7 ⟨u3, rfl, ho3, hst⟩
      have O3 := Lib.hid ho3
      replace H := Lib.hid hst
      clear hst ho3
      go_wp2_with fail
      refine (hold_rlall H.out (FP.out _ _) FE.out rfl).mono ?_
      rintro e w8 ⟨u4, rfl, ho4, hg4, hst⟩
      have O4 := Lib.hid ho4
      have G4 := Lib.hid hg4
      replace H := Lib.hid hst
      clear hst ho4 hg4
      go_wp2_with fail
      refine (ints8_own (by omega) (O3.out.later G4.out) O4.out).mono ?_
      rintro e w9 ⟨rfl, hg⟩
      replace H := Lib.hid (H.out.grow ((LnP.foot _ _).sep (FR.out _ _)) hg)
      clear hg
      go_wp2_with fail
      go_roundw
      case rel => exact ⟨k + 1, _, by omega, by go_num, H⟩
      case measure => simp [intOf]; omega
end Go.Proofs.Ytlnffdkaleapbaa

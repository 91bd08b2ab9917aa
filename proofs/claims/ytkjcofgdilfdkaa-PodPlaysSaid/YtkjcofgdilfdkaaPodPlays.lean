
/- The walk of PodPlays. -/
import Derived.Test.YtkjcofgdilfdkaaZ58
namespace Go.Proofs.Ytkjcofgdilfdkaa
set_option maxRecDepth 100000
set_option linter.unusedVariables false
set_option linter.unusedSimpArgs false
set_option linter.unnecessarySimpa false
open Go.RowKit Go.MapV Go.Maps

set_option maxHeartbeats 16000000 in
theorem walkPodPlays (w : World) (c : Int) (hc : wf64 c) (v : Value) (zs : List Int) (hz : IntSlice w v zs) :
    Calls Try.prog 3 #[.int .i64 c, v] w fun e w' => e = .returned (.bool true) ∧ Below w.heap.size w w' := by
  have KN := Lib.hid (fun w => known7_any w)
  have FE := Lib.hid Emp.foot
  have FP := Lib.hid PdP.foot
  have FR := Lib.hid (fun g s => (RpP.foot g s).sep Emp.foot)
  obtain ⟨va, vc, rfl, hat⟩ := hz.open
  have HZ := Lib.hid hat
  clear hat hz
  have r1 := withinI_range c 8 (by omega)
  have WI := Lib.hid (fun w => within7_any c 8 w (by omega) (by omega) hc.1 hc.2)
  obtain ⟨K, hK⟩ : ∃ K : Nat, 1 + withinI c 8 = K := ⟨(1 + withinI c 8).toNat, by omega⟩
  have hK1 : 1 ≤ K := by omega
  have hK8 : K ≤ 8 := by omega
  have hw1 : IntKind.i64.wrap (1 + withinI c 8) = (K : Int) := by rw [hK]; exact IntWalk.i64_in _ ⟨by omega, by omega⟩
  clear hc r1
  generalize withinI c 8 = y at *
  go_enter Try.func3, Try.ntmps3
  go_wp2_with fail
  refine (KN.out _).mono ?_
  rintro e w1 ⟨rfl, hg⟩
  have H := Lib.hid ((Hold.nil w).grow Emp.foot hg)
  clear hg
  go_wp2_with fail
  refine (WI.out _).mono ?_
  rintro e w2 ⟨rfl, rfl⟩
  go_wp2_with fail
  refine (hold_pnew H.out Emp.foot K (by omega)).mono ?_
  rintro e w3 ⟨g, rfl, hh⟩
  replace H := Lib.hid hh
  clear hh hw1 hK WI
  go_wp2_with fail
  refine (hold_rpnew H.out (PdP.foot _ _) Emp.foot K (by omega)).mono ?_
  rintro e w3 ⟨q, rfl, hh⟩
  replace H := Lib.hid hh
  clear hh
  go_wp2_with fail
  go_loopw [8] (fun i wr => ∃ (k : Nat) (s : Pd), k ≤ 80 ∧ i = .int .i64 (k : Int) ∧ Hid (Hold w wr [] (Sep (PdP g s) (Sep (RpP q s) Emp)))) (fun i _ => 80 - (intOf i).toNat)
  case atStart => exact ⟨0, Pd.new K, by omega, rfl, H⟩
  case round =>
    clear H
    obtain ⟨k, s, hk, rfl, H⟩ := hrel
    by_cases h1 : k < zs.length
    rotate_left
    · have d1 : decide ((k : Int) < (zs.length : Int)) = false := decide_eq_false (by omega)
      go_wp2_with fail
      go_ret
      exact ⟨rfl, H.out.below⟩
    have d1 : decide ((k : Int) < (zs.length : Int)) = true := decide_eq_true (by omega)
    by_cases h2 : k < 80
    rotate_left
    · have d2 : decide ((k : Int) < 80) = false := decide_eq_false (by omega)
      go_wp2_with fail
      go_ret
      exact ⟨rfl, H.out.below⟩
    have d2 : decide ((k : Int) < 80) = true := decide_eq_true (by omega)
    obtain ⟨b, off, rfl, hcz, hw⟩ := HZ.out.at H.out.below h1
    generalize zs.getD k 0 = z at *
    have hz1 := wrap_wf (tdiv_wf hw 16 (by omega))
    have hz2 := wrap_wf (tdiv_wf hw 160 (by omega))
    have hz3 := tdiv_wf hw 16 (by omega)
    have hz4 := tdiv_wf hw 160 (by omega)
    have r3 := withinI_range (z.tdiv 16) 10 (by omega)
    have r4 := withinI_range z 16 (by omega)
    have WA := Lib.hid (fun w => within7_any (z.tdiv 16) 10 w (by omega) (by omega) hz3.1 hz3.2)
    have WB := Lib.hid (fun w => within7_any z 16 w (by omega) (by omega) hw.1 hw.2)
    have WC := Lib.hid (fun w => within7_any (z.tdiv 160) 4 w (by omega) (by omega) hz4.1 hz4.2)
    obtain ⟨x, hx⟩ : ∃ x : Int, 1 + withinI (z.tdiv 16) 10 = x := ⟨_, rfl⟩
    have hwx : IntKind.i64.wrap (1 + withinI (z.tdiv 16) 10) = x := by rw [hx]; exact IntWalk.i64_in _ ⟨by omega, by omega⟩
    have hxw : wf64 x := ⟨by omega, by omega⟩
    obtain ⟨r, hr⟩ : ∃ r : Nat, withinI z 16 = r := ⟨(withinI z 16).toNat, by omega⟩
    rw [hr] at WB r4
    have hk1 : IntKind.i64.wrap ((k : Int) + 1) = (k : Int) + 1 := IntWalk.i64_in _ ⟨by omega, by omega⟩
    have hr16 : r < 16 := by omega
    have hls : (s.lost).length ≤ 100000 := H.out.see fun F hF => by
      obtain ⟨F1, F2, ⟨m, hI, _⟩, _⟩ := hF
      have h1 := hI.ok.len
      have h2 := hI.ok.c
      unfold Pd.lost
      split
      · exact Nat.zero_le _
      · omega
    clear hw hz3 hz4 r3 r4 hx hr
    generalize withinI (z.tdiv 16) 10 = ya at *
    generalize withinI (z.tdiv 160) 4 = yc at *
    go_wp2_with fail
    refine (WA.out _).mono ?_
    rintro e wx ⟨rfl, rfl⟩
    clear WA
    go_wp2_with fail
    refine (WB.out _).mono ?_
    rintro e wx ⟨rfl, rfl⟩
    clear WB
    have hcase : r = 0 ∨ r = 1 ∨ r = 2 ∨ r = 3 ∨ r = 4 ∨ r = 5 ∨ r = 6 ∨ r = 7 ∨ r = 8 ∨ 9 ≤ r := by omega
    rcases hcase with rfl | rfl | rfl | rfl | rfl | rfl | rfl | rfl | rfl | h9
    case' inl =>
      clear hr16
      go_wp2_with fail
      refine (hold_pup H.out (FR.out _ _) rfl rfl).mono ?_
      rintro e ws1 ⟨rfl, hst⟩
      replace H := Lib.hid hst
      clear hst
      go_wp2_with fail
      refine (hold_rpup H.out (FP.out _ _) FE.out rfl rfl).mono ?_
      rintro e ws2 ⟨rfl, hst⟩
      replace H := Lib.hid hst
      clear hst
      go_wp2_with fail
    case' inr.inl =>
      clear hr16
      go_wp2_with fail
      refine (hold_pup H.out (FR.out _ _) rfl rfl).mono ?_
      rintro e ws3 ⟨rfl, hst⟩
      replace H := Lib.hid hst
      clear hst
      go_wp2_with fail
      refine (hold_rpup H.out (FP.out _ _) FE.out rfl rfl).mono ?_
      rintro e ws4 ⟨rfl, hst⟩
      replace H := Lib.hid hst
      clear hst
      go_wp2_with fail
    case' inr.inr.inl =>
      clear hr16
      go_wp2_with fail
      refine (hold_pdrain H.out (FR.out _ _) rfl rfl).mono ?_
      rintro e ws5 ⟨rfl, hst⟩
      replace H := Lib.hid hst
      clear hst
      go_wp2_with fail
      refine (hold_rpdrain H.out (FP.out _ _) FE.out rfl rfl).mono ?_
      rintro e ws6 ⟨rfl, hst⟩
      replace H := Lib.hid hst
      clear hst
      go_wp2_with fail
    case' inr.inr.inr.inl =>
      clear hr16
      go_wp2_with fail
      refine (WC.out _).mono ?_
      rintro e wx ⟨rfl, rfl⟩
      clear WC
      by_cases hy : yc = 0
      case' neg =>
        have dy : (yc == 0) = false := by simpa using hy
        clear hy
        go_wp2_with fail
      case' pos =>
        have dy : (yc == 0) = true := by simpa using hy
        clear hy
        go_wp2_with fail
        refine (hold_pkill H.out (FR.out _ _) rfl rfl).mono ?_
        rintro e w5 ⟨u, rfl, hst⟩
        replace H := Lib.hid (hst.map fun F q => q.under fun F q => q.rot)
        clear hst
        go_wp2_with fail
        refine (hold_rpkill H.out (FP.out _ _) ((RowF.foot _ _ _ _ _ _).sep FE.out) rfl rfl).mono ?_
        rintro e w6 ⟨u2, rfl, hst⟩
        replace H := Lib.hid hst
        clear hst
        go_wp2_with fail
        refine (told_same H.out hls (FP.out _ _) (RpP.foot _ _) FE.out).mono ?_
        rintro e ws7 ⟨rfl, hst⟩
        replace H := Lib.hid hst
        clear hst
        go_wp2_with fail
    case' inr.inr.inr.inr.inr.inr.inr.inr.inr =>
      have e0 : ((r : Int) == 0) = false := by simp; omega
      have e1 : ((r : Int) == 1) = false := by simp; omega
      have e2 : ((r : Int) == 2) = false := by simp; omega
      have e3 : ((r : Int) == 3) = false := by simp; omega
      have e4 : ((r : Int) == 4) = false := by simp; omega
      have e5 : ((r : Int) == 5) = false := by simp; omega
      have e6 : ((r : Int) == 6) = false := by simp; omega
      have e7 : ((r : Int) == 7) = false := by simp; omega
      have e8 : ((r : Int) == 8) = false := by simp; omega
      clear hr16 h9
      go_wp2_with fail
      refine (hold_ptake H.out (FR.out _ _) x hxw rfl rfl).mono ?_
      rintro e ws8 ⟨rfl, hst⟩
      replace H := Lib.hid hst
      clear hst
      go_wp2_with fail
      refine (hold_rptake H.out (FP.out _ _) FE.out x hxw rfl rfl).mono ?_
      rintro e ws9 ⟨rfl, hst⟩
      replace H := Lib.hid hst
      clear hst
      go_wp2_with fail
    case' inr.inr.inr.inr.inl =>
      clear hr16
      go_wp2_with fail
      refine (hold_pgive H.out (FR.out _ _) x hxw rfl rfl).mono ?_
      rintro e ws10 ⟨rfl, hst⟩
      replace H := Lib.hid hst
      clear hst
      go_wp2_with fail
      refine (hold_rpgive H.out (FP.out _ _) FE.out x rfl rfl).mono ?_
      rintro e ws11 ⟨rfl, hst⟩
      replace H := Lib.hid hst
      clear hst
      go_wp2_with fail
    case' inr.inr.inr.inr.inr.inl =>
      clear hr16
      go_wp2_with fail
      refine (hold_pgive H.out (FR.out _ _) x hxw rfl rfl).mono ?_
      rintro e ws12 ⟨rfl, hst⟩
      replace H := Lib.hid hst
      clear hst
      go_wp2_with fail
      refine (hold_rpgive H.out (FP.out _ _) FE.out x rfl rfl).mono ?_
      rintro e ws13 ⟨rfl, hst⟩
      replace H := Lib.hid hst
      clear hst
      go_wp2_with fail
    case' inr.inr.inr.inr.inr.inr.inl =>
      clear hr16
      go_wp2_with fail
      refine (hold_pgive H.out (FR.out _ _) x hxw rfl rfl).mono ?_
      rintro e ws14 ⟨rfl, hst⟩
      replace H := Lib.hid hst
      clear hst
      go_wp2_with fail
      refine (hold_rpgive H.out (FP.out _ _) FE.out x rfl rfl).mono ?_
      rintro e ws15 ⟨rfl, hst⟩
      replace H := Lib.hid hst
      clear hst
      go_wp2_with fail
    case' inr.inr.inr.inr.inr.inr.inr.inl =>
      clear hr16
      go_wp2_with fail
      refine (hold_pgive H.out (FR.out _ _) x hxw rfl rfl).mono ?_
      rintro e ws16 ⟨rfl, hst⟩
      replace H := Lib.hid hst
      clear hst
      go_wp2_with fail
      refine (hold_rpgive H.out (FP.out _ _) FE.out x rfl rfl).mono ?_
      rintro e ws17 ⟨rfl, hst⟩
      replace H := Lib.hid hst
      clear hst
      go_wp2_with fail
    case' inr.inr.inr.inr.inr.inr.inr.inr.inl =>
      clear hr16
      go_wp2_with fail
      refine (hold_pgive H.out (FR.out _ _) x hxw rfl rfl).mono ?_
      rintro e ws18 ⟨rfl, hst⟩
      replace H := Lib.hid hst
      clear hst
      go_wp2_with fail
      refine (hold_rpgive H.out (FP.out _ _) FE.out x rfl rfl).mono ?_
      rintro e ws19 ⟨rfl, hst⟩
      replace H := Lib.hid hst
      clear hst
      go_wp2_with fail
    all_goals
      refine (hold_pstate H.out rfl).mono ?_
      rintro e ws20 ⟨rfl, hst⟩
      replace H := Lib.hid hst
      clear hst
      go_wp2_with fail
      refine (hold_rpstate H.out rfl).mono ?_
      rintro e ws21 ⟨rfl, hst⟩
      replace H := Lib.hid hst
      clear hst
      go_wp2_with fail
      refine (hold_pload H.out rfl).mono ?_
      rintro e ws22 ⟨rfl, hst⟩
      replace H := Lib.hid hst
      clear hst
      go_wp2_with fail
      refine (hold_rpload H.out rfl).mono ?_
      rintro e ws23 ⟨rfl, hst⟩
      replace H := Lib.hid hst
      clear hst
      go_wp2_with fail
      go_roundw
      case rel => exact ⟨k + 1, _, by omega, by go_num, H⟩
      case measure => simp [intOf]; omega
end Go.Proofs.Ytkjcofgdilfdkaa

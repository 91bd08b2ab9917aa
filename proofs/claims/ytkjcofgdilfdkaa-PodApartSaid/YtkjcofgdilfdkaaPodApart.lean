
/- The walk of PodApart. -/
import Derived.Test.YtkjcofgdilfdkaaZ58
namespace Go.Proofs.Ytkjcofgdilfdkaa
set_option maxRecDepth 100000
set_option linter.unusedVariables false
set_option linter.unusedSimpArgs false
set_option linter.unnecessarySimpa false
open Go.RowKit Go.MapV Go.Maps

theorem take_st (s : Pd) (x : Int) : (s.aftTake x).st = s.st := by unfold Pd.aftTake; split <;> rfl
set_option maxHeartbeats 16000000 in
theorem walkPodApart (w : World) (c : Int) (hc : wf64 c) (v : Value) (zs : List Int) (hz : IntSlice w v zs) (v2 : Value) (ms : List Int) (hm : IntSlice w v2 ms) :
    Calls Try.prog 6 #[.int .i64 c, v, v2] w fun e w' => e = .returned (.bool true) ∧ Below w.heap.size w w' := by
  have KN := Lib.hid (fun w => known7_any w)
  have FE := Lib.hid Emp.foot
  have FP := Lib.hid PdP.foot
  have FR := Lib.hid (fun g s h t => (RpP.foot g s).sep ((PdP.foot h t).sep Emp.foot))
  have FQ := Lib.hid (fun h t => (PdP.foot h t).sep Emp.foot)
  have FA := Lib.hid (fun g s h t => (PdP.foot g s).sep ((RpP.foot h t).sep Emp.foot))
  obtain ⟨va, vc, rfl, hat⟩ := hz.open
  have HZ := Lib.hid hat
  obtain ⟨ua, uc, rfl, hat2⟩ := hm.open
  have HM := Lib.hid hat2
  clear hat hz hat2 hm
  have r1 := withinI_range c 8 (by omega)
  have WI := Lib.hid (fun w => within7_any c 8 w (by omega) (by omega) hc.1 hc.2)
  obtain ⟨K, hK⟩ : ∃ K : Nat, 1 + withinI c 8 = K := ⟨(1 + withinI c 8).toNat, by omega⟩
  have hK1 : 1 ≤ K := by omega
  have hK8 : K ≤ 8 := by omega
  have hw1 : IntKind.i64.wrap (1 + withinI c 8) = (K : Int) := by rw [hK]; exact IntWalk.i64_in _ ⟨by omega, by omega⟩
  clear hc r1
  generalize withinI c 8 = y at *
  go_enter Try.func6, Try.ntmps6
  go_wp2_with fail
  refine (KN.out _).mono ?_
  rintro e w1 ⟨rfl, hg⟩
  have H := Lib.hid ((Hold.nil w).grow Emp.foot hg)
  clear hg
  go_wp2_with fail
  refine (WI.out _).mono ?_
  rintro e w2 ⟨rfl, rfl⟩
  go_wp2_with fail
  refine (hold_pnew H.out Emp.foot K (by omega)).mono ?_
  rintro e w3 ⟨g, rfl, hh⟩
  replace H := Lib.hid hh
  clear hh hw1 hK WI
  go_wp2_with fail
  refine (hold_pnew H.out ((PdP.foot _ _).sep Emp.foot) K (by omega)).mono ?_
  rintro e w4 ⟨g2, rfl, hh⟩
  replace H := Lib.hid hh.rot
  clear hh
  go_wp2_with fail
  refine (hold_rpnew H.out (PdP.foot _ _) ((PdP.foot _ _).sep Emp.foot) K (by omega)).mono ?_
  rintro e w5 ⟨q, rfl, hh⟩
  replace H := Lib.hid hh
  clear hh
  go_wp2_with fail
  refine (hold_pup (er := 0) (s' := ⟨K, 2, []⟩) H.out (FR.out _ _ _ _)).mono ?_
  rintro e ws1 ⟨rfl, hst⟩
  replace H := Lib.hid hst
  clear hst
  go_wp2_with fail
  replace H := Lib.hid H.out.rot2
  refine (hold_pup (er := 0) (s' := ⟨K, 2, []⟩) H.out (FA.out _ _ _ _)).mono ?_
  rintro e ws2 ⟨rfl, hst⟩
  replace H := Lib.hid hst
  clear hst
  go_wp2_with fail
  replace H := Lib.hid H.out.tor2
  refine (hold_rpup (er := 0) (s' := ⟨K, 2, []⟩) H.out (FP.out _ _) (FQ.out _ _)).mono ?_
  rintro e ws3 ⟨rfl, hst⟩
  replace H := Lib.hid hst
  clear hst
  go_wp2_with fail
  go_loopw [11] (fun i wr => ∃ (k : Nat) (s t : Pd), k ≤ 30 ∧ i = .int .i64 (k : Int) ∧ s.st = 2 ∧ Hid (Hold w wr [] (Sep (PdP g s) (Sep (RpP q s) (Sep (PdP g2 t) Emp))))) (fun i _ => 30 - (intOf i).toNat)
  case atStart => exact ⟨0, _, _, by omega, rfl, rfl, H⟩
  case round =>
    clear H
    obtain ⟨k, s, t, hk, rfl, hst, H⟩ := hrel
    have HST := Lib.hid hst
    clear hst
    by_cases h12 : k < zs.length ∧ k < 30
    · obtain ⟨h1, h2⟩ := h12
      have d1 : decide ((k : Int) < (zs.length : Int)) = true := decide_eq_true (by omega)
      have d2 : decide ((k : Int) < 30) = true := decide_eq_true (by omega)
      obtain ⟨b, off, rfl, hcz, hw⟩ := HZ.out.at H.out.below h1
      generalize zs.getD k 0 = z at *
      have r3 := withinI_range z 12 (by omega)
      have WA := Lib.hid (fun w => within7_any z 12 w (by omega) (by omega) hw.1 hw.2)
      obtain ⟨x, hx⟩ : ∃ x : Int, 1 + withinI z 12 = x := ⟨_, rfl⟩
      have hwx : IntKind.i64.wrap (1 + withinI z 12) = x := by rw [hx]; exact IntWalk.i64_in _ ⟨by omega, by omega⟩
      have hxw : wf64 x := ⟨by omega, by omega⟩
      have hk1 : IntKind.i64.wrap ((k : Int) + 1) = (k : Int) + 1 := IntWalk.i64_in _ ⟨by omega, by omega⟩
      have HS2 := Lib.hid ((take_st s x).trans HST.out)
      clear hw r3 hx
      generalize withinI z 12 = ya at *
      go_wp2_with fail
      refine (WA.out _).mono ?_
      rintro e wx ⟨rfl, rfl⟩
      clear WA
      go_wp2_with fail
      refine (hold_ptake H.out (FR.out _ _ _ _) x hxw rfl rfl).mono ?_
      rintro e ws4 ⟨rfl, hst⟩
      replace H := Lib.hid hst
      clear hst
      go_wp2_with fail
      refine (hold_rptake H.out (FP.out _ _) (FQ.out _ _) x hxw rfl rfl).mono ?_
      rintro e ws5 ⟨rfl, hst⟩
      replace H := Lib.hid hst
      clear hst
      by_cases h3 : k < ms.length
      · have d3 : decide ((k : Int) < (ms.length : Int)) = true := decide_eq_true (by omega)
        obtain ⟨b2, off2, rfl, hcz2, hw2⟩ := HM.out.at H.out.below h3
        generalize ms.getD k 0 = z2 at *
        have r3 := withinI_range z2 12 (by omega)
        have WA := Lib.hid (fun w => within7_any z2 12 w (by omega) (by omega) hw2.1 hw2.2)
        obtain ⟨x2, hx2⟩ : ∃ x : Int, 1 + withinI z2 12 = x := ⟨_, rfl⟩
        have hwx2 : IntKind.i64.wrap (1 + withinI z2 12) = x2 := by rw [hx2]; exact IntWalk.i64_in _ ⟨by omega, by omega⟩
        have hxw2 : wf64 x2 := ⟨by omega, by omega⟩
        clear hw2 r3 hx2 hcz
        generalize withinI z2 12 = ya2 at *
        go_wp2_with fail
        refine (WA.out _).mono ?_
        rintro e wx ⟨rfl, rfl⟩
        clear WA
        go_wp2_with fail
        replace H := Lib.hid H.out.rot2
        refine (hold_ptake H.out (FA.out _ _ _ _) x2 hxw2 rfl rfl).mono ?_
        rintro e ws6 ⟨rfl, hst⟩
        replace H := Lib.hid hst
        clear hst
        go_wp2_with fail
        replace H := Lib.hid H.out.tor2
        go_roundw
        case rel => exact ⟨k + 1, _, _, by omega, by go_num, HS2.out, H⟩
        case measure => simp [intOf]; omega
      · have d3 : decide ((k : Int) < (ms.length : Int)) = false := decide_eq_false (by omega)
        clear hcz
        go_wp2_with fail
        go_roundw
        case rel => exact ⟨k + 1, _, _, by omega, by go_num, HS2.out, H⟩
        case measure => simp [intOf]; omega
    · have hls : (s.lost).length ≤ 100000 := H.out.see fun F hF => by
        obtain ⟨F1, F2, ⟨m, hI, _⟩, _⟩ := hF
        have h1 := hI.ok.len
        have h2 := hI.ok.c
        unfold Pd.lost
        split
        · exact Nat.zero_le _
        · omega
      have hj : (¬ k < zs.length) ∨ (k < zs.length ∧ ¬ k < 30) := by omega
      rcases hj with h1 | ⟨h1, h2⟩
      case' inl => have d1 : decide ((k : Int) < (zs.length : Int)) = false := decide_eq_false (by omega)
      case' inr =>
        have d1 : decide ((k : Int) < (zs.length : Int)) = true := decide_eq_true (by omega)
        have d2 : decide ((k : Int) < 30) = false := decide_eq_false (by omega)
      all_goals
        clear h12
        go_wp2_with fail
        replace H := Lib.hid H.out.rot2
        refine (hold_pkill H.out (FA.out _ _ _ _) rfl rfl).mono ?_
        rintro e w6 ⟨u, rfl, hst⟩
        have hst2 := hst.rot.drop1
        replace H := Lib.hid hst2.tor2
        clear hst hst2
        go_wp2_with fail
        refine (hold_pload H.out rfl).mono ?_
        rintro e ws7 ⟨rfl, hst⟩
        replace H := Lib.hid hst
        clear hst
        go_wp2_with fail
        refine (hold_rpload H.out rfl).mono ?_
        rintro e ws8 ⟨rfl, hst⟩
        replace H := Lib.hid hst
        clear hst
        go_wp2_with fail
        refine (hold_pstate H.out HST.out).mono ?_
        rintro e ws9 ⟨rfl, hst⟩
        replace H := Lib.hid hst
        clear hst
        go_wp2_with fail
        refine (hold_pkill H.out (FR.out _ _ _ _) rfl rfl).mono ?_
        rintro e w7 ⟨u1, rfl, hst⟩
        replace H := Lib.hid (hst.map fun F q => q.under fun F q => q.rot)
        clear hst
        go_wp2_with fail
        refine (hold_rpkill H.out (FP.out _ _) ((RowF.foot _ _ _ _ _ _).sep (FQ.out _ _)) rfl rfl).mono ?_
        rintro e w8 ⟨u2, rfl, hst⟩
        replace H := Lib.hid hst
        clear hst
        go_wp2_with fail
        refine (told_same H.out hls (FP.out _ _) (RpP.foot _ _) (FQ.out _ _)).mono ?_
        rintro e ws10 ⟨rfl, hst⟩
        replace H := Lib.hid hst
        clear hst
        go_wp2_with fail
        go_ret
        exact ⟨rfl, H.out.below⟩
end Go.Proofs.Ytkjcofgdilfdkaa

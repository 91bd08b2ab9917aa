
/- The walk of GaugeApart. -/
import Derived.Test.YtpfjpeddplkbgaaZ68
import Derived.Test.YtpfjpeddplkbgaaZ29
namespace Go.Proofs.Ytpfjpeddplkbgaa
set_option maxRecDepth 100000
set_option linter.unusedVariables false
set_option linter.unusedSimpArgs false
set_option linter.unnecessarySimpa false
open Go.RowKit

set_option maxHeartbeats 16000000 in
theorem walkGaugeApart (w : World) (v : Value) (zs : List Int) (hz : IntSlice w v zs) (v2 : Value) (ms : List Int) (hm : IntSlice w v2 ms) :
    Calls Try.prog 7 #[v, v2] w fun e w' => e = .returned (.bool true) ∧ Below w.heap.size w w' := by
  have KN := Lib.hid (fun w => known9_any w)
  have FE := Lib.hid Emp.foot
  have FP := Lib.hid GgP.foot
  have FR := Lib.hid (fun g s h t => (RgP.foot g s).sep ((GgP.foot h t).sep Emp.foot))
  have FA := Lib.hid (fun g s h t => (GgP.foot g s).sep ((RgP.foot h t).sep Emp.foot))
  have FQ := Lib.hid (fun h t => (GgP.foot h t).sep Emp.foot)
  obtain ⟨va, vc, rfl, hat⟩ := hz.open
  have HZ := Lib.hid hat
  obtain ⟨ua, uc, rfl, hat2⟩ := hm.open
  have HM := Lib.hid hat2
  clear hat hz hat2 hm
  go_enter Try.func7, Try.ntmps7
  go_wp2_with fail
  refine (KN.out _).mono ?_
  rintro e w1 ⟨rfl, hg⟩
  have H := Lib.hid ((Hold.nil w).grow Emp.foot hg)
  clear hg
  go_wp2_with fail
  refine (hold_gnew H.out Emp.foot).mono ?_
  rintro e w3 ⟨g, rfl, hh⟩
  replace H := Lib.hid hh
  clear hh
  go_wp2_with fail
  refine (hold_gnew H.out ((GgP.foot _ _).sep Emp.foot)).mono ?_
  rintro e w4 ⟨g2, rfl, hh⟩
  replace H := Lib.hid hh.rot
  clear hh
  go_wp2_with fail
  replace H := Lib.hid (hold_rgnew H.out (GgP.foot _ _) ((GgP.foot _ _).sep Emp.foot))
  generalize w4.heap.size = q at *
  go_loopw [8] (fun i wr => ∃ (k : Nat) (s t : List Int), k ≤ 40 ∧ i = .int .i64 (k : Int) ∧ s.length ≤ k ∧ t.length ≤ k ∧ Hid (Hold w wr [] (Sep (GgP g s) (Sep (RgP q s) (Sep (GgP g2 t) Emp))))) (fun i _ => 40 - (intOf i).toNat)
  case atStart => exact ⟨0, _, _, by omega, rfl, Nat.le_refl _, Nat.le_refl _, H⟩
  case round =>
    clear H
    obtain ⟨k, s, t, hk, rfl, hs, ht, H⟩ := hrel
    by_cases h12 : k < zs.length ∧ k < 40
    · obtain ⟨h1, h2⟩ := h12
      have d1 : decide ((k : Int) < (zs.length : Int)) = true := decide_eq_true (by omega)
      have d2 : decide ((k : Int) < 40) = true := decide_eq_true (by omega)
      obtain ⟨b, off, rfl, hcz, hw⟩ := HZ.out.at H.out.below h1
      have hcz2 := Lib.hid (fun w' (g : Grow.G w w') => HZ.out.at g h1)
      have r3 := withinI_range (zs.getD k 0) 9 (by omega)
      have WA := Lib.hid (fun w => within9_any (zs.getD k 0) 9 w (by omega) (by omega) hw.1 hw.2)
      generalize zs.getD k 0 = z at *
      obtain ⟨x, hx⟩ : ∃ x : Int, withinI z 9 - 2 = x := ⟨_, rfl⟩
      have hwx : IntKind.i64.wrap (withinI z 9 - 2) = x := by rw [hx]; exact IntWalk.i64_in _ ⟨by omega, by omega⟩
      have hxb : -1000000 ≤ x ∧ x ≤ 1000000 := ⟨by omega, by omega⟩
      have hk1 : IntKind.i64.wrap ((k : Int) + 1) = (k : Int) + 1 := IntWalk.i64_in _ ⟨by omega, by omega⟩
      clear hw r3 hx
      generalize withinI z 9 = ya at *
      go_wp2_with fail
      refine (WA.out _).mono ?_
      rintro e wx ⟨rfl, rfl⟩
      go_wp2_with fail
      refine (hold_gadd H.out (FR.out _ _ _ _) x hxb (by omega)).mono ?_
      rintro e w5 ⟨⟨_, rfl⟩, hst⟩
      replace H := Lib.hid hst
      obtain ⟨b', off', hbo, hcz, _⟩ := hcz2.out _ hst.below
      cases hbo
      clear hst
      go_wp2_with fail
      refine (WA.out _).mono ?_
      rintro e wx ⟨rfl, rfl⟩
      go_wp2_with fail
      refine (hold_rgadd H.out (FP.out _ _) (FQ.out _ _) x hxb.2 (by omega)).mono ?_
      rintro e w6 ⟨⟨_, rfl⟩, hst⟩
      replace H := Lib.hid hst
      clear hst hcz WA
      have hs2 := Gg.len_add s x
      by_cases h3 : k < ms.length
      · have d3 : decide ((k : Int) < (ms.length : Int)) = true := decide_eq_true (by omega)
        obtain ⟨b2, off2, rfl, hcz2, hw2⟩ := HM.out.at H.out.below h3
        generalize ms.getD k 0 = z2 at *
        have r3 := withinI_range z2 100 (by omega)
        have WA := Lib.hid (fun w => within9_any z2 100 w (by omega) (by omega) hw2.1 hw2.2)
        have hxb2 : -1000000 ≤ withinI z2 100 ∧ withinI z2 100 ≤ 1000000 := ⟨by omega, by omega⟩
        clear hw2 r3
        generalize withinI z2 100 = ya2 at *
        have ht2 := Gg.len_add t ya2
        go_wp2_with fail
        refine (WA.out _).mono ?_
        rintro e wx ⟨rfl, rfl⟩
        clear WA
        go_wp2_with fail
        replace H := Lib.hid H.out.rot2
        refine (hold_gadd H.out (FA.out _ _ _ _) ya2 hxb2 (by omega)).mono ?_
        rintro e w7 ⟨⟨_, rfl⟩, hst⟩
        replace H := Lib.hid hst.tor2
        clear hst
        go_wp2_with fail
        go_roundw
        case rel => exact ⟨k + 1, _, _, by omega, by go_num, by omega, by omega, H⟩
        case measure => simp [intOf]; omega
      · have d3 : decide ((k : Int) < (ms.length : Int)) = false := decide_eq_false (by omega)
        go_wp2_with fail
        go_roundw
        case rel => exact ⟨k + 1, _, _, by omega, by go_num, by omega, by omega, H⟩
        case measure => simp [intOf]; omega
    · have hj : (¬ k < zs.length) ∨ (k < zs.length ∧ ¬ k < 40) := by omega
      rcases hj with h1 | ⟨h1, h2⟩
      case' inl => have d1 : decide ((k : Int) < (zs.length : Int)) = false := decide_eq_false (by omega)
      case' inr =>
        have d1 : decide ((k : Int) < (zs.length : Int)) = true := decide_eq_true (by omega)
        have d2 : decide ((k : Int) < 40) = false := decide_eq_false (by omega)
      all_goals
        clear h12
        have W20 : wf64 20 := ⟨by decide, by decide⟩
        go_wp2_with fail
        refine (hold_glast H.out (FR.out _ _ _ _) 20 W20).mono ?_
        rintro e ws1 ⟨rfl, hst⟩
        replace H := Lib.hid hst
        clear hst
        go_wp2_with fail
        refine (hold_rglast H.out 20 W20).mono ?_
        rintro e ws2 ⟨rfl, hst⟩
        replace H := Lib.hid hst
        clear hst
        go_wp2_with fail
        refine (hold_gidle H.out (FR.out _ _ _ _)).mono ?_
        rintro e ws3 ⟨rfl, hst⟩
        replace H := Lib.hid hst
        clear hst
        go_wp2_with fail
        refine (hold_rgidle H.out (FP.out _ _) (FQ.out _ _)).mono ?_
        rintro e ws4 ⟨rfl, hst⟩
        replace H := Lib.hid hst
        clear hst
        go_wp2_with fail
        go_ret
        exact ⟨rfl, H.out.below⟩
end Go.Proofs.Ytpfjpeddplkbgaa

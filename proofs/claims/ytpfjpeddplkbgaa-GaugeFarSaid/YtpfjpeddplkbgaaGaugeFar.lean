
/- The walk of GaugeFar. -/
import Derived.Test.YtpfjpeddplkbgaaZ68
import Derived.Test.YtpfjpeddplkbgaaZ29
namespace Go.Proofs.Ytpfjpeddplkbgaa
set_option maxRecDepth 100000
set_option linter.unusedVariables false
set_option linter.unusedSimpArgs false
set_option linter.unnecessarySimpa false
open Go.RowKit

theorem far_add (s t : List Int) (x : Int) : Gg.add (s ++ t) x = s ++ Gg.add t x := by unfold Gg.add; rw [List.append_assoc]
set_option maxHeartbeats 16000000 in
theorem walkGaugeFar (w : World) (v : Value) (zs : List Int) (hz : IntSlice w v zs) (v2 : Value) (ms : List Int) (hm : IntSlice w v2 ms) (n : Int) (hn : wf64 n) :
    Calls Try.prog 8 #[v, v2, .int .i64 n] w fun e w' => e = .returned (.bool true) ∧ Below w.heap.size w w' := by
  have KN := Lib.hid (fun w => known9_any w)
  have FE := Lib.hid Emp.foot
  have FP := Lib.hid (fun h t => (GgP.foot h t).sep Emp.foot)
  obtain ⟨va, vc, rfl, hat⟩ := hz.open
  have HZ := Lib.hid hat
  obtain ⟨ua, uc, rfl, hat2⟩ := hm.open
  have HM := Lib.hid hat2
  have HN := Lib.hid hn
  clear hat hz hat2 hm hn
  obtain ⟨K, hK⟩ : ∃ K : Nat, (if (50 : Int) < (zs.length : Int) then (50 : Int) else (zs.length : Int)) = (K : Int) := ⟨min 50 zs.length, by omega⟩
  have hKz : K ≤ zs.length := by omega
  have hK50 : K ≤ 50 := by omega
  have hKw : IntKind.i64.wrap ((K : Int) + 1) = (K : Int) + 1 := IntWalk.i64_in _ ⟨by omega, by omega⟩
  go_enter Try.func8, Try.ntmps8
  go_wp2_with fail
  refine (KN.out _).mono ?_
  rintro e w1 ⟨rfl, hg⟩
  have H := Lib.hid ((Hold.nil w).grow Emp.foot hg)
  clear hg
  go_wp2_with fail
  refine (hold_gnew H.out Emp.foot).mono ?_
  rintro e w3 ⟨g, rfl, hh⟩
  replace H := Lib.hid hh
  clear hh
  go_wp2_with fail
  refine (hold_gnew H.out ((GgP.foot _ _).sep Emp.foot)).mono ?_
  rintro e w4 ⟨g2, rfl, hh⟩
  replace H := Lib.hid hh.rot
  clear hh
  go_wp2_with fail
  go_loopw [9] (fun i wr => ∃ (k : Nat) (s : List Int), k ≤ 70 ∧ i = .int .i64 (k : Int) ∧ s.length ≤ k ∧ Hid (Hold w wr [] (Sep (GgP g s) (Sep (GgP g2 Gg.new) Emp)))) (fun i _ => 70 - (intOf i).toNat)
  case atStart => exact ⟨0, _, by omega, rfl, Nat.le_refl _, H⟩
  case round =>
    clear H
    obtain ⟨k, s, hk, rfl, hs, H⟩ := hrel
    by_cases h12 : k < ms.length ∧ k < 70
    · obtain ⟨h1, h2⟩ := h12
      have d1 : decide ((k : Int) < (ms.length : Int)) = true := decide_eq_true (by omega)
      have d2 : decide ((k : Int) < 70) = true := decide_eq_true (by omega)
      obtain ⟨b, off, hbo, hcz, hw⟩ := HM.out.at H.out.below h1
      cases hbo
      generalize ms.getD k 0 = z at *
      have r3 := withinI_range z 50 (by omega)
      have WA := Lib.hid (fun w => within9_any z 50 w (by omega) (by omega) hw.1 hw.2)
      have hxb : -1000000 ≤ withinI z 50 ∧ withinI z 50 ≤ 1000000 := ⟨by omega, by omega⟩
      have hk1 : IntKind.i64.wrap ((k : Int) + 1) = (k : Int) + 1 := IntWalk.i64_in _ ⟨by omega, by omega⟩
      clear hw r3 hK
      generalize withinI z 50 = ya at *
      have hs2 := Gg.len_add s ya
      go_wp2_with fail
      refine (WA.out _).mono ?_
      rintro e wx ⟨rfl, rfl⟩
      go_wp2_with fail
      refine (hold_gadd H.out (FP.out _ _) ya hxb (by omega)).mono ?_
      rintro e w5 ⟨⟨_, rfl⟩, hst⟩
      replace H := Lib.hid hst
      clear hst
      go_wp2_with fail
      go_roundw
      case rel => exact ⟨k + 1, _, by omega, by go_num, by omega, H⟩
      case measure => simp [intOf]; omega
    · have hj : (¬ k < ms.length) ∨ (k < ms.length ∧ ¬ k < 70) := by omega
      rcases hj with h1 | ⟨h1, h2⟩
      case' inl => have d1 : decide ((k : Int) < (ms.length : Int)) = false := decide_eq_false (by omega)
      case' inr =>
        have d1 : decide ((k : Int) < (ms.length : Int)) = true := decide_eq_true (by omega)
        have d2 : decide ((k : Int) < 70) = false := decide_eq_false (by omega)
      all_goals
        clear h12
        go_wp2_with fail
        go_loopw [11] (fun i wr => ∃ (j : Nat) (t : List Int), j ≤ K ∧ i = .int .i64 (j : Int) ∧ t.length = j ∧ Hid (Hold w wr [] (Sep (GgP g (s ++ t)) (Sep (GgP g2 t) Emp)))) (fun i _ => K - (intOf i).toNat)
        case atStart => exact ⟨0, Gg.new, by omega, rfl, rfl, by rw [show s ++ Gg.new = s from List.append_nil s]; exact H⟩
        case round =>
          clear H
          obtain ⟨j, t, hj, rfl, ht, H⟩ := hrel
          by_cases h3 : j < K
          · have d3 : decide ((j : Int) < (K : Int)) = true := decide_eq_true (by omega)
            have h4 : j < zs.length := by omega
            obtain ⟨b, off, hbo, hcz, hw⟩ := HZ.out.at H.out.below h4
            cases hbo
            have hcz2 := Lib.hid (fun w' (g : Grow.G w w') => HZ.out.at g h4)
            have r3 := withinI_range (zs.getD j 0) 50 (by omega)
            have WA := Lib.hid (fun w => within9_any (zs.getD j 0) 50 w (by omega) (by omega) hw.1 hw.2)
            generalize zs.getD j 0 = z at *
            have hxb : -1000000 ≤ withinI z 50 ∧ withinI z 50 ≤ 1000000 := ⟨by omega, by omega⟩
            have hk1 : IntKind.i64.wrap ((j : Int) + 1) = (j : Int) + 1 := IntWalk.i64_in _ ⟨by omega, by omega⟩
            have hjz1 : (0 : Int) ≤ (j : Int) := by omega
            have hjz2 : (j : Int) < (zs.length : Int) := by omega
            clear hw r3 hK
            generalize withinI z 50 = ya at *
            have hs2 := Gg.len_add t ya
            have FA := Lib.hid (far_add s t ya)
            have hl : (s ++ t).length < 1000 := by rw [List.length_append]; omega
            have hl2 : t.length < 1000 := by omega
            go_wp2_with fail
            refine (WA.out _).mono ?_
            rintro e wx ⟨rfl, rfl⟩
            go_wp2_with fail
            refine (hold_gadd H.out (FP.out _ _) ya hxb hl).mono ?_
            rintro e w5 ⟨⟨_, rfl⟩, hst⟩
            rw [FA.out] at hst
            obtain ⟨b', off', hbo, hcz, _⟩ := hcz2.out _ hst.below
            cases hbo
            replace H := Lib.hid hst.rot
            clear hst
            go_wp2_with fail
            refine (WA.out _).mono ?_
            rintro e wx ⟨rfl, rfl⟩
            go_wp2_with fail
            refine (hold_gadd H.out (FP.out _ _) ya hxb hl2).mono ?_
            rintro e w6 ⟨⟨_, rfl⟩, hst⟩
            replace H := Lib.hid hst.rot
            clear hst
            go_wp2_with fail
            go_roundw
            case rel => exact ⟨j + 1, _, by omega, by go_num, by omega, H⟩
            case measure => simp [intOf]; omega
          · obtain rfl : j = K := by omega
            have d3 : decide ((j : Int) < (j : Int)) = false := decide_eq_false (by omega)
            have WI := Lib.hid (fun w => within9_any n ((j : Int) + 1) w (by omega) (by omega) HN.out.1 HN.out.2)
            have r4 := withinI_range n ((j : Int) + 1) (by omega)
            generalize withinI n ((j : Int) + 1) = m at *
            obtain ⟨M, rfl⟩ : ∃ M : Nat, m = (M : Int) := ⟨m.toNat, by omega⟩
            have hmw : wf64 (M : Int) := ⟨by omega, by omega⟩
            obtain ⟨f1, f2, f3⟩ := Gg.far (l := s) (m := t) (n := (M : Int)) (by omega) (by omega) (by omega)
            rw [Int.toNat_natCast] at f1 f2
            clear hK
            go_wp2_with fail
            refine (WI.out _).mono ?_
            rintro e wx ⟨rfl, rfl⟩
            go_wp2_with fail
            have L1 := hold_glast H.out (FP.out _ _) (M : Int) hmw
            rw [f1, f3] at L1
            refine L1.mono ?_
            rintro e w5 ⟨rfl, hst⟩
            replace H := Lib.hid hst.rot
            clear hst
            go_wp2_with fail
            have L2 := hold_glast H.out (FP.out _ _) (M : Int) hmw
            rw [f2] at L2
            refine L2.mono ?_
            rintro e w6 ⟨rfl, hst⟩
            replace H := Lib.hid hst
            clear hst
            go_wp2_with fail
            go_ret
            exact ⟨rfl, H.out.below⟩
end Go.Proofs.Ytpfjpeddplkbgaa


/- The walk of GaugeIdle. -/
import Derived.Test.YtpfjpeddplkbgaaZ68
import Derived.Test.YtpfjpeddplkbgaaZ29
namespace Go.Proofs.Ytpfjpeddplkbgaa
set_option maxRecDepth 100000
set_option linter.unusedVariables false
set_option linter.unusedSimpArgs false
set_option linter.unnecessarySimpa false
open Go.RowKit

set_option maxHeartbeats 16000000 in
theorem walkGaugeIdle (w : World) (v : Value) (zs : List Int) (hz : IntSlice w v zs) :
    Calls Try.prog 5 #[v] w fun e w' => e = .returned (.bool true) ∧ Below w.heap.size w w' := by
  have KN := Lib.hid (fun w => known9_any w)
  have FE := Lib.hid Emp.foot
  obtain ⟨va, vc, rfl, hat⟩ := hz.open
  have HZ := Lib.hid hat
  clear hat hz
  go_enter Try.func5, Try.ntmps5
  go_wp2_with fail
  refine (KN.out _).mono ?_
  rintro e w1 ⟨rfl, hg⟩
  have H := Lib.hid ((Hold.nil w).grow Emp.foot hg)
  clear hg
  go_wp2_with fail
  refine (hold_gnew H.out Emp.foot).mono ?_
  rintro e w3 ⟨g, rfl, hh⟩
  replace H := Lib.hid hh
  clear hh
  go_wp2_with fail
  go_loopw [4, 5] (fun n i wr => ∃ (k : Nat) (s : List Int), k ≤ 150 ∧ i = .int .i64 (k : Int) ∧ s.length = k ∧ n = .int .i64 (Gg.idle s) ∧ Hid (Hold w wr [] (Sep (GgP g s) Emp))) (fun _ i _ => 150 - (intOf i).toNat)
  case atStart => exact ⟨0, _, by omega, rfl, rfl, rfl, H⟩
  case round =>
    clear H
    obtain ⟨k, s, hk, rfl, hs, rfl, H⟩ := hrel
    by_cases h12 : k < zs.length ∧ k < 150
    · obtain ⟨h1, h2⟩ := h12
      have d1 : decide ((k : Int) < (zs.length : Int)) = true := decide_eq_true (by omega)
      have d2 : decide ((k : Int) < 150) = true := decide_eq_true (by omega)
      obtain ⟨b, off, rfl, hcz, hw⟩ := HZ.out.at H.out.below h1
      generalize zs.getD k 0 = z at *
      have r3 := withinI_range z 12 (by omega)
      have WA := Lib.hid (fun w => within9_any z 12 w (by omega) (by omega) hw.1 hw.2)
      obtain ⟨x, hx⟩ : ∃ x : Int, withinI z 12 - 10 = x := ⟨_, rfl⟩
      have hwx : IntKind.i64.wrap (withinI z 12 - 10) = x := by rw [hx]; exact IntWalk.i64_in _ ⟨by omega, by omega⟩
      have hxb : -1000000 ≤ x ∧ x ≤ 1000000 := ⟨by omega, by omega⟩
      have hk1 : IntKind.i64.wrap ((k : Int) + 1) = (k : Int) + 1 := IntWalk.i64_in _ ⟨by omega, by omega⟩
      have hi := Gg.idle_le s
      have hi1 : IntKind.i64.wrap ((Gg.idle s : Int) + 1) = (Gg.idle s : Int) + 1 := IntWalk.i64_in _ ⟨by omega, by omega⟩
      clear hw r3 hx
      generalize withinI z 12 = ya at *
      rcases Int.lt_or_le 0 x with hx0 | hx0
      · have e0 : decide (x < 0) = false := decide_eq_false (by omega)
        have e1 : ¬ x < 0 := by omega
        have e2 : (x == 0) = false := by simp; omega
        have IS := Lib.hid (Gg.idle_some (l := s) hx0)
        have hs2 := Gg.len_add s x
        go_wp2_with fail
        refine (WA.out _).mono ?_
        rintro e wx ⟨rfl, rfl⟩
        go_wp2_with fail
        refine (hold_gadd H.out FE.out x hxb (by omega)).mono ?_
        rintro e w5 ⟨⟨_, rfl⟩, hst⟩
        replace H := Lib.hid hst
        clear hst
        go_wp2_with fail
        have GI := hold_gidle H.out FE.out
        rw [IS.out] at GI
        refine (GI).mono ?_
        rintro e ws1 ⟨rfl, hst⟩
        replace H := Lib.hid hst
        clear hst
        go_wp2_with fail
        go_roundw
        case rel => exact ⟨k + 1, _, by omega, by go_num, by omega, by rw [IS.out]; rfl, H⟩
        case measure => simp [intOf]; omega
      · have e1 : ¬ 0 < x := by omega
        have hp : k % 2 = 0 ∨ k % 2 = 1 := by omega
        rcases hp with hp | hp
        case' inl =>
          have hm : (k : Int).tmod 2 = 0 := by rw [Int.tmod_eq_emod_of_nonneg (by omega)]; omega
          have IS := Lib.hid (Gg.idle_zero s)
          have hs2 := Gg.len_add s 0
          have hxv : -1000000 ≤ (0 : Int) ∧ (0 : Int) ≤ 1000000 := ⟨by decide, by decide⟩
        case' inr =>
          have hm : (k : Int).tmod 2 = 1 := by rw [Int.tmod_eq_emod_of_nonneg (by omega)]; omega
          have IS := Lib.hid (Gg.idle_neg s (-7) (by decide))
          have hs2 := Gg.len_add s (-7)
          have hxv : -1000000 ≤ (-7 : Int) ∧ (-7 : Int) ≤ 1000000 := ⟨by decide, by decide⟩
        all_goals
          rcases Int.lt_or_le x 0 with e4 | e4
          case' inl => skip
          case' inr =>
            obtain rfl : x = 0 := by omega
          all_goals
            go_wp2_with fail
            refine (WA.out _).mono ?_
            rintro e wx ⟨rfl, rfl⟩
            go_wp2_with fail
            refine (hold_gadd (H.out.grow ((GgP.foot _ _).sep FE.out) (Grow.G.alloc (Grow.G.refl _) _)) FE.out _ hxv (by omega)).mono ?_
            rintro e w5 ⟨⟨_, rfl⟩, hst⟩
            replace H := Lib.hid hst
            clear hst
            go_wp2_with fail
            have GI := hold_gidle H.out FE.out
            rw [IS.out] at GI
            refine (GI).mono ?_
            rintro e ws2 ⟨rfl, hst⟩
            replace H := Lib.hid hst
            clear hst
            go_wp2_with fail
            go_roundw
            case rel => exact ⟨k + 1, _, by omega, by go_num, by omega, by rw [IS.out]; rfl, H⟩
            case measure => simp [intOf]; omega
    · have hj : (¬ k < zs.length) ∨ (k < zs.length ∧ ¬ k < 150) := by omega
      rcases hj with h1 | ⟨h1, h2⟩
      case' inl => have d1 : decide ((k : Int) < (zs.length : Int)) = false := decide_eq_false (by omega)
      case' inr =>
        have d1 : decide ((k : Int) < (zs.length : Int)) = true := decide_eq_true (by omega)
        have d2 : decide ((k : Int) < 150) = false := decide_eq_false (by omega)
      all_goals
        go_wp2_with fail
        go_ret
        exact ⟨rfl, H.out.below⟩
end Go.Proofs.Ytpfjpeddplkbgaa


/- The walk of WaitLate. -/
import Derived.Test.YtlnffdkaleapbaaZ62
namespace Go.Proofs.Ytlnffdkaleapbaa
set_option maxRecDepth 100000
set_option linter.unusedVariables false
set_option linter.unusedSimpArgs false
set_option linter.unnecessarySimpa false
open Go.RowKit

set_option maxHeartbeats 16000000 in
theorem walkWaitLate (w : World) (v : Value) (zs : List Int) (hz : IntSlice w v zs) (v2 : Value) (ys : List Int) (hy : IntSlice w v2 ys) :
    Calls Try.prog 6 #[v, v2] w fun e w' => e = .returned (.bool true) ∧ Below w.heap.size w w' := by
  have KN := Lib.hid (fun w => known8_any w)
  have FE := Lib.hid Emp.foot
  have FP := Lib.hid LnP.foot
  have FR := Lib.hid (fun g s => (RlP.foot g s).sep Emp.foot)
  obtain ⟨va, vc, rfl, hat⟩ := hz.open
  have HZ := Lib.hid hat
  obtain ⟨ua, uc, rfl, hat2⟩ := hy.open
  have HY := Lib.hid hat2
  clear hat hz hat2 hy
  go_enter Try.func6, Try.ntmps6
  go_wp2_with fail
  refine (KN.out _).mono ?_
  rintro e w1 ⟨rfl, hg⟩
  have H := Lib.hid ((Hold.nil w).grow Emp.foot hg)
  clear hg
  go_wp2_with fail
  refine (hold_lnew H.out Emp.foot 8 (by omega)).mono ?_
  rintro e w3 ⟨g, rfl, hh⟩
  replace H := Lib.hid hh
  clear hh
  go_wp2_with fail
  refine (hold_rlnew H.out (LnP.foot _ _) Emp.foot 8 (by omega)).mono ?_
  rintro e w3 ⟨q, rfl, hh⟩
  replace H := Lib.hid hh
  clear hh
  go_wp2_with fail
  go_loopw [7] (fun i wr => ∃ (k : Nat) (s : Ln), k ≤ 8 ∧ i = .int .i64 (k : Int) ∧ Hid (Hold w wr [] (Sep (LnP g s) (Sep (RlP q s) Emp)))) (fun i _ => 8 - (intOf i).toNat)
  case atStart => exact ⟨0, Ln.new 8, by omega, rfl, H⟩
  case round =>
    clear H
    obtain ⟨k, s, hk, rfl, H⟩ := hrel
    by_cases h1 : k < zs.length ∧ k < 8
    · obtain ⟨h1, h2⟩ := h1
      have d1 : decide ((k : Int) < (zs.length : Int)) = true := decide_eq_true (by omega)
      have d2 : decide ((k : Int) < 8) = true := decide_eq_true (by omega)
      obtain ⟨b, off, rfl, hcz, hw⟩ := HZ.out.at H.out.below h1
      have hcz2 := Lib.hid (fun w' (g : Grow.G w w') => HZ.out.at g h1)
      have WA := Lib.hid (fun w => within8_any (zs.getD k 0) 30 w (by omega) (by omega) hw.1 hw.2)
      generalize zs.getD k 0 = z at *
      have hk1 : IntKind.i64.wrap ((k : Int) + 1) = (k : Int) + 1 := IntWalk.i64_in _ ⟨by omega, by omega⟩
      clear hw
      generalize withinI z 30 = ya at *
      go_wp2_with fail
      refine (WA.out _).mono ?_
      rintro e wx ⟨rfl, rfl⟩
      go_wp2_with fail
      refine (hold_lpush H.out (FR.out _ _) ((k : Int) + 1) ya rfl rfl).mono ?_
      rintro e w5 ⟨rfl, hst⟩
      replace H := Lib.hid hst
      obtain ⟨b', off', hbo, hcz, _⟩ := hcz2.out _ hst.below
      cases hbo
      clear hst
      go_wp2_with fail
      refine (WA.out _).mono ?_
      rintro e wx ⟨rfl, rfl⟩
      go_wp2_with fail
      refine (hold_rlpush H.out (FP.out _ _) FE.out ((k : Int) + 1) ya rfl rfl).mono ?_
      rintro e ws1 ⟨rfl, hst⟩
      replace H := Lib.hid hst
      clear hst
      go_wp2_with fail
      go_roundw
      case rel => exact ⟨k + 1, _, by omega, by go_num, H⟩
      case measure => simp [intOf]; omega
    · have d12 : ¬ k < zs.length ∨ (k < zs.length ∧ ¬ k < 8) := by omega
      clear h1
      rcases d12 with c1 | ⟨c1, c2⟩
      case' inl => have d1 : decide ((k : Int) < (zs.length : Int)) = false := decide_eq_false (by omega)
      case' inr =>
        have d1 : decide ((k : Int) < (zs.length : Int)) = true := decide_eq_true (by omega)
        have d2 : decide ((k : Int) < 8) = false := decide_eq_false (by omega)
      all_goals
        go_wp2_with fail
        go_loopw [8, 9] (fun n i wr => ∃ (j : Nat) (t : Ln) (m : Int), j ≤ 12 ∧ 0 ≤ m ∧ m ≤ 5 * j ∧ n = .int .i64 m ∧ i = .int .i64 (j : Int) ∧ Hid (Hold w wr [] (Sep (LnP g t) (Sep (RlP q t) Emp)))) (fun _ i _ => 12 - (intOf i).toNat)
        case atStart => exact ⟨0, s, 0, by omega, by omega, by omega, rfl, rfl, H⟩
        case round =>
          clear H
          obtain ⟨j, t, m, hj, hm0, hm5, rfl, rfl, H⟩ := hrel
          by_cases h1 : j < ys.length ∧ j < 12
          · obtain ⟨h1, h2⟩ := h1
            have e1 : decide ((j : Int) < (ys.length : Int)) = true := decide_eq_true (by omega)
            have e2 : decide ((j : Int) < 12) = true := decide_eq_true (by omega)
            obtain ⟨b, off, rfl, hcz, hw⟩ := HY.out.at H.out.below h1
            have r5 := withinI_range (ys.getD j 0) 6 (by omega)
            have WA := Lib.hid (fun w => within8_any (ys.getD j 0) 6 w (by omega) (by omega) hw.1 hw.2)
            generalize ys.getD j 0 = z at *
            have hk1 : IntKind.i64.wrap ((j : Int) + 1) = (j : Int) + 1 := IntWalk.i64_in _ ⟨by omega, by omega⟩
            obtain ⟨M, hM⟩ : ∃ M : Int, m + withinI z 6 = M := ⟨_, rfl⟩
            have hwM : IntKind.i64.wrap (m + withinI z 6) = M := by rw [hM]; exact IntWalk.i64_in _ ⟨by omega, by omega⟩
            have hM0 : 0 ≤ M := by omega
            have hM5 : M ≤ 5 * (j + 1 : Nat) := by omega
            have hls := Lib.hid (show (t.late M).length ≤ 100000 by have h1 := ln_ids_le H.out; have h2 := t.late_len M; omega)
            have LT := Lib.hid (late_twice t M)
            clear hw r5 hM
            generalize withinI z 6 = ya at *
            go_wp2_with fail
            refine (WA.out _).mono ?_
            rintro e wx ⟨rfl, rfl⟩
            go_wp2_with fail
            refine (hold_llate H.out (FR.out _ _) M rfl rfl).mono ?_
            rintro e w5 ⟨u, rfl, hst⟩
            replace H := Lib.hid (hst.map fun F q => q.under fun F q => q.rot)
            clear hst
            go_wp2_with fail
            refine (hold_rllate H.out (FP.out _ _) ((IntO.foot _ _).sep FE.out) M rfl rfl).mono ?_
            rintro e w6 ⟨u2, rfl, hst⟩
            replace H := Lib.hid hst
            clear hst
            go_wp2_with fail
            refine (told8_same H.out hls.out (FP.out _ _) (RlP.foot _ _) FE.out).mono ?_
            rintro e ws2 ⟨rfl, hst⟩
            replace H := Lib.hid hst
            clear hst
            go_wp2_with fail
            refine (hold_llate H.out (FR.out _ _) M LT.out.1 LT.out.2).mono ?_
            rintro e w7 ⟨u4, rfl, hst⟩
            have ho4 : ∃ a c, u4 = .slice a 0 c := by
              obtain ⟨F, ⟨F1, F2, _, ⟨F3, F4, ho, _⟩, _⟩, _⟩ := hst.st
              exact ho.1.shape
            obtain ⟨a4, c4, rfl⟩ := ho4
            replace H := Lib.hid (hst.weak fun F q => q.weakR fun F q => q.dropL)
            clear hst
            go_wp2_with fail
            have hls2 := (ln_ids_le H.out).1
            refine (hold_lall H.out (FR.out _ _) rfl).mono ?_
            rintro e w7 ⟨u3, rfl, ho3, hst⟩
            have O3 := Lib.hid ho3
            replace H := Lib.hid hst
            clear hst ho3
            go_wp2_with fail
            refine (hold_rlall H.out (FP.out _ _) FE.out rfl).mono ?_
            rintro e w8 ⟨u4, rfl, ho4, hg4, hst⟩
            have O4 := Lib.hid ho4
            have G4 := Lib.hid hg4
            replace H := Lib.hid hst
            clear hst ho4 hg4
            go_wp2_with fail
            refine (ints8_own (by omega) (O3.out.later G4.out) O4.out).mono ?_
            rintro e w9 ⟨rfl, hg⟩
            replace H := Lib.hid (H.out.grow ((LnP.foot _ _).sep (FR.out _ _)) hg)
            clear hg
            go_wp2_with fail
            go_roundw
            case rel => exact ⟨j + 1, _, M, by omega, hM0, hM5, rfl, by go_num, H⟩
            case measure => simp [intOf]; omega
          · have d12 : ¬ j < ys.length ∨ (j < ys.length ∧ ¬ j < 12) := by omega
            clear h1
            rcases d12 with c1 | ⟨c1, c2⟩
            case' inl => have e1 : decide ((j : Int) < (ys.length : Int)) = false := decide_eq_false (by omega)
            case' inr =>
              have e1 : decide ((j : Int) < (ys.length : Int)) = true := decide_eq_true (by omega)
              have e2 : decide ((j : Int) < 12) = false := decide_eq_false (by omega)
            all_goals
              go_wp2_with fail
              refine (hold_llen H.out rfl).mono ?_
              rintro e ws3 ⟨rfl, hst⟩
              replace H := Lib.hid hst
              clear hst
              go_wp2_with fail
              refine (hold_rllen H.out rfl).mono ?_
              rintro e ws4 ⟨rfl, hst⟩
              replace H := Lib.hid hst
              clear hst
              go_wp2_with fail
              go_ret
              exact ⟨rfl, H.out.below⟩
end Go.Proofs.Ytlnffdkaleapbaa


/- The walk of PodFills. -/
import Derived.Test.YtkjcofgdilfdkaaZ58
namespace Go.Proofs.Ytkjcofgdilfdkaa
set_option maxRecDepth 100000
set_option linter.unusedVariables false
set_option linter.unusedSimpArgs false
set_option linter.unnecessarySimpa false
open Go.RowKit Go.MapV Go.Maps

set_option maxHeartbeats 8000000 in
theorem walkPodFills (w : World) (c : Int) (hc : wf64 c) (v : Value) (zs : List Int) (hz : IntSlice w v zs) :
    Calls Try.prog 8 #[.int .i64 c, v] w fun e w' => e = .returned (.bool true) ∧ Below w.heap.size w w' := by
  have KN := Lib.hid (fun w => known7_any w)
  have FE := Lib.hid Emp.foot
  obtain ⟨va, vc, rfl, hat⟩ := hz.open
  have HZ := Lib.hid hat
  have r1 := withinI_range c 8 (by omega)
  have WI := Lib.hid (fun w => within7_any c 8 w (by omega) (by omega) hc.1 hc.2)
  obtain ⟨K, hK⟩ : ∃ K : Nat, 1 + withinI c 8 = K := ⟨(1 + withinI c 8).toNat, by omega⟩
  have hK1 : 1 ≤ K := by omega
  have hK8 : K ≤ 8 := by omega
  have hw1 : IntKind.i64.wrap (1 + withinI c 8) = (K : Int) := by rw [hK]; exact IntWalk.i64_in _ ⟨by omega, by omega⟩
  have hw2 : IntKind.i64.wrap ((K : Int) - 1) = (K : Int) - 1 := IntWalk.i64_in _ ⟨by omega, by omega⟩
  have F1 := Lib.hid (fun i h => fill_one (K := K) (i := i) h)
  clear hz hat hc r1
  generalize withinI c 8 = y at *
  go_enter Try.func8, Try.ntmps8
  go_wp2_with fail
  refine (KN.out _).mono ?_
  rintro e w1 ⟨rfl, hg⟩
  have H := Lib.hid ((Hold.nil w).grow Emp.foot hg)
  clear hg
  go_wp2_with fail
  refine (WI.out _).mono ?_
  rintro e w2 ⟨rfl, rfl⟩
  go_wp2_with fail
  refine (hold_pnew H.out Emp.foot K (by omega)).mono ?_
  rintro e w3 ⟨g, rfl, hh⟩
  replace H := Lib.hid hh
  clear hh hw1 hK WI
  go_wp2_with fail
  refine (hold_pup (er := 0) (s' := ⟨K, 2, fromTo 0 0⟩) H.out Emp.foot).mono ?_
  rintro e ws1 ⟨rfl, hst⟩
  replace H := Lib.hid hst
  clear hst
  go_wp2_with fail
  go_loopw [7] (fun i wr => ∃ k : Nat, k ≤ K ∧ i = .int .i64 ((k : Int) + 1) ∧ Hid (Hold w wr [] (Sep (PdP g ⟨K, 2, fromTo 0 k⟩) Emp))) (fun i _ => K + 1 - (intOf i).toNat)
  case atStart => exact ⟨0, by omega, rfl, H⟩
  case round =>
    clear H
    obtain ⟨k, hk, rfl, H⟩ := hrel
    by_cases hlt : k < K
    · have d0 : decide ((k : Int) + 1 ≤ (K : Int)) = true := decide_eq_true (by omega)
      have hk1 : IntKind.i64.wrap ((k : Int) + 1 + 1) = (k : Int) + 1 + 1 := IntWalk.i64_in _ ⟨by omega, by omega⟩
      obtain ⟨f1, f2⟩ := F1.out k hlt
      have TK := Lib.hid (hold_ptake (er := 0) (s' := ⟨K, 2, fromTo 0 (k + 1)⟩) H.out Emp.foot ((k : Int) + 1) ⟨by omega, by omega⟩ f1 f2)
      clear f1 f2
      go_wp2_with fail
      refine (TK.out).mono ?_
      rintro e ws2 ⟨rfl, hst⟩
      replace H := Lib.hid hst
      clear hst
      go_wp2_with fail
      go_roundw
      case rel => exact ⟨k + 1, by omega, by go_num, H⟩
      case measure => simp [intOf]; omega
    · have d0 : decide ((k : Int) + 1 ≤ (K : Int)) = false := decide_eq_false (by omega)
      obtain rfl : k = K := by omega
      clear F1
      go_wp2_with fail
      go_loopw [8] (fun i wr => ∃ j : Nat, j ≤ 40 ∧ i = .int .i64 (j : Int) ∧ Hid (Hold w wr [] (Sep (PdP g ⟨k, 2, fromTo 0 k⟩) Emp))) (fun i _ => 40 - (intOf i).toNat)
      case atStart => exact ⟨0, by omega, rfl, H⟩
      case round =>
        clear H
        obtain ⟨j, hj, rfl, H⟩ := hrel
        by_cases hlt : j < zs.length ∧ j < 40
        · obtain ⟨h1, h2⟩ := hlt
          obtain ⟨b, off, rfl, hcz, hw⟩ := HZ.out.at H.out.below h1
          have d1 : decide ((j : Int) < (zs.length : Int)) = true := decide_eq_true (by omega)
          have d2 : decide ((j : Int) < 40) = true := decide_eq_true (by omega)
          generalize zs.getD j 0 = z at *
          have r1 := withinI_range z k (by omega)
          have WJ := Lib.hid (fun w => within7_any z k w (by omega) (by omega) hw.1 hw.2)
          obtain ⟨x, hx⟩ : ∃ x : Int, 1 + withinI z k = x := ⟨_, rfl⟩
          have hwx : IntKind.i64.wrap (1 + withinI z k) = x := by rw [hx]; exact IntWalk.i64_in _ ⟨by omega, by omega⟩
          obtain ⟨U, hU⟩ : ∃ U : Pd, U = ⟨k, 2, fromTo 0 k⟩ := ⟨_, rfl⟩
          obtain ⟨V, hV⟩ : ∃ V : Pd, V = ⟨k, 2, cutZ (fromTo 0 k) x⟩ := ⟨_, rfl⟩
          have FA := Lib.hid (fill_all (x := x) (by omega) (by omega) hK8 U V hU hV)
          have hxw : wf64 x := ⟨by omega, by omega⟩
          rw [← hU] at H ⊢
          have HU := Lib.hid hU
          have hj1 : IntKind.i64.wrap ((j : Int) + 1) = (j : Int) + 1 := IntWalk.i64_in _ ⟨by omega, by omega⟩
          clear hU hV r1 hw hx
          generalize withinI z k = yz at *
          go_wp2_with fail
          refine (WJ.out _).mono ?_
          rintro e w4 ⟨rfl, rfl⟩
          go_wp2_with fail
          refine (hold_ptake H.out FE.out 99 (by unfold wf64; omega) FA.out.1 FA.out.2.1).mono ?_
          rintro e ws3 ⟨rfl, hst⟩
          replace H := Lib.hid hst
          clear hst
          go_wp2_with fail
          refine (hold_pgive H.out FE.out x hxw FA.out.2.2.1 FA.out.2.2.2.1).mono ?_
          rintro e ws4 ⟨rfl, hst⟩
          replace H := Lib.hid hst
          clear hst
          go_wp2_with fail
          refine (hold_pgive H.out FE.out x hxw FA.out.2.2.2.2.1 FA.out.2.2.2.2.2.1).mono ?_
          rintro e ws5 ⟨rfl, hst⟩
          replace H := Lib.hid hst
          clear hst
          go_wp2_with fail
          refine (hold_pload H.out FA.out.2.2.2.2.2.2.1).mono ?_
          rintro e ws6 ⟨rfl, hst⟩
          replace H := Lib.hid hst
          clear hst
          go_wp2_with fail
          refine (hold_ptake H.out FE.out x hxw FA.out.2.2.2.2.2.2.2.1 FA.out.2.2.2.2.2.2.2.2.1).mono ?_
          rintro e ws7 ⟨rfl, hst⟩
          replace H := Lib.hid hst
          clear hst
          go_wp2_with fail
          refine (hold_pload H.out FA.out.2.2.2.2.2.2.2.2.2).mono ?_
          rintro e ws8 ⟨rfl, hst⟩
          replace H := Lib.hid hst
          clear hst
          go_wp2_with fail
          go_roundw
          case rel => exact ⟨j + 1, by omega, by go_num, by first | exact H | (rw [← HU.out]; exact H)⟩
          case measure => simp [intOf]; omega
        · have d9 : ¬ (j < zs.length ∧ j < 40) := hlt
          by_cases h1 : j < zs.length
          · have d1 : decide ((j : Int) < (zs.length : Int)) = true := decide_eq_true (by omega)
            have d2 : decide ((j : Int) < 40) = false := decide_eq_false (by omega)
            clear d9 hlt
            go_wp2_with fail
            refine (hold_pstate (er := 2) H.out).mono ?_
            rintro e ws9 ⟨rfl, hst⟩
            replace H := Lib.hid hst
            clear hst
            go_wp2_with fail
            go_ret
            exact ⟨rfl, H.out.below⟩
          · have d1 : decide ((j : Int) < (zs.length : Int)) = false := decide_eq_false (by omega)
            clear d9 hlt
            go_wp2_with fail
            refine (hold_pstate (er := 2) H.out).mono ?_
            rintro e ws10 ⟨rfl, hst⟩
            replace H := Lib.hid hst
            clear hst
            go_wp2_with fail
            go_ret
            exact ⟨rfl, H.out.below⟩
end Go.Proofs.Ytkjcofgdilfdkaa


/- The walk of PodDrains. -/
import Derived.Test.YtkjcofgdilfdkaaZ58
namespace Go.Proofs.Ytkjcofgdilfdkaa
set_option maxRecDepth 100000
set_option linter.unusedVariables false
set_option linter.unusedSimpArgs false
set_option linter.unnecessarySimpa false
open Go.RowKit Go.MapV Go.Maps

set_option maxHeartbeats 8000000 in
theorem walkPodDrains (w : World) (c : Int) (hc : wf64 c) (n : Int) (hn : wf64 n) (v : Value) (zs : List Int) (hz : IntSlice w v zs) :
    Calls Try.prog 5 #[.int .i64 c, .int .i64 n, v] w fun e w' => e = .returned (.bool true) ∧ Below w.heap.size w w' := by
  have KN := Lib.hid (fun w => known7_any w)
  have FE := Lib.hid Emp.foot
  obtain ⟨va, vc, rfl, hat⟩ := hz.open
  clear hat hz
  have r1 := withinI_range c 8 (by omega)
  have WI := Lib.hid (fun w => within7_any c 8 w (by omega) (by omega) hc.1 hc.2)
  obtain ⟨K, hK⟩ : ∃ K : Nat, 1 + withinI c 8 = K := ⟨(1 + withinI c 8).toNat, by omega⟩
  have hK1 : 1 ≤ K := by omega
  have hK8 : K ≤ 8 := by omega
  have hw1 : IntKind.i64.wrap (1 + withinI c 8) = (K : Int) := by rw [hK]; exact IntWalk.i64_in _ ⟨by omega, by omega⟩
  have hw2 : IntKind.i64.wrap ((K : Int) + 1) = (K : Int) + 1 := IntWalk.i64_in _ ⟨by omega, by omega⟩
  have r2 := withinI_range n ((K : Int) + 1) (by omega)
  have WJ := Lib.hid (fun w => within7_any n ((K : Int) + 1) w (by omega) (by omega) hn.1 hn.2)
  obtain ⟨m, hm⟩ : ∃ m : Nat, withinI n ((K : Int) + 1) = m := ⟨(withinI n ((K : Int) + 1)).toNat, by omega⟩
  rw [hm] at WJ r2
  have hmK : m ≤ K := by omega
  have F1 := Lib.hid (fun i h => fill_one (K := K) (i := i) h)
  have F2 := Lib.hid (drn_start K m)
  have F3 := Lib.hid (drn_take K m 0)
  have F4 := Lib.hid (fun i h => drn_step (K := K) (m := m) (i := i) h)
  have F5 := Lib.hid (drn_end K m)
  clear hc hn r1 r2 hm
  generalize withinI c 8 = y at *
  go_enter Try.func5, Try.ntmps5
  go_wp2_with fail
  refine (KN.out _).mono ?_
  rintro e w1 ⟨rfl, hg⟩
  have H := Lib.hid ((Hold.nil w).grow Emp.foot hg)
  clear hg
  go_wp2_with fail
  refine (WI.out _).mono ?_
  rintro e w2 ⟨rfl, rfl⟩
  go_wp2_with fail
  refine (WJ.out _).mono ?_
  rintro e w2 ⟨rfl, rfl⟩
  go_wp2_with fail
  refine (hold_pnew H.out Emp.foot K (by omega)).mono ?_
  rintro e w3 ⟨g, rfl, hh⟩
  replace H := Lib.hid hh
  clear hh hw1 hK WI WJ hw2
  go_wp2_with fail
  refine (hold_pup (er := 0) (s' := ⟨K, 2, fromTo 0 0⟩) H.out Emp.foot).mono ?_
  rintro e ws1 ⟨rfl, hst⟩
  replace H := Lib.hid hst
  clear hst
  go_wp2_with fail
  go_loopw [10] (fun i wr => ∃ k : Nat, k ≤ m ∧ i = .int .i64 ((k : Int) + 1) ∧ Hid (Hold w wr [] (Sep (PdP g ⟨K, 2, fromTo 0 k⟩) Emp))) (fun i _ => m + 1 - (intOf i).toNat)
  case atStart => exact ⟨0, by omega, rfl, H⟩
  case round =>
    clear H
    obtain ⟨k, hk, rfl, H⟩ := hrel
    by_cases hlt : k < m
    · have d0 : decide ((k : Int) + 1 ≤ (m : Int)) = true := decide_eq_true (by omega)
      have hk1 : IntKind.i64.wrap ((k : Int) + 1 + 1) = (k : Int) + 1 + 1 := IntWalk.i64_in _ ⟨by omega, by omega⟩
      obtain ⟨f1, f2⟩ := F1.out k (by omega)
      have TK := Lib.hid (hold_ptake (er := 0) (s' := ⟨K, 2, fromTo 0 (k + 1)⟩) H.out Emp.foot ((k : Int) + 1) ⟨by omega, by omega⟩ f1 f2)
      clear f1 f2
      go_wp2_with fail
      refine (TK.out).mono ?_
      rintro e ws2 ⟨rfl, hst⟩
      replace H := Lib.hid hst
      clear hst
      go_wp2_with fail
      go_roundw
      case rel => exact ⟨k + 1, by omega, by go_num, H⟩
      case measure => simp [intOf]; omega
    · have d0 : decide ((k : Int) + 1 ≤ (m : Int)) = false := decide_eq_false (by omega)
      obtain rfl : k = m := by omega
      clear F1
      go_wp2_with fail
      refine (hold_pdrain H.out FE.out F2.out.1 F2.out.2).mono ?_
      rintro e ws3 ⟨rfl, hst⟩
      replace H := Lib.hid hst
      clear hst
      go_wp2_with fail
      refine (hold_ptake H.out FE.out 99 (by unfold wf64; omega) F3.out.1 F3.out.2).mono ?_
      rintro e ws4 ⟨rfl, hst⟩
      replace H := Lib.hid hst
      clear hst
      go_wp2_with fail
      go_loopw [11] (fun i wr => ∃ j : Nat, j ≤ k ∧ i = .int .i64 ((j : Int) + 1) ∧ Hid (Hold w wr [] (Sep (PdP g (drn K k j)) Emp))) (fun i _ => k + 1 - (intOf i).toNat)
      case atStart => exact ⟨0, by omega, rfl, H⟩
      case round =>
        clear H
        obtain ⟨j, hj, rfl, H⟩ := hrel
        by_cases hlt : j < k
        · have d0 : decide ((j : Int) + 1 ≤ (k : Int)) = true := decide_eq_true (by omega)
          have FS := Lib.hid (F4.out j hlt)
          have hw3 : IntKind.i64.wrap ((k : Int) - ((j : Int) + 1)) = (k : Int) - ((j : Int) + 1) := IntWalk.i64_in _ ⟨by omega, by omega⟩
          have hw4 : IntKind.i64.wrap ((k : Int) - ((j : Int) + 1) + 1) = (k : Int) - ((j : Int) + 1) + 1 := IntWalk.i64_in _ ⟨by omega, by omega⟩
          have hj1 : IntKind.i64.wrap ((j : Int) + 1 + 1) = (j : Int) + 1 + 1 := IntWalk.i64_in _ ⟨by omega, by omega⟩
          have hxw : wf64 ((j : Int) + 1) := ⟨by omega, by omega⟩
          go_wp2_with fail
          refine (hold_pstate H.out FS.out.1).mono ?_
          rintro e ws5 ⟨rfl, hst⟩
          replace H := Lib.hid hst
          clear hst
          go_wp2_with fail
          refine (hold_pload H.out FS.out.2.1).mono ?_
          rintro e ws6 ⟨rfl, hst⟩
          replace H := Lib.hid hst
          clear hst
          go_wp2_with fail
          refine (hold_pdrain H.out FE.out FS.out.2.2.1 FS.out.2.2.2.1).mono ?_
          rintro e ws7 ⟨rfl, hst⟩
          replace H := Lib.hid hst
          clear hst
          go_wp2_with fail
          refine (hold_pup H.out FE.out FS.out.2.2.2.2.1 FS.out.2.2.2.2.2.1).mono ?_
          rintro e ws8 ⟨rfl, hst⟩
          replace H := Lib.hid hst
          clear hst
          go_wp2_with fail
          refine (hold_pgive H.out FE.out _ hxw FS.out.2.2.2.2.2.2.1 FS.out.2.2.2.2.2.2.2).mono ?_
          rintro e ws9 ⟨rfl, hst⟩
          replace H := Lib.hid hst
          clear hst
          go_wp2_with fail
          go_roundw
          case rel => exact ⟨j + 1, by omega, by go_num, H⟩
          case measure => simp [intOf]; omega
        · have d0 : decide ((j : Int) + 1 ≤ (k : Int)) = false := decide_eq_false (by omega)
          obtain rfl : j = k := by omega
          rw [F5.out] at H
          clear F4 F2 F3
          go_wp2_with fail
          go_loopw [12] (fun i wr => ∃ q : Nat, q ≤ 20 ∧ i = .int .i64 (q : Int) ∧ Hid (Hold w wr [] (Sep (PdP g ⟨K, 4, []⟩) Emp))) (fun i _ => 20 - (intOf i).toNat)
          case atStart => exact ⟨0, by omega, rfl, H⟩
          case round =>
            clear H
            obtain ⟨q, hq, rfl, H⟩ := hrel
            have hq1 : IntKind.i64.wrap ((q : Int) + 1) = (q : Int) + 1 := IntWalk.i64_in _ ⟨by omega, by omega⟩
            by_cases h1 : q < zs.length
            · have d1 : decide ((q : Int) < (zs.length : Int)) = true := decide_eq_true (by omega)
              by_cases h2 : q < 20
              · have d2 : decide ((q : Int) < 20) = true := decide_eq_true (by omega)
                go_wp2_with fail
                refine (hold_pkill (er := 9) (s' := ⟨K, 4, []⟩) H.out FE.out).mono ?_
                rintro e w9 ⟨u, rfl, hst⟩
                replace H := Lib.hid hst.rot.drop1
                clear hst
                go_wp2_with fail
                refine (hold_pup (er := 9) (s' := ⟨K, 4, []⟩) H.out FE.out).mono ?_
                rintro e ws10 ⟨rfl, hst⟩
                replace H := Lib.hid hst
                clear hst
                go_wp2_with fail
                refine (hold_pdrain (er := 9) (s' := ⟨K, 4, []⟩) H.out FE.out).mono ?_
                rintro e ws11 ⟨rfl, hst⟩
                replace H := Lib.hid hst
                clear hst
                go_wp2_with fail
                refine (hold_ptake (er := 9) (s' := ⟨K, 4, []⟩) H.out FE.out 1 (by unfold wf64; omega)).mono ?_
                rintro e ws12 ⟨rfl, hst⟩
                replace H := Lib.hid hst
                clear hst
                go_wp2_with fail
                refine (hold_pgive (er := 6) (s' := ⟨K, 4, []⟩) H.out FE.out 1 (by unfold wf64; omega)).mono ?_
                rintro e ws13 ⟨rfl, hst⟩
                replace H := Lib.hid hst
                clear hst
                go_wp2_with fail
                go_roundw
                case rel => exact ⟨q + 1, by omega, by go_num, H⟩
                case measure => simp [intOf]; omega
              · have d2 : decide ((q : Int) < 20) = false := decide_eq_false (by omega)
                go_wp2_with fail
                refine (hold_pstate (er := 4) H.out).mono ?_
                rintro e ws14 ⟨rfl, hst⟩
                replace H := Lib.hid hst
                clear hst
                go_wp2_with fail
                refine (hold_pload (er := 0) H.out).mono ?_
                rintro e ws15 ⟨rfl, hst⟩
                replace H := Lib.hid hst
                clear hst
                go_wp2_with fail
                go_ret
                exact ⟨rfl, H.out.below⟩
            · have d1 : decide ((q : Int) < (zs.length : Int)) = false := decide_eq_false (by omega)
              go_wp2_with fail
              refine (hold_pstate (er := 4) H.out).mono ?_
              rintro e ws16 ⟨rfl, hst⟩
              replace H := Lib.hid hst
              clear hst
              go_wp2_with fail
              refine (hold_pload (er := 0) H.out).mono ?_
              rintro e ws17 ⟨rfl, hst⟩
              replace H := Lib.hid hst
              clear hst
              go_wp2_with fail
              go_ret
              exact ⟨rfl, H.out.below⟩
end Go.Proofs.Ytkjcofgdilfdkaa

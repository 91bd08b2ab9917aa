
/- The walk of GaugeKnown. -/
import Derived.Test.YtpfjpeddplkbgaaZ68
import Derived.Test.YtpfjpeddplkbgaaZ29
namespace Go.Proofs.Ytpfjpeddplkbgaa
set_option maxRecDepth 100000
set_option linter.unusedVariables false
set_option linter.unusedSimpArgs false
set_option linter.unnecessarySimpa false
open Go.RowKit

def upTo (k : Nat) : List Int := (List.range k).map (fun i : Nat => (i : Int) + 1)
theorem upTo_add (k : Nat) : Gg.add (upTo k) ((k : Int) + 1) = upTo (k + 1) := by
  unfold Gg.add upTo
  rw [List.range_succ, List.map_append, show max ((k : Int) + 1) 0 = (k : Int) + 1 by omega]
  rfl
theorem upTo_len (k : Nat) : (upTo k).length = k := by unfold upTo; rw [List.length_map, List.length_range]
theorem upTo_last : (Gg.sum (upTo 70) 2 = 139 ∧ Gg.num (upTo 70) 2 = 2) ∧ (Gg.sum (upTo 70) 6 = 405 ∧ Gg.num (upTo 70) 6 = 6) ∧ (Gg.sum (upTo 70) 60 = 2430 ∧ Gg.num (upTo 70) 60 = 60) ∧ (Gg.sum (upTo 70) 0 = 0 ∧ Gg.num (upTo 70) 0 = 0) ∧ (Gg.sum (Gg.add (Gg.add (upTo 70) 0) (-3)) 3 = 70 ∧ Gg.num (Gg.add (Gg.add (upTo 70) 0) (-3)) 3 = 3) ∧ Gg.idle (Gg.add (Gg.add (upTo 70) 0) (-3)) = 2 := by decide +kernel
set_option maxHeartbeats 16000000 in
theorem walkGaugeKnown (w : World) (n : Int) (hn : wf64 n) :
    Calls Try.prog 6 #[.int .i64 n] w fun e w' => e = .returned (.bool true) ∧ Below w.heap.size w w' := by
  have KN := Lib.hid (fun w => known9_any w)
  have FE := Lib.hid Emp.foot
  have r1 := withinI_range n 100 (by omega)
  have WI := Lib.hid (fun w => within9_any n 100 w (by omega) (by omega) hn.1 hn.2)
  obtain ⟨M, hM⟩ : ∃ M : Int, 61 + withinI n 100 = M := ⟨_, rfl⟩
  have hMw : IntKind.i64.wrap (61 + withinI n 100) = M := by rw [hM]; exact IntWalk.i64_in _ ⟨by omega, by omega⟩
  have hMf : wf64 M := ⟨by omega, by omega⟩
  have hM60 : 60 ≤ M := by omega
  clear hM r1 hn
  generalize withinI n 100 = ya at *
  have UL := Lib.hid upTo_last
  go_enter Try.func6, Try.ntmps6
  go_wp2_with fail
  refine (KN.out _).mono ?_
  rintro e w1 ⟨rfl, hg⟩
  have H := Lib.hid ((Hold.nil w).grow Emp.foot hg)
  clear hg
  go_wp2_with fail
  refine (hold_gnew H.out Emp.foot).mono ?_
  rintro e w3 ⟨g, rfl, hh⟩
  replace H := Lib.hid hh
  clear hh
  go_wp2_with fail
  go_loopw [4] (fun i wr => ∃ (k : Nat), k ≤ 70 ∧ i = .int .i64 ((k : Int) + 1) ∧ Hid (Hold w wr [] (Sep (GgP g (upTo k)) Emp))) (fun i _ => 71 - (intOf i).toNat)
  case atStart => exact ⟨0, by omega, rfl, H⟩
  case round =>
    clear H
    obtain ⟨k, hk, rfl, H⟩ := hrel
    by_cases h1 : k < 70
    · have d1 : decide ((k : Int) + 1 ≤ 70) = true := decide_eq_true (by omega)
      have hl := upTo_len k
      have UA := Lib.hid (upTo_add k)
      have hk1 : IntKind.i64.wrap ((k : Int) + 1 + 1) = (k : Int) + 1 + 1 := IntWalk.i64_in _ ⟨by omega, by omega⟩
      have hxb : -1000000 ≤ (k : Int) + 1 ∧ (k : Int) + 1 ≤ 1000000 := ⟨by omega, by omega⟩
      go_wp2_with fail
      refine (hold_gadd H.out FE.out ((k : Int) + 1) hxb (by omega)).mono ?_
      rintro e w5 ⟨⟨_, rfl⟩, hst⟩
      rw [UA.out] at hst
      replace H := Lib.hid hst
      clear hst
      go_wp2_with fail
      go_roundw
      case rel => exact ⟨k + 1, by omega, by go_num, H⟩
      case measure => simp [intOf]; omega
    · obtain rfl : k = 70 := by omega
      have hl := upTo_len 70
      have hl2 := Gg.len_add (upTo 70) 0
      have hl3 := Gg.len_add (Gg.add (upTo 70) 0) (-3)
      have OV := Lib.hid (Gg.over (l := upTo 70) hM60)
      have W2 : wf64 2 := ⟨by decide, by decide⟩
      have W6 : wf64 6 := ⟨by decide, by decide⟩
      have W60 : wf64 60 := ⟨by decide, by decide⟩
      have W0 : wf64 0 := ⟨by decide, by decide⟩
      have W3 : wf64 3 := ⟨by decide, by decide⟩
      clear h1 hk hM60
      generalize upTo 70 = l at *
      go_wp2_with fail
      have L1 := hold_glast H.out FE.out 2 W2
      rw [UL.out.1.1, UL.out.1.2] at L1
      refine (L1).mono ?_
      rintro e ws1 ⟨rfl, hst⟩
      replace H := Lib.hid hst
      clear hst
      go_wp2_with fail
      clear L1
      have L2 := hold_glast H.out FE.out 6 W6
      rw [UL.out.2.1.1, UL.out.2.1.2] at L2
      refine (L2).mono ?_
      rintro e ws2 ⟨rfl, hst⟩
      replace H := Lib.hid hst
      clear hst
      go_wp2_with fail
      clear L2
      have L3 := hold_glast H.out FE.out 60 W60
      rw [UL.out.2.2.1.1, UL.out.2.2.1.2] at L3
      refine (L3).mono ?_
      rintro e ws3 ⟨rfl, hst⟩
      replace H := Lib.hid hst
      clear hst
      go_wp2_with fail
      clear L3
      refine (WI.out _).mono ?_
      rintro e wx ⟨rfl, rfl⟩
      go_wp2_with fail
      have L4 := hold_glast H.out FE.out M hMf
      rw [OV.out.1, OV.out.2, UL.out.2.2.1.1, UL.out.2.2.1.2] at L4
      refine (L4).mono ?_
      rintro e ws4 ⟨rfl, hst⟩
      replace H := Lib.hid hst
      clear hst
      go_wp2_with fail
      clear L4
      have L5 := hold_glast H.out FE.out 0 W0
      rw [UL.out.2.2.2.1.1, UL.out.2.2.2.1.2] at L5
      refine (L5).mono ?_
      rintro e ws5 ⟨rfl, hst⟩
      replace H := Lib.hid hst
      clear hst
      go_wp2_with fail
      clear L5
      refine (hold_gadd H.out FE.out 0 ⟨by decide, by decide⟩ (by omega)).mono ?_
      rintro e w8 ⟨⟨_, rfl⟩, hst⟩
      replace H := Lib.hid hst
      clear hst
      go_wp2_with fail
      refine (hold_gadd H.out FE.out (-3) ⟨by decide, by decide⟩ (by omega)).mono ?_
      rintro e w9 ⟨⟨_, rfl⟩, hst⟩
      replace H := Lib.hid hst
      clear hst
      go_wp2_with fail
      have L6 := hold_glast H.out FE.out 3 W3
      rw [UL.out.2.2.2.2.1.1, UL.out.2.2.2.2.1.2] at L6
      refine (L6).mono ?_
      rintro e ws6 ⟨rfl, hst⟩
      replace H := Lib.hid hst
      clear hst
      go_wp2_with fail
      clear L6
      have L7 := hold_gidle H.out FE.out
      rw [UL.out.2.2.2.2.2] at L7
      refine (L7).mono ?_
      rintro e ws7 ⟨rfl, hst⟩
      replace H := Lib.hid hst
      clear hst
      go_wp2_with fail
      go_ret
      exact ⟨rfl, H.out.below⟩
end Go.Proofs.Ytpfjpeddplkbgaa

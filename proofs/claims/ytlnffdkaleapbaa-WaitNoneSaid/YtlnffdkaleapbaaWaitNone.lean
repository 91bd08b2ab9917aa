
/- The walk of WaitNone. -/
import Derived.Test.YtlnffdkaleapbaaZ62
import Derived.Test.YtlnffdkaleapbaaZ2
namespace Go.Proofs.Ytlnffdkaleapbaa
set_option maxRecDepth 100000
set_option linter.unusedVariables false
set_option linter.unusedSimpArgs false
set_option linter.unnecessarySimpa false
open Go.RowKit

theorem none_push (x u : Int) : (Ln.new 0).push x = 8 ∧ (Ln.new 0).aftPush x u = Ln.new 0 := by
  have e : (Ln.new 0).push x = 8 := Ln.push_full (by show x ∉ ([] : List Int); simp) (by show (0 : Int) ≤ _; exact Int.le_refl _)
  exact ⟨e, Ln.aft_same (by rw [e]; decide)⟩
set_option maxHeartbeats 8000000 in
theorem walkWaitNone (w : World) (v : Value) (zs : List Int) (hz : IntSlice w v zs) (c : Int) (hc : wf64 c) :
    Calls Try.prog 7 #[v, .int .i64 c] w fun e w' => e = .returned (.bool true) ∧ Below w.heap.size w w' := by
  have KN := Lib.hid (fun w => known8_any w)
  have FE := Lib.hid Emp.foot
  have FP := Lib.hid LnP.foot
  obtain ⟨va, vc, rfl, hat⟩ := hz.open
  have HZ := Lib.hid hat
  clear hat hz
  have WI := Lib.hid (fun w => within8_any c 9 w (by omega) (by omega) hc.1 hc.2)
  generalize withinI c 9 = K at *
  clear hc
  go_enter Try.func7, Try.ntmps7
  go_wp2_with fail
  refine (KN.out _).mono ?_
  rintro e w1 ⟨rfl, hg⟩
  have H := Lib.hid ((Hold.nil w).grow Emp.foot hg)
  clear hg
  go_wp2_with fail
  refine (hold_lnew H.out Emp.foot 0 (by omega)).mono ?_
  rintro e w3 ⟨g, rfl, hh⟩
  replace H := Lib.hid hh
  clear hh
  go_wp2_with fail
  have tail : True := trivial
  go_loopw [6] (fun i wr => ∃ (k : Nat), k ≤ 20 ∧ i = .int .i64 (k : Int) ∧ Hid (Hold w wr [] (Sep (LnP g (Ln.new 0)) Emp))) (fun i _ => 20 - (intOf i).toNat)
  case atStart => exact ⟨0, by omega, rfl, H⟩
  case round =>
    clear H
    obtain ⟨k, hk, rfl, H⟩ := hrel
    by_cases h1 : k < zs.length ∧ k < 20
    · obtain ⟨h1, h2⟩ := h1
      have d1 : decide ((k : Int) < (zs.length : Int)) = true := decide_eq_true (by omega)
      have d2 : decide ((k : Int) < 20) = true := decide_eq_true (by omega)
      obtain ⟨b, off, rfl, hcz, hw⟩ := HZ.out.at H.out.below h1
      generalize zs.getD k 0 = z at *
      have r5 := withinI_range z 9 (by omega)
      have WA := Lib.hid (fun w => within8_any z 9 w (by omega) (by omega) hw.1 hw.2)
      obtain ⟨x, hx⟩ : ∃ x : Int, 1 + withinI z 9 = x := ⟨_, rfl⟩
      have hwx : IntKind.i64.wrap (1 + withinI z 9) = x := by rw [hx]; exact IntWalk.i64_in _ ⟨by omega, by omega⟩
      have hk1 : IntKind.i64.wrap ((k : Int) + 1) = (k : Int) + 1 := IntWalk.i64_in _ ⟨by omega, by omega⟩
      have PN := Lib.hid (none_push x K)
      clear hw r5 hx
      generalize withinI z 9 = ya at *
      go_wp2_with fail
      refine (WA.out _).mono ?_
      rintro e wx ⟨rfl, rfl⟩
      go_wp2_with fail
      refine (WI.out _).mono ?_
      rintro e wx ⟨rfl, rfl⟩
      go_wp2_with fail
      refine (hold_lpush H.out FE.out x K PN.out.1 PN.out.2).mono ?_
      rintro e ws1 ⟨rfl, hst⟩
      replace H := Lib.hid hst
      clear hst
      go_wp2_with fail
      refine (hold_llen (er := 0) H.out rfl).mono ?_
      rintro e ws2 ⟨rfl, hst⟩
      replace H := Lib.hid hst
      clear hst
      go_wp2_with fail
      go_roundw
      case rel => exact ⟨k + 1, by omega, by go_num, H⟩
      case measure => simp [intOf]; omega
    · have d12 : ¬ k < zs.length ∨ (k < zs.length ∧ ¬ k < 20) := by omega
      clear h1
      rcases d12 with c1 | ⟨c1, c2⟩
      case' inl => have d1 : decide ((k : Int) < (zs.length : Int)) = false := decide_eq_false (by omega)
      case' inr =>
        have d1 : decide ((k : Int) < (zs.length : Int)) = true := decide_eq_true (by omega)
        have d2 : decide ((k : Int) < 20) = false := decide_eq_false (by omega)
      all_goals
        go_wp2_with fail
        refine (hold_lpop (er := 0) (bo := false) (s' := Ln.new 0) H.out FE.out).mono ?_
        rintro e ws3 ⟨rfl, hst⟩
        replace H := Lib.hid hst
        clear hst
        go_wp2_with fail
        refine (hold_lall (tl := []) H.out FE.out rfl).mono ?_
        rintro e w7 ⟨u3, rfl, ho3, hst⟩
        obtain ⟨a3, c3, rfl⟩ := ho3.shape
        replace H := Lib.hid hst
        clear hst ho3
        go_wp2_with fail
        refine (hold_llate (tl := []) (s' := Ln.new 0) H.out FE.out 1099511627776 rfl rfl).mono ?_
        rintro e w8 ⟨u4, rfl, hst⟩
        have ho4 : ∃ a c, u4 = .slice a 0 c := by
          obtain ⟨F, ⟨F1, F2, _, ⟨F3, F4, ho, _⟩, _⟩, _⟩ := hst.st
          exact ho.1.shape
        obtain ⟨a4, c4, rfl⟩ := ho4
        replace H := Lib.hid hst
        clear hst
        go_wp2_with fail
        go_ret
        exact ⟨rfl, H.out.below⟩
end Go.Proofs.Ytlnffdkaleapbaa

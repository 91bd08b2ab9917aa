
/- The walk of GaugeSums. -/
import Derived.Test.YtpfjpeddplkbgaaZ68
import Derived.Test.YtpfjpeddplkbgaaZ29
namespace Go.Proofs.Ytpfjpeddplkbgaa
set_option maxRecDepth 100000
set_option linter.unusedVariables false
set_option linter.unusedSimpArgs false
set_option linter.unnecessarySimpa false
open Go.RowKit

/-- The samples that come. -/
def cut9 (zs : List Int) (k : Nat) : List Int := (zs.take k).map (fun z => withinI z 1000)
theorem cut9_len {zs : List Int} {k : Nat} (h : k ≤ zs.length) : (cut9 zs k).length = k := by unfold cut9; rw [List.length_map, List.length_take]; omega
theorem cut9_one {zs : List Int} {k : Nat} (h : k < zs.length) : cut9 zs (k + 1) = cut9 zs k ++ [withinI (zs.getD k 0) 1000] := by
  unfold cut9
  rw [List.take_add_one, List.map_append, List.getElem?_eq_getElem h]
  rw [List.getD_eq_getElem?_getD, List.getElem?_eq_getElem h]
  rfl
theorem cut9_add {zs : List Int} {k : Nat} (h : k < zs.length) : Gg.add (cut9 zs k) (withinI (zs.getD k 0) 1000) = cut9 zs (k + 1) := by
  have := withinI_range (zs.getD k 0) 1000 (by omega)
  rw [cut9_one h]
  unfold Gg.add
  rw [show max (withinI (zs.getD k 0) 1000) 0 = withinI (zs.getD k 0) 1000 by omega]
theorem cut9_sum {zs : List Int} {k : Nat} (h : k < zs.length) : (cut9 zs (k + 1)).sum = (cut9 zs k).sum + withinI (zs.getD k 0) 1000 := by rw [cut9_one h, List.sum_append]; simp
theorem cut9_at {zs : List Int} {k p : Nat} (hp : p < k) (h : k ≤ zs.length) : (cut9 zs k)[p]? = some (withinI (zs.getD p 0) 1000) := by
  unfold cut9
  rw [List.getElem?_map, List.getElem?_take_of_lt hp, List.getElem?_eq_getElem (by omega), List.getD_eq_getElem?_getD, List.getElem?_eq_getElem (by omega)]
  rfl
theorem cut9_bound (zs : List Int) (k : Nat) (h : k ≤ 60) : 0 ≤ (cut9 zs k).sum ∧ (cut9 zs k).sum ≤ 60000000 := by
  have h1 := Gg.sum_bound (cut9 zs k) (fun x hx => by
    unfold cut9 at hx
    obtain ⟨z, _, rfl⟩ := List.mem_map.1 hx
    have := withinI_range z 1000 (by omega)
    omega)
  have h2 : (cut9 zs k).length ≤ 60 := by unfold cut9; rw [List.length_map, List.length_take]; omega
  omega
set_option maxHeartbeats 16000000 in
theorem walkGaugeSums (w : World) (v : Value) (zs : List Int) (hz : IntSlice w v zs) (n : Int) (hn : wf64 n) :
    Calls Try.prog 4 #[v, .int .i64 n] w fun e w' => e = .returned (.bool true) ∧ Below w.heap.size w w' := by
  have KN := Lib.hid (fun w => known9_any w)
  have FE := Lib.hid Emp.foot
  obtain ⟨va, vc, rfl, hat⟩ := hz.open
  have HZ := Lib.hid hat
  clear hat hz
  obtain ⟨M, hM⟩ : ∃ M : Nat, (if (55 : Int) < (zs.length : Int) then (55 : Int) else (zs.length : Int)) = (M : Int) := ⟨min 55 zs.length, by omega⟩
  have hMz : M ≤ zs.length := by omega
  have hM55 : M ≤ 55 := by omega
  have r1 := withinI_range n 60 (by omega)
  have WI := Lib.hid (fun w => within9_any n 60 w (by omega) (by omega) hn.1 hn.2)
  obtain ⟨K, hK⟩ : ∃ K : Nat, 1 + withinI n 60 = K := ⟨(1 + withinI n 60).toNat, by omega⟩
  have hKw : IntKind.i64.wrap (1 + withinI n 60) = (K : Int) := by rw [hK]; exact IntWalk.i64_in _ ⟨by omega, by omega⟩
  have hK1 : 1 ≤ K := by omega
  have hK60 : K ≤ 60 := by omega
  clear hK r1 hn
  generalize withinI n 60 = ya at *
  go_enter Try.func4, Try.ntmps4
  go_wp2_with fail
  refine (KN.out _).mono ?_
  rintro e w1 ⟨rfl, hg⟩
  have H := Lib.hid ((Hold.nil w).grow Emp.foot hg)
  clear hg
  go_wp2_with fail
  refine (hold_gnew H.out Emp.foot).mono ?_
  rintro e w3 ⟨g, rfl, hh⟩
  replace H := Lib.hid hh
  clear hh
  go_wp2_with fail
  clear hM
  go_loopw [7] (fun i wr => ∃ (k : Nat), k ≤ M ∧ i = .int .i64 (k : Int) ∧ Hid (Hold w wr [] (Sep (GgP g (cut9 zs k)) Emp))) (fun i _ => M - (intOf i).toNat)
  case atStart => exact ⟨0, by omega, rfl, H⟩
  case round =>
    clear H
    obtain ⟨k, hk, rfl, H⟩ := hrel
    by_cases h1 : k < M
    · have d1 : decide ((k : Int) < (M : Int)) = true := decide_eq_true (by omega)
      have h4 : k < zs.length := by omega
      obtain ⟨b, off, hbo, hcz, hw⟩ := HZ.out.at H.out.below h4
      cases hbo
      have r3 := withinI_range (zs.getD k 0) 1000 (by omega)
      have WA := Lib.hid (fun w => within9_any (zs.getD k 0) 1000 w (by omega) (by omega) hw.1 hw.2)
      have CA := Lib.hid (cut9_add h4)
      have hl := cut9_len (Nat.le_of_lt h4)
      generalize zs.getD k 0 = z at *
      have hxb : -1000000 ≤ withinI z 1000 ∧ withinI z 1000 ≤ 1000000 := ⟨by omega, by omega⟩
      have hk1 : IntKind.i64.wrap ((k : Int) + 1) = (k : Int) + 1 := IntWalk.i64_in _ ⟨by omega, by omega⟩
      have hjz1 : (0 : Int) ≤ (k : Int) := by omega
      have hjz2 : (k : Int) < (zs.length : Int) := by omega
      clear hw r3
      generalize withinI z 1000 = ya at *
      go_wp2_with fail
      refine (WA.out _).mono ?_
      rintro e wx ⟨rfl, rfl⟩
      go_wp2_with fail
      refine (hold_gadd H.out FE.out ya hxb (by omega)).mono ?_
      rintro e w5 ⟨⟨_, rfl⟩, hst⟩
      rw [CA.out] at hst
      replace H := Lib.hid hst
      clear hst
      go_wp2_with fail
      go_roundw
      case rel => exact ⟨k + 1, by omega, by go_num, H⟩
      case measure => simp [intOf]; omega
    · obtain rfl : k = M := by omega
      have d1 : decide ((k : Int) < (k : Int)) = false := decide_eq_false (by omega)
      have hl := cut9_len hMz
      obtain ⟨f1, f2, f3, f4⟩ := Gg.step (l := cut9 zs k) (by omega) hK1 hK60
      obtain ⟨q1, q2⟩ := Gg.whole (l := cut9 zs k) (by omega)
      rw [hl] at f1 f2 f3 f4 q1
      obtain ⟨K0, hK0⟩ : ∃ K0 : Int, (K : Int) - 1 = K0 := ⟨_, rfl⟩
      have hKw0 : IntKind.i64.wrap ((K : Int) - 1) = K0 := by rw [hK0]; exact IntWalk.i64_in _ ⟨by omega, by omega⟩
      rw [hK0] at f2 f3 f4
      have hwK : wf64 (K : Int) := ⟨by omega, by omega⟩
      have hwK0 : wf64 K0 := ⟨by omega, by omega⟩
      have hw60 : wf64 60 := ⟨by decide, by decide⟩
      obtain ⟨N0, hN0⟩ : ∃ N, Gg.num (cut9 zs k) K0 = N := ⟨_, rfl⟩
      have m0 : (if (k : Int) < K0 then (k : Int) else K0) = (N0 : Int) := by omega
      obtain ⟨S1, hS1⟩ : ∃ S, Gg.sum (cut9 zs k) (K : Int) = S := ⟨_, rfl⟩
      obtain ⟨S0, hS0⟩ : ∃ S, Gg.sum (cut9 zs k) K0 = S := ⟨_, rfl⟩
      rw [hS1, hS0] at f3 f4
      have HS0 := Lib.hid (And.intro hS0 hN0)
      have HQ := Lib.hid (And.intro q2 q1)
      clear hS0 hN0 q1 q2 f2
      rcases Nat.lt_or_ge k K with hle | hle
      case' inl =>
        have d2 : decide ((K : Int) ≤ (k : Int)) = false := decide_eq_false (by omega)
        have hd : IntKind.i64.wrap (S1 - S0) = 0 := by rw [show S1 - S0 = 0 by have := f4 hle; omega]; rfl
        have HS1 := Lib.hid (And.intro hS1 (show Gg.num (cut9 zs k) (K : Int) = k by omega))
        have hle2 : ¬ K ≤ k := by omega
        clear f1 hS1 f3 f4 hK0
        go_wp2_with fail
        refine (WI.out _).mono ?_
        rintro e wx ⟨rfl, rfl⟩
        go_wp2_with fail
        have L1 := hold_glast H.out FE.out (K : Int) hwK
        rw [HS1.out.1, HS1.out.2] at L1
        refine (L1).mono ?_
        rintro e ws1 ⟨rfl, hst⟩
        replace H := Lib.hid hst
        clear hst
        go_wp2_with fail
        clear L1
        have L0 := hold_glast H.out FE.out K0 hwK0
        rw [HS0.out.1, HS0.out.2] at L0
        refine L0.mono ?_
        rintro e w6 ⟨rfl, hst⟩
        replace H := Lib.hid hst
        clear hst L0
        go_wp2_with fail
      case' inr =>
        have d2 : decide ((K : Int) ≤ (k : Int)) = true := decide_eq_true (by omega)
        obtain ⟨p, hp⟩ : ∃ p, k - K = p := ⟨_, rfl⟩
        have hpz : p < zs.length := by omega
        have hpw : IntKind.i64.wrap ((k : Int) - (K : Int)) = (p : Int) := by rw [show (k : Int) - (K : Int) = (p : Int) by omega]; exact IntWalk.i64_in _ ⟨by omega, by omega⟩
        have hp1 : (0 : Int) ≤ (p : Int) := by omega
        have hp2 : (p : Int) < (zs.length : Int) := by omega
        have f5 := f3 hle (withinI (zs.getD p 0) 1000) (by rw [hp]; exact cut9_at (by omega) hMz)
        obtain ⟨b, off, hbo, hcz, hw⟩ := HZ.out.at H.out.below hpz
        cases hbo
        have hcz2 := Lib.hid (fun w' (g : Grow.G w w') => HZ.out.at g hpz)
        have r3 := withinI_range (zs.getD p 0) 1000 (by omega)
        have WA := Lib.hid (fun w => within9_any (zs.getD p 0) 1000 w (by omega) (by omega) hw.1 hw.2)
        generalize zs.getD p 0 = z at *
        generalize withinI z 1000 = y at *
        have hd : IntKind.i64.wrap (S1 - S0) = y := by rw [show S1 - S0 = y by omega]; exact IntWalk.i64_in _ ⟨by omega, by omega⟩
        have HS1 := Lib.hid (And.intro hS1 (show Gg.num (cut9 zs k) (K : Int) = K by omega))
        have hle2 : ¬ k < K := by omega
        clear f1 hS1 f3 f4 f5 hK0 hcz hw r3 hp
        go_wp2_with fail
        refine (WI.out _).mono ?_
        rintro e wx ⟨rfl, rfl⟩
        go_wp2_with fail
        have L1 := hold_glast H.out FE.out (K : Int) hwK
        rw [HS1.out.1, HS1.out.2] at L1
        refine (L1).mono ?_
        rintro e ws2 ⟨rfl, hst⟩
        replace H := Lib.hid hst
        clear hst
        go_wp2_with fail
        clear L1
        have L0 := hold_glast H.out FE.out K0 hwK0
        rw [HS0.out.1, HS0.out.2] at L0
        refine L0.mono ?_
        rintro e w6 ⟨rfl, hst⟩
        obtain ⟨b', off', hbo, hcz, _⟩ := hcz2.out _ hst.below
        cases hbo
        replace H := Lib.hid hst
        clear hst L0
        go_wp2_with fail
        refine (WA.out _).mono ?_
        rintro e wx ⟨rfl, rfl⟩
        clear WA hcz hcz2 hpw hp1 hp2
        go_wp2_with fail
      all_goals
        have L6 := hold_glast H.out FE.out 60 hw60
        rw [HQ.out.1, HQ.out.2] at L6
        refine (L6).mono ?_
        rintro e ws3 ⟨rfl, hst⟩
        replace H := Lib.hid hst
        clear hst
        go_wp2_with fail
        clear L6
        go_loopw [16, 17] (fun s i wr => ∃ (j : Nat), j ≤ k ∧ i = .int .i64 (j : Int) ∧ s = .int .i64 (cut9 zs j).sum ∧ Hid (Hold w wr [] (Sep (GgP g (cut9 zs k)) Emp))) (fun _ i _ => k - (intOf i).toNat)
        case atStart => exact ⟨0, by omega, rfl, rfl, H⟩
        case round =>
          clear H
          obtain ⟨j, hj, rfl, rfl, H⟩ := hrel
          by_cases h3 : j < k
          · have d3 : decide ((j : Int) < (k : Int)) = true := decide_eq_true (by omega)
            have h4 : j < zs.length := by omega
            obtain ⟨b, off, hbo, hcz, hw⟩ := HZ.out.at H.out.below h4
            cases hbo
            have WA := Lib.hid (fun w => within9_any (zs.getD j 0) 1000 w (by omega) (by omega) hw.1 hw.2)
            have CS := Lib.hid (cut9_sum h4)
            have b1 := cut9_bound zs (j + 1) (by omega)
            rw [CS.out] at b1
            generalize zs.getD j 0 = z at *
            generalize withinI z 1000 = y2 at *
            have hsw : IntKind.i64.wrap ((cut9 zs j).sum + y2) = (cut9 zs j).sum + y2 := IntWalk.i64_in _ ⟨by omega, by omega⟩
            have hk1 : IntKind.i64.wrap ((j : Int) + 1) = (j : Int) + 1 := IntWalk.i64_in _ ⟨by omega, by omega⟩
            have hjz1 : (0 : Int) ≤ (j : Int) := by omega
            have hjz2 : (j : Int) < (zs.length : Int) := by omega
            generalize (cut9 zs j).sum = S at *
            clear hw b1
            go_wp2_with fail
            refine (WA.out _).mono ?_
            rintro e wx ⟨rfl, rfl⟩
            go_wp2_with fail
            go_roundw
            case rel => exact ⟨j + 1, by omega, by go_num, by rw [CS.out], H⟩
            case measure => simp [intOf]; omega
          · obtain rfl : j = k := by omega
            have d3 : decide ((j : Int) < (j : Int)) = false := decide_eq_false (by omega)
            generalize (cut9 zs j).sum = S at *
            go_wp2_with fail
            go_ret
            exact ⟨rfl, H.out.below⟩
end Go.Proofs.Ytpfjpeddplkbgaa

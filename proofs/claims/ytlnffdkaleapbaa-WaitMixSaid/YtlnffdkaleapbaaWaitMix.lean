
/- The walk of WaitMix. -/
import Derived.Test.YtlnffdkaleapbaaZ62
import Derived.Test.YtlnffdkaleapbaaZ2
namespace Go.Proofs.Ytlnffdkaleapbaa
set_option maxRecDepth 100000
set_option linter.unusedVariables false
set_option linter.unusedSimpArgs false
set_option linter.unnecessarySimpa false
open Go.RowKit

/-- From a on n numbers wait. -/
def mixS (a n : Nat) : Ln := ⟨8, (List.range' a n).map fun i : Nat => ((i : Int), (9 : Int))⟩
theorem mix_len (a n : Nat) : (mixS a n).l.length = n := by unfold mixS; simp
theorem mix_ids (a n : Nat) (x : Int) : x ∈ (mixS a n).ids ↔ (a : Int) ≤ x ∧ x < a + n := by
  unfold mixS Ln.ids
  simp only [List.map_map, List.mem_map, List.mem_range'_1, Function.comp_apply]
  constructor
  · rintro ⟨i, hi, rfl⟩; omega
  · intro h; exact ⟨x.toNat, by omega, by omega⟩
theorem mix_push {a n : Nat} (h : n < 8) : (mixS a n).push ((a + n : Nat) : Int) = 0 ∧ (mixS a n).aftPush ((a + n : Nat) : Int) 9 = mixS a (n + 1) := by
  have e : (mixS a n).push ((a + n : Nat) : Int) = 0 := Ln.push_yes (fun q => by have := (mix_ids a n _).1 q; omega) (by rw [mix_len]; show (n : Int) < 8; omega)
  refine ⟨e, ?_⟩
  rw [Ln.aft_one e]
  unfold mixS
  rw [List.range'_concat, List.map_append]
  simp
theorem mix_full {a n : Nat} (h : n = 8) : (mixS a n).push ((a + n : Nat) : Int) = 8 ∧ (mixS a n).aftPush ((a + n : Nat) : Int) 9 = mixS a n := by
  have e : (mixS a n).push ((a + n : Nat) : Int) = 8 := Ln.push_full (fun q => by have := (mix_ids a n _).1 q; omega) (by rw [mix_len]; show (8 : Int) ≤ n; omega)
  exact ⟨e, Ln.aft_same (by rw [e]; decide)⟩
theorem mix_pop {a n : Nat} (h : 0 < n) : (mixS a n).pop = (a : Int) ∧ (mixS a n).popB = true ∧ (mixS a n).aftPop = mixS (a + 1) (n - 1) := by
  obtain ⟨m, rfl⟩ : ∃ m, n = m + 1 := ⟨n - 1, by omega⟩
  unfold mixS Ln.pop Ln.popB Ln.aftPop Ln.ids
  rw [List.range'_succ]
  exact ⟨rfl, rfl, rfl⟩
theorem mix_none (a : Nat) : (mixS a 0).pop = 0 ∧ (mixS a 0).popB = false ∧ (mixS a 0).aftPop = mixS a 0 := ⟨rfl, rfl, rfl⟩
set_option maxHeartbeats 8000000 in
theorem walkWaitMix (w : World) (v : Value) (zs : List Int) (hz : IntSlice w v zs) :
    Calls Try.prog 8 #[v] w fun e w' => e = .returned (.bool true) ∧ Below w.heap.size w w' := by
  have KN := Lib.hid (fun w => known8_any w)
  have FE := Lib.hid Emp.foot
  have FP := Lib.hid LnP.foot
  obtain ⟨va, vc, rfl, hat⟩ := hz.open
  have HZ := Lib.hid hat
  clear hat hz
  go_enter Try.func8, Try.ntmps8
  go_wp2_with fail
  refine (KN.out _).mono ?_
  rintro e w1 ⟨rfl, hg⟩
  have H := Lib.hid ((Hold.nil w).grow Emp.foot hg)
  clear hg
  go_wp2_with fail
  refine (hold_lnew H.out Emp.foot 8 (by omega)).mono ?_
  rintro e w3 ⟨g, rfl, hh⟩
  replace H := Lib.hid (show Hold w w3 [] (Sep (LnP g (mixS 1 0)) Emp) from hh)
  clear hh
  go_wp2_with fail
  go_loopw [4, 5, 6] (fun x y i wr => ∃ (k a n : Nat), k ≤ 80 ∧ a ≤ k + 1 ∧ a + n ≤ k + 1 ∧ n ≤ 8 ∧ x = .int .i64 ((a + n : Nat) : Int) ∧ y = .int .i64 (a : Int) ∧ i = .int .i64 (k : Int) ∧ Hid (Hold w wr [] (Sep (LnP g (mixS a n)) Emp))) (fun _ _ i _ => 80 - (intOf i).toNat)
  case atStart => exact ⟨0, 1, 0, by omega, by omega, by omega, by omega, rfl, rfl, rfl, H⟩
  case round =>
    clear H
    obtain ⟨k, a, n, hk, ha, han, hn, rfl, rfl, rfl, H⟩ := hrel
    by_cases h1 : k < zs.length ∧ k < 80
    · obtain ⟨h1, h2⟩ := h1
      have d1 : decide ((k : Int) < (zs.length : Int)) = true := decide_eq_true (by omega)
      have d2 : decide ((k : Int) < 80) = true := decide_eq_true (by omega)
      obtain ⟨b, off, rfl, hcz, hw⟩ := HZ.out.at H.out.below h1
      generalize zs.getD k 0 = z at *
      have WA := Lib.hid (fun w => within8_any z 2 w (by omega) (by omega) hw.1 hw.2)
      have hk1 : IntKind.i64.wrap ((k : Int) + 1) = (k : Int) + 1 := IntWalk.i64_in _ ⟨by omega, by omega⟩
      have hx1 : IntKind.i64.wrap (((a + n : Nat) : Int) + 1) = ((a + (n + 1) : Nat) : Int) := by rw [IntWalk.i64_in _ ⟨by omega, by omega⟩]; omega
      have hx2 : IntKind.i64.wrap ((a : Int) + 1) = ((a + 1 : Nat) : Int) := by rw [IntWalk.i64_in _ ⟨by omega, by omega⟩]; omega
      have hx3 : IntKind.i64.wrap (((a + n : Nat) : Int) - (a : Int)) = (n : Int) := by rw [IntWalk.i64_in _ ⟨by omega, by omega⟩]; omega
      clear hw
      generalize withinI z 2 = ya at *
      obtain ⟨N, hN⟩ : ∃ N : Nat, a + n = N := ⟨_, rfl⟩
      rw [hN] at hx1 hx3 ⊢
      have HN := Lib.hid hN
      go_wp2_with fail
      refine (WA.out _).mono ?_
      rintro e wx ⟨rfl, rfl⟩
      by_cases hy : ya = 0
      · have dy : (ya == 0) = true := by simpa using hy
        clear hy
        by_cases h8 : n = 8
        · obtain ⟨q1, q2⟩ := mix_full (a := a) h8
          rw [hN] at q1 q2
          have Q1 := Lib.hid q1
          have Q2 := Lib.hid q2
          have d8 : decide ((8 : Int) ≤ (n : Int)) = true := decide_eq_true (by omega)
          clear q1 q2 h8 hN
          go_wp2_with fail
          refine (hold_lpush H.out FE.out (N : Int) 9 Q1.out Q2.out).mono ?_
          rintro e ws1 ⟨rfl, hst⟩
          replace H := Lib.hid hst
          clear hst
          go_wp2_with fail
          go_roundw
          case rel => exact ⟨k + 1, a, n, by omega, by omega, by omega, by omega, by rw [HN.out], rfl, by go_num, H⟩
          case measure => simp [intOf]; omega
        · obtain ⟨q1, q2⟩ := mix_push (a := a) (n := n) (by omega)
          rw [hN] at q1 q2
          have Q1 := Lib.hid q1
          have Q2 := Lib.hid q2
          have d8 : decide ((8 : Int) ≤ (n : Int)) = false := decide_eq_false (by omega)
          have h8' : n + 1 ≤ 8 := by omega
          clear q1 q2 h8 hN
          go_wp2_with fail
          refine (hold_lpush H.out FE.out (N : Int) 9 Q1.out Q2.out).mono ?_
          rintro e ws2 ⟨rfl, hst⟩
          replace H := Lib.hid hst
          clear hst
          go_wp2_with fail
          go_roundw
          case rel => exact ⟨k + 1, a, n + 1, by omega, by omega, by have := HN.out; omega, h8', rfl, rfl, by go_num, H⟩
          case measure => simp [intOf]; omega
      · have dy : (ya == 0) = false := by simpa using hy
        clear hy
        by_cases h0 : n = 0
        · subst h0
          obtain ⟨q1, q2, q3⟩ := mix_none a
          have Q1 := Lib.hid q1
          have Q2 := Lib.hid q2
          have Q3 := Lib.hid q3
          have hlt0 : ¬ a < N := by omega
          have hlt : decide ((a : Int) < (N : Int)) = false := decide_eq_false (by omega)
          clear q1 q2 q3 hN
          go_wp2_with fail
          refine (hold_lpop H.out FE.out Q1.out Q2.out Q3.out).mono ?_
          rintro e ws3 ⟨rfl, hst⟩
          replace H := Lib.hid hst
          clear hst
          go_wp2_with fail
          go_roundw
          case rel => exact ⟨k + 1, a, 0, by omega, by omega, by omega, by omega, by rw [HN.out], rfl, by go_num, H⟩
          case measure => simp [intOf]; omega
        · obtain ⟨q1, q2, q3⟩ := mix_pop (a := a) (n := n) (by omega)
          have Q1 := Lib.hid q1
          have Q2 := Lib.hid q2
          have Q3 := Lib.hid q3
          have hlt0 : a < N := by omega
          have hlt : decide ((a : Int) < (N : Int)) = true := decide_eq_true (by omega)
          have hpos : 1 ≤ n := by omega
          clear q1 q2 q3 hN h0
          go_wp2_with fail
          refine (hold_lpop H.out FE.out Q1.out Q2.out Q3.out).mono ?_
          rintro e ws4 ⟨rfl, hst⟩
          replace H := Lib.hid hst
          clear hst
          go_wp2_with fail
          go_roundw
          case rel => exact ⟨k + 1, a + 1, n - 1, by omega, by omega, by have := HN.out; omega, by omega, by rw [← HN.out]; congr 2; omega, rfl, by go_num, H⟩
          case measure => simp [intOf]; omega
    · have d12 : ¬ k < zs.length ∨ (k < zs.length ∧ ¬ k < 80) := by omega
      have hx3 : IntKind.i64.wrap (((a + n : Nat) : Int) - (a : Int)) = (n : Int) := by rw [IntWalk.i64_in _ ⟨by omega, by omega⟩]; omega
      have ML := Lib.hid (mix_len a n)
      clear h1
      rcases d12 with c1 | ⟨c1, c2⟩
      case' inl => have d1 : decide ((k : Int) < (zs.length : Int)) = false := decide_eq_false (by omega)
      case' inr =>
        have d1 : decide ((k : Int) < (zs.length : Int)) = true := decide_eq_true (by omega)
        have d2 : decide ((k : Int) < 80) = false := decide_eq_false (by omega)
      all_goals
        go_wp2_with fail
        refine (hold_llen (er := n) H.out (by rw [ML.out])).mono ?_
        rintro e ws5 ⟨rfl, hst⟩
        replace H := Lib.hid hst
        clear hst
        go_wp2_with fail
        go_ret
        exact ⟨ret_bool (show ((n : Int) == (a : Int) + n - a) = true by rw [beq_iff_eq]; omega), H.out.below⟩
end Go.Proofs.Ytlnffdkaleapbaa

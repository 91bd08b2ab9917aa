
/- The walk of FleetDrains. -/
import Derived.Test.YtfnpghekkhnjkaaZ76
import Derived.Test.YtfnpghekkhnjkaaZ73
namespace Go.Proofs.Ytfnpghekkhnjkaa
set_option maxRecDepth 100000
set_option linter.unusedVariables false
set_option linter.unusedSimpArgs false
set_option linter.unnecessarySimpa false
open Go.RowKit

/-- Behind so many gifts. -/
def fdG (C : Int) (M j : Nat) : Fl := if j = M then FE else FD C 3 (idsP j (M - j))
theorem fdG_lt {C : Int} {M j : Nat} (h : j < M) : fdG C M j = FD C 3 (idsP j (M - j)) := by unfold fdG; rw [if_neg (by omega)]
theorem fdG_next {C : Int} {M j : Nat} (h : j < M) : (FD C 3 (idsP j (M - j))).aftGive ((j : Int) + 1) = fdG C M (j + 1) := (fd_give h).2.2
theorem fdG_end (C : Int) (M : Nat) : fdG C M M = FE := by unfold fdG; rw [if_pos rfl]
theorem fdG_0 (C : Int) (M : Nat) : (if M = 0 then FE else FD C 3 (idsP 0 M)) = fdG C M 0 := by
  unfold fdG
  by_cases h : M = 0
  · rw [if_pos h, if_pos h.symm]
  · rw [if_neg h, if_neg (fun q => h q.symm), Nat.sub_zero]; rfl
theorem fd_pods (C st : Int) (l : List Int) : (FD C st l).pods rvA1 = [fdP C st l] := by unfold Fl.pods FD fdP; simp
theorem fd_of (C st : Int) (l : List Int) : (FD C st l).ofP 1 = rvA1 := rfl
theorem fdG_live (C : Int) (M j : Nat) : ((fdG C M j).l.length : Int) = if j = M then 0 else 1 := by unfold fdG; split <;> rfl
theorem fdG_no {C : Int} {M : Nat} (h : M ≤ 8) : (fdG C M 0).takeB rvA1 99 = false := by
  rw [← fdG_0]
  split
  · exact (fd_no (c := C) (m := 0) (by omega)).2
  · exact (fd_no h).1
theorem look_at {w0 w : World} {L : List MBox} {A B : Hp} {a : Option Addr} {n c : Nat} {h : Po} (hh : Hold w0 w L (Sep A (Sep (LookO (.slice a n c) [h]) B))) : ∃ g off, a = some ⟨g, off, none⟩ ∧ g < w.heap.size ∧ w.cell? ⟨g, off + 2, none⟩ = some (.int .i64 h.load) := by
  obtain ⟨F, ⟨F1, F2, _, ⟨F3, F4, ho, _⟩, _⟩, _⟩ := hh.st
  obtain ⟨g, off, c', hv, -, -, hg, hc⟩ := ho.1.at.resolve_left (fun q => by have := q.2.1; cases this)
  cases hv
  exact ⟨g, off, rfl, hg, hc 2 _ rfl⟩
set_option maxHeartbeats 32000000 in
theorem walkFleetDrains (w : World) (n : Int) (hn : wf64 n) (c : Int) (hc : wf64 c) :
    Calls Try.prog 7 #[.int .i64 n, .int .i64 c] w fun e w' => e = .returned (.bool true) ∧ Below w.heap.size w w' := by
  have KN := Lib.hid (fun w => known11_any w)
  have FE0 := Lib.hid Emp.foot
  have WC := Lib.hid (fun w => within11_any c 8 w (by omega) (by omega) hc.1 hc.2)
  have rc := withinI_range c 8 (by omega)
  generalize withinI c 8 = c8 at *
  obtain ⟨C, hC⟩ : ∃ C, 1 + c8 = C := ⟨_, rfl⟩
  have hC8 : 1 ≤ C ∧ C ≤ 8 := by omega
  have WM := Lib.hid (fun w => within11_any n (C + 1) w (by omega) (by omega) hn.1 hn.2)
  have rm := withinI_range n (C + 1) (by omega)
  generalize withinI n (C + 1) = m at *
  obtain ⟨M, rfl⟩ : ∃ M : Nat, m = (M : Int) := ⟨m.toNat, by omega⟩
  have hM : (M : Int) ≤ C := by omega
  have w1 : IntKind.i64.wrap (1 + c8) = C := by rw [hC]; exact IntWalk.i64_in _ ⟨by omega, by omega⟩
  have w2 : IntKind.i64.wrap (C + 1) = C + 1 := IntWalk.i64_in _ ⟨by omega, by omega⟩
  clear hn hc rc rm hC
  go_enter Try.func7, Try.ntmps7
  go_wp2_with fail
  refine (KN.out _).mono ?_
  rintro e w3 ⟨rfl, hg⟩
  have H := Lib.hid ((Hold.nil w).grow Emp.foot hg)
  clear hg
  go_wp2_with fail
  refine (hold_fnew H.out FE0.out 2 (by decide)).mono ?_
  rintro e w4 ⟨g, rfl, hh⟩
  replace H := Lib.hid hh
  clear hh
  go_wp2_with fail
  refine (WC.out _).mono ?_
  rintro e wx ⟨rfl, rfl⟩
  go_wp2_with fail
  refine (WM.out _).mono ?_
  rintro e wx ⟨rfl, rfl⟩
  clear WC WM w1 w2
  go_wp2_with fail
  refine (hold_fscale (f' := FD C 1 []) H.out FE0.out rvA1 C 1 (by decide) hC8 (by decide) (by decide) (fd_make C).1 (fd_make C).2.1 (fd_make C).2.2).mono ?_
  rintro e w5 ⟨v, u, rfl, hh⟩
  replace H := Lib.hid (drop2 (drop2 hh))
  clear hh
  go_wp2_with fail
  refine (hold_fup (er := 0) (f' := FD C 2 []) H.out FE0.out 1 ⟨by decide, by decide⟩ (fd_up C).1 (fd_up C).2).mono ?_
  rintro e ws1 ⟨rfl, hst⟩
  replace H := Lib.hid hst
  clear hst
  go_wp2_with fail
  go_loopw [8] (fun i wr => ∃ k : Nat, k ≤ M ∧ i = .int .i64 ((k : Int) + 1) ∧ Hid (Hold w wr [] (Sep (FlP g (FD C 2 (idsP 0 k))) Emp))) (fun i _ => M + 1 - (_root_.Go.RowKit.intOf i).toNat)
  case atStart => exact ⟨0, by omega, rfl, H⟩
  case round =>
    clear H
    obtain ⟨k, hk, rfl, H⟩ := hrel
    have hk1 : IntKind.i64.wrap ((k : Int) + 1 + 1) = (k : Int) + 1 + 1 := IntWalk.i64_in _ ⟨by omega, by omega⟩
    by_cases hlt : k < M
    · have b0 : decide ((k : Int) + 1 ≤ (M : Int)) = true := decide_eq_true (by omega)
      have T := fd_take (c := C) (i := k) (by omega)
      have TT := Lib.hid T
      clear T
      go_wp2_with fail
      refine (hold_ftake (bo := true) (f' := FD C 2 (idsP 0 (k + 1))) H.out FE0.out rvA1 ((k : Int) + 1) (by decide) ⟨by omega, by omega⟩ rfl TT.out.1 TT.out.2).mono ?_
      rintro e ws2 ⟨rfl, hst⟩
      replace H := Lib.hid hst
      clear hst
      go_wp2_with fail
      go_roundw
      case rel => exact ⟨k + 1, by omega, by go_num, H⟩
      case measure => simp [_root_.Go.RowKit.intOf]; omega
    · obtain rfl : k = M := by omega
      have b0 : decide ((k : Int) + 1 ≤ (k : Int)) = false := decide_eq_false (by omega)
      have DR := Lib.hid (fd_drain (c := C) k)
      go_wp2_with fail
      refine (hold_fscale (f' := fdG C k 0) H.out FE0.out rvA1 C 0 (by decide) hC8 (by decide) (by show (1 : Int) ≤ 99000; decide) DR.out.1 DR.out.2.1 (by rw [DR.out.2.2]; exact fdG_0 C k)).mono ?_
      rintro e w6 ⟨v, u, rfl, hh⟩
      obtain ⟨a1, d1, rfl, -⟩ := hold_row hh
      obtain ⟨a2, d2, rfl, hr2⟩ := hold_row3 hh
      replace H := Lib.hid (drop2 (drop2 hh))
      have R2 := Lib.hid hr2
      clear hh hr2 DR
      have FT := Lib.hid (fun f => (FlP.foot g f).sep FE0.out)
      go_wp2_with fail
      refine (ints8_same a2 (some ⟨w6.heap.size, 0, none⟩) d2 1 [1] _ (by decide) (R2.out.grow (Grow.G.alloc (Grow.G.refl _) _)) (blk_intR (l := [1]) (Blk.new w6 _ _))).mono ?_
      rintro e w7 ⟨rfl, hg⟩
      replace H := Lib.hid (H.out.grow (FT.out _) ((Grow.G.alloc (Grow.G.refl _) _).trans hg))
      clear hg R2
      obtain ⟨EL, hEL⟩ : ∃ EL : Int, (if (0 : Nat) = k then (0 : Int) else 1) = EL := ⟨_, rfl⟩
      have u1 : (if (1 : Int) < (k : Int) then (1 : Int) else (k : Int)) = EL := by rw [← hEL]; split <;> split <;> omega
      have e0 : (EL != EL) = false := by simp
      go_wp2_with fail
      refine (hold_flive (er := EL) H.out FE0.out ((fdG_live C k 0).trans hEL)).mono ?_
      rintro e ws3 ⟨rfl, -, hst⟩
      replace H := Lib.hid hst
      clear hst
      go_wp2_with fail
      clear u1 e0 hEL
      have NO := fdG_no (C := C) (M := k) (by omega)
      refine (hold_ftake (bo := false) (f' := fdG C k 0) H.out FE0.out rvA1 99 (by decide) ⟨by decide, by decide⟩ rfl NO (take_same NO)).mono ?_
      rintro e ws4 ⟨rfl, hst⟩
      replace H := Lib.hid hst
      clear hst
      go_wp2_with fail
      go_loopw [15, 16] (fun l i wr => ∃ j : Nat, j ≤ k ∧ l = .int .i64 ((k : Int) - (j : Int)) ∧ i = .int .i64 ((j : Int) + 1) ∧ Hid (Hold w wr [] (Sep (FlP g (fdG C k j)) Emp))) (fun _ i _ => k + 1 - (_root_.Go.RowKit.intOf i).toNat)
      case atStart => exact ⟨0, by omega, by simp, by simp, H⟩
      case round =>
        clear H
        obtain ⟨j, hj, rfl, rfl, H⟩ := hrel
        have hj1 : IntKind.i64.wrap ((j : Int) + 1 + 1) = (j : Int) + 1 + 1 := IntWalk.i64_in _ ⟨by omega, by omega⟩
        by_cases hlt : j < k
        · have b0 : decide ((j : Int) + 1 ≤ (k : Int)) = true := decide_eq_true (by omega)
          have hl1 : IntKind.i64.wrap ((k : Int) - (j : Int) - 1) = (k : Int) - (j : Int) - 1 := IntWalk.i64_in _ ⟨by omega, by omega⟩
          have GV := Lib.hid (fd_give (c := C) hlt)
          have H : Hid (Hold w wr [] (Sep (FlP g (FD C 3 (idsP j (k - j)))) Emp)) := Lib.hid (by have := H.out; rwa [fdG_lt hlt] at this)
          have LD : Hid (((fdP C 3 (idsP j (k - j))).load : Int) = (k : Int) - (j : Int)) := Lib.hid (by
            show (((idsP j (k - j)).length : Nat) : Int) = _
            rw [idsP_len]; omega)
          go_wp2_with fail
          refine (hold_fof (st := ⟨#[97, 45, 49]⟩) H.out FE0.out 1 ⟨by decide, by decide⟩ (fd_of C 3 _)).mono ?_
          rintro e ws5 ⟨rfl, -, hst⟩
          replace H := Lib.hid hst
          clear hst
          go_wp2_with fail
          refine (hold_fpods (pl := [fdP C 3 (idsP j (k - j))]) H.out FE0.out rvA1 (by decide) (fd_pods C 3 _)).mono ?_
          rintro e w8 ⟨v8, rfl, hh⟩
          obtain ⟨a8, d8, rfl⟩ := hold_look hh
          replace H := Lib.hid hh.rot.drop1
          clear hh
          go_wp2_with fail
          refine (hold_fpods (pl := [fdP C 3 (idsP j (k - j))]) H.out FE0.out rvA1 (by decide) (fd_pods C 3 _)).mono ?_
          rintro e w9 ⟨v9, rfl, hh⟩
          obtain ⟨a9, d9, rfl⟩ := hold_look hh
          obtain ⟨g9, o9, rfl, l9, c9⟩ := look_at hh
          rw [LD.out] at c9
          replace H := Lib.hid hh.rot.drop1
          have e9 : ((k : Int) - (j : Int) != (k : Int) - (j : Int)) = false := by simp
          clear hh
          go_wp2_with fail
          clear c9 l9 e9
          refine (hold_fgive (st := ⟨#[97, 45, 49]⟩) (er := 0) (f' := fdG C k (j + 1)) H.out FE0.out ((j : Int) + 1) ⟨by omega, by omega⟩ GV.out.1 GV.out.2.1 (fdG_next hlt)).mono ?_
          rintro e w10 ⟨rfl, hst⟩
          replace H := Lib.hid hst
          clear hst
          go_wp2_with fail
          go_roundw
          case rel => exact ⟨j + 1, by omega, by rw [show ((j + 1 : Nat) : Int) = (j : Int) + 1 by omega, show (k : Int) - ((j : Int) + 1) = (k : Int) - (j : Int) - 1 by omega], by go_num, H⟩
          case measure => simp [_root_.Go.RowKit.intOf]; omega
        · obtain rfl : j = k := by omega
          have b0 : decide ((j : Int) + 1 ≤ (j : Int)) = false := decide_eq_false (by omega)
          have H : Hid (Hold w wr [] (Sep (FlP g FE) Emp)) := Lib.hid (by have := H.out; rwa [fdG_end] at this)
          go_wp2_with fail
          refine (hold_fof (st := ⟨#[]⟩) H.out FE0.out 1 ⟨by decide, by decide⟩ rfl).mono ?_
          rintro e ws6 ⟨rfl, -, hst⟩
          replace H := Lib.hid hst
          clear hst
          go_wp2_with fail
          refine (hold_flive (er := 0) H.out FE0.out rfl).mono ?_
          rintro e ws7 ⟨rfl, -, hst⟩
          replace H := Lib.hid hst
          clear hst
          go_wp2_with fail
          refine (hold_fpods (pl := []) H.out FE0.out rvA1 (by decide) rfl).mono ?_
          rintro e w8 ⟨v8, rfl, hh⟩
          obtain ⟨a8, d8, rfl⟩ := hold_look hh
          replace H := Lib.hid hh.rot.drop1
          clear hh
          go_wp2_with fail
          refine (hold_fup (er := 6) H.out FE0.out 1 ⟨by decide, by decide⟩ rfl rfl).mono ?_
          rintro e ws8 ⟨rfl, hst⟩
          replace H := Lib.hid hst
          clear hst
          go_wp2_with fail
          go_ret
          exact ⟨rfl, H.out.below⟩
end Go.Proofs.Ytfnpghekkhnjkaa

/- The walk of LabelLong. -/
import Derived.Test.YtcffmjmbkhkmgaaDoorKnown
import Derived.Test.YtcffmjmbkhkmgaaDoorLift
namespace Go.Proofs.YtcffmjmbkhkmgaaDoor
set_option linter.unusedVariables false
set_option linter.unusedSimpArgs false
set_option linter.unnecessarySimpa false
open Go.RowKit

def longC : ByteArray := ⟨#[97, 98, 99, 100, 101, 102, 103, 104, 45, 97, 98, 99, 100, 101, 102, 103, 104, 49, 45, 50, 51, 52, 53, 54, 55, 56, 57, 48, 49, 50]⟩
theorem long16 : ∀ k, k < 30 → nameB 16 (longC.extract 0 k) = (decide (0 < k) && decide (k ≠ 9) && decide (k ≠ 19) && decide (k ≤ 16)) := by decide +kernel
theorem long8 : ∀ k, k < 30 → nameB 8 (longC.extract 0 k) = (decide (0 < k) && decide (k ≠ 9) && decide (k ≠ 19) && decide (k ≤ 8)) := by decide +kernel
theorem longSize : ∀ k, k < 30 → (longC.extract 0 k).size = k := by decide +kernel

theorem rev_eq (s : ByteArray) (n : Int) (r : ByteArray) (w : World) (hs : s.size ≤ maxLen) (h1 : -9223372036854775808 ≤ n) (h2 : n ≤ 9223372036854775807) (ht : Tab w) (hr : revS s n = r) :
    Calls Tryd.prog 17 #[.string s, .int .i64 n] w fun e w' => e = .returned (.string r) ∧ Below w.heap.size w w' := by
  rw [← hr]; exact rev_any s n w hs h1 h2 ht
theorem within_eq (a n : Int) (w : World) (q : Int) (hn : 1 ≤ n) (hn2 : n ≤ 1000000000) (ha : wf64 a) (hq : withinI a n = q) :
    Calls Tryd.prog 12 #[.int .i64 a, .int .i64 n] w fun e w' => e = .returned (.int .i64 q) ∧ w = w' := by
  rw [← hq]; exact within_any a n w hn hn2 ha.1 ha.2
theorem name_eq (s : ByteArray) (w : World) (b : Bool) (hs : s.size ≤ maxLen) (hb : nameB 16 s = b) :
    Calls Tryd.prog 13 #[.string s] w fun e w' => e = .returned (.bool b) ∧ Below w.heap.size w w' := by
  rw [← hb]; exact name_any s w hs
theorem tag_eq (s : ByteArray) (w : World) (b : Bool) (hs : s.size ≤ maxLen) (hb : nameB 8 s = b) :
    Calls Tryd.prog 15 #[.string s] w fun e w' => e = .returned (.bool b) ∧ Below w.heap.size w w' := by
  rw [← hb]; exact tag_any s w hs

theorem revS_size {s : ByteArray} {n : Int} (h : revP s n) : 1 ≤ (revS s n).size := by
  rw [revS_yes h]; simp only [ByteArray.size_append]; show 1 ≤ _ + 1 + _; omega

set_option maxRecDepth 100000 in
set_option maxHeartbeats 1000000 in
theorem walkLabelLong (w : World) (n : Int) (hn : wf64 n) (gen : Int) (hg : wf64 gen) (ht : Tab w) :
    Calls Tryd.prog 8 #[.int .i64 n, .int .i64 gen] w fun e w' => e = .returned (.bool true) ∧ Below w.heap.size w w' := by
  have HT := Lib.hid ht
  clear ht
  have hk := withinI_range n 30 (by omega)
  have hgr := withinI_range gen 999999 (by omega)
  have hq := withinI_range gen 9 (by omega)
  have WN := Lib.hid (fun w => within_any n 30 w (by omega) (by omega) hn.1 hn.2)
  have WG := Lib.hid (fun w => within_any gen 999999 w (by omega) (by omega) hg.1 hg.2)
  have WQ := Lib.hid (fun w => within_any gen 9 w (by omega) (by omega) hg.1 hg.2)
  generalize withinI n 30 = k at *
  generalize withinI gen 999999 = g at *
  generalize withinI gen 9 = q at *
  obtain ⟨m, rfl⟩ := Int.eq_ofNat_of_zero_le hk.1
  have hm : m < 30 := by omega
  have R1 : Hid (revS ⟨#[119, 101, 98]⟩ (-q) = ⟨#[]⟩) := Lib.hid (revS_no (by unfold revP; omega))
  have R2 : Hid (revS ⟨#[119, 101, 98]⟩ (1000000 + q) = ⟨#[]⟩) := Lib.hid (revS_no (by unfold revP; omega))
  have SZ := Lib.hid (longSize m hm)
  by_cases f0 : m = 0
  · have C16 : Hid (nameB 16 (longC.extract 0 m) = false) := Lib.hid (by rw [long16 m hm]; simp; omega)
    have C8 : Hid (nameB 8 (longC.extract 0 m) = false) := Lib.hid (by rw [long8 m hm]; simp; omega)
    have h9 : ((m : Int) != 9) = true := by simp; omega
    have h19 : ((m : Int) != 19) = true := by simp; omega
    have RE : revS (longC.extract 0 m) (1 + g) = ⟨#[]⟩ := revS_no (by unfold revP; rw [C16.out]; simp)
    have RV := Lib.hid (fun w ht => rev_eq (longC.extract 0 m) (1 + g) _ w (by have := SZ.out; unfold maxLen; omega) (by omega) (by omega) ht RE)
    clear RE
    have NM := Lib.hid (fun w => name_eq (longC.extract 0 m) w _ (by have := SZ.out; unfold maxLen; omega) C16.out)
    have TG := Lib.hid (fun w => tag_eq (longC.extract 0 m) w _ (by have := SZ.out; unfold maxLen; omega) C8.out)
    unfold longC at NM TG RV
    have hlo : 0 ≤ m := by omega
    have hhi : m ≤ 0 := by omega
    clear f0
    go_enter Tryd.func8, Tryd.ntmps8
    go_wp2_with (go_at_call 10; refine (known_any _ HT.out).mono ?_; rintro e w1 ⟨rfl, hb1⟩)
    refine (WN.out _).mono ?_
    rintro e w2 ⟨rfl, rfl⟩
    go_wp2_with fail
    refine (WG.out _).mono ?_
    rintro e w2 ⟨rfl, rfl⟩
    go_wp2_with fail
    refine (NM.out _).mono ?_
    rintro e w2 ⟨rfl, hb2⟩
    have B2 := Lib.hid (hb1.trans (hb2.mono hb1.size))
    clear hb1 hb2
    go_wp2_with fail
    refine (TG.out _).mono ?_
    rintro e w3 ⟨rfl, hb3⟩
    have B3 := Lib.hid (B2.out.trans (hb3.mono B2.out.size))
    clear hb3 B2
    go_wp2_with fail
    refine (RV.out _ (HT.out.below B3.out)).mono ?_
    rintro e w4 ⟨rfl, hb4⟩
    have B4 := Lib.hid (B3.out.trans (hb4.mono B3.out.size))
    clear hb4 B3
    go_wp2_with fail
    refine (WQ.out _).mono ?_
    rintro e w2 ⟨rfl, rfl⟩
    go_wp2_with fail
    refine (rev_eq _ _ _ _ (by decide) (by omega) (by omega) (HT.out.below B4.out) R1.out).mono ?_
    rintro e w5 ⟨rfl, hb5⟩
    have B5 := Lib.hid (B4.out.trans (hb5.mono B4.out.size))
    clear hb5 B4
    go_wp2_with fail
    refine (WQ.out _).mono ?_
    rintro e w2 ⟨rfl, rfl⟩
    go_wp2_with fail
    refine (rev_eq _ _ _ _ (by decide) (by omega) (by omega) (HT.out.below B5.out) R2.out).mono ?_
    rintro e w6 ⟨rfl, hb6⟩
    have B6 := Lib.hid (B5.out.trans (hb6.mono B5.out.size))
    clear hb6 B5
    go_wp2_with fail
    go_ret
    exact ⟨ret_bool (by first | rfl | (simp; omega)), B6.out⟩
  by_cases f9 : m = 9
  · have C16 : Hid (nameB 16 (longC.extract 0 m) = false) := Lib.hid (by rw [long16 m hm]; simp; omega)
    have C8 : Hid (nameB 8 (longC.extract 0 m) = false) := Lib.hid (by rw [long8 m hm]; simp; omega)
    have h9 : ((m : Int) != 9) = false := by simp; omega
    have h19 : ((m : Int) != 19) = true := by simp; omega
    have RE : revS (longC.extract 0 m) (1 + g) = ⟨#[]⟩ := revS_no (by unfold revP; rw [C16.out]; simp)
    have RV := Lib.hid (fun w ht => rev_eq (longC.extract 0 m) (1 + g) _ w (by have := SZ.out; unfold maxLen; omega) (by omega) (by omega) ht RE)
    clear RE
    have NM := Lib.hid (fun w => name_eq (longC.extract 0 m) w _ (by have := SZ.out; unfold maxLen; omega) C16.out)
    have TG := Lib.hid (fun w => tag_eq (longC.extract 0 m) w _ (by have := SZ.out; unfold maxLen; omega) C8.out)
    unfold longC at NM TG RV
    have hlo : 9 ≤ m := by omega
    have hhi : m ≤ 9 := by omega
    clear f9
    go_enter Tryd.func8, Tryd.ntmps8
    go_wp2_with (go_at_call 10; refine (known_any _ HT.out).mono ?_; rintro e w1 ⟨rfl, hb1⟩)
    refine (WN.out _).mono ?_
    rintro e w2 ⟨rfl, rfl⟩
    go_wp2_with fail
    refine (WG.out _).mono ?_
    rintro e w2 ⟨rfl, rfl⟩
    go_wp2_with fail
    refine (NM.out _).mono ?_
    rintro e w2 ⟨rfl, hb2⟩
    have B2 := Lib.hid (hb1.trans (hb2.mono hb1.size))
    clear hb1 hb2
    go_wp2_with fail
    refine (TG.out _).mono ?_
    rintro e w3 ⟨rfl, hb3⟩
    have B3 := Lib.hid (B2.out.trans (hb3.mono B2.out.size))
    clear hb3 B2
    go_wp2_with fail
    refine (RV.out _ (HT.out.below B3.out)).mono ?_
    rintro e w4 ⟨rfl, hb4⟩
    have B4 := Lib.hid (B3.out.trans (hb4.mono B3.out.size))
    clear hb4 B3
    go_wp2_with fail
    refine (WQ.out _).mono ?_
    rintro e w2 ⟨rfl, rfl⟩
    go_wp2_with fail
    refine (rev_eq _ _ _ _ (by decide) (by omega) (by omega) (HT.out.below B4.out) R1.out).mono ?_
    rintro e w5 ⟨rfl, hb5⟩
    have B5 := Lib.hid (B4.out.trans (hb5.mono B4.out.size))
    clear hb5 B4
    go_wp2_with fail
    refine (WQ.out _).mono ?_
    rintro e w2 ⟨rfl, rfl⟩
    go_wp2_with fail
    refine (rev_eq _ _ _ _ (by decide) (by omega) (by omega) (HT.out.below B5.out) R2.out).mono ?_
    rintro e w6 ⟨rfl, hb6⟩
    have B6 := Lib.hid (B5.out.trans (hb6.mono B5.out.size))
    clear hb6 B5
    go_wp2_with fail
    go_ret
    exact ⟨ret_bool (by first | rfl | (simp; omega)), B6.out⟩
  by_cases f19 : m = 19
  · have C16 : Hid (nameB 16 (longC.extract 0 m) = false) := Lib.hid (by rw [long16 m hm]; simp; omega)
    have C8 : Hid (nameB 8 (longC.extract 0 m) = false) := Lib.hid (by rw [long8 m hm]; simp; omega)
    have h9 : ((m : Int) != 9) = true := by simp; omega
    have h19 : ((m : Int) != 19) = false := by simp; omega
    have RE : revS (longC.extract 0 m) (1 + g) = ⟨#[]⟩ := revS_no (by unfold revP; rw [C16.out]; simp)
    have RV := Lib.hid (fun w ht => rev_eq (longC.extract 0 m) (1 + g) _ w (by have := SZ.out; unfold maxLen; omega) (by omega) (by omega) ht RE)
    clear RE
    have NM := Lib.hid (fun w => name_eq (longC.extract 0 m) w _ (by have := SZ.out; unfold maxLen; omega) C16.out)
    have TG := Lib.hid (fun w => tag_eq (longC.extract 0 m) w _ (by have := SZ.out; unfold maxLen; omega) C8.out)
    unfold longC at NM TG RV
    have hlo : 19 ≤ m := by omega
    have hhi : m ≤ 19 := by omega
    clear f19
    go_enter Tryd.func8, Tryd.ntmps8
    go_wp2_with (go_at_call 10; refine (known_any _ HT.out).mono ?_; rintro e w1 ⟨rfl, hb1⟩)
    refine (WN.out _).mono ?_
    rintro e w2 ⟨rfl, rfl⟩
    go_wp2_with fail
    refine (WG.out _).mono ?_
    rintro e w2 ⟨rfl, rfl⟩
    go_wp2_with fail
    refine (NM.out _).mono ?_
    rintro e w2 ⟨rfl, hb2⟩
    have B2 := Lib.hid (hb1.trans (hb2.mono hb1.size))
    clear hb1 hb2
    go_wp2_with fail
    refine (TG.out _).mono ?_
    rintro e w3 ⟨rfl, hb3⟩
    have B3 := Lib.hid (B2.out.trans (hb3.mono B2.out.size))
    clear hb3 B2
    go_wp2_with fail
    refine (RV.out _ (HT.out.below B3.out)).mono ?_
    rintro e w4 ⟨rfl, hb4⟩
    have B4 := Lib.hid (B3.out.trans (hb4.mono B3.out.size))
    clear hb4 B3
    go_wp2_with fail
    refine (WQ.out _).mono ?_
    rintro e w2 ⟨rfl, rfl⟩
    go_wp2_with fail
    refine (rev_eq _ _ _ _ (by decide) (by omega) (by omega) (HT.out.below B4.out) R1.out).mono ?_
    rintro e w5 ⟨rfl, hb5⟩
    have B5 := Lib.hid (B4.out.trans (hb5.mono B4.out.size))
    clear hb5 B4
    go_wp2_with fail
    refine (WQ.out _).mono ?_
    rintro e w2 ⟨rfl, rfl⟩
    go_wp2_with fail
    refine (rev_eq _ _ _ _ (by decide) (by omega) (by omega) (HT.out.below B5.out) R2.out).mono ?_
    rintro e w6 ⟨rfl, hb6⟩
    have B6 := Lib.hid (B5.out.trans (hb6.mono B5.out.size))
    clear hb6 B5
    go_wp2_with fail
    go_ret
    exact ⟨ret_bool (by first | rfl | (simp; omega)), B6.out⟩
  by_cases l8 : m ≤ 8
  · have C16 : Hid (nameB 16 (longC.extract 0 m) = true) := Lib.hid (by rw [long16 m hm]; simp; omega)
    have C8 : Hid (nameB 8 (longC.extract 0 m) = true) := Lib.hid (by rw [long8 m hm]; simp; omega)
    have h9 : ((m : Int) != 9) = true := by simp; omega
    have h19 : ((m : Int) != 19) = true := by simp; omega
    have RP : revP (longC.extract 0 m) (1 + g) := ⟨C16.out, by omega, by omega⟩
    have RZ := revS_size RP
    have re := toList_isEmpty _ RZ
    have rn := toList_ne _ RZ
    clear RZ RP
    have RV := Lib.hid (fun w ht => rev_eq (longC.extract 0 m) (1 + g) _ w (by have := SZ.out; unfold maxLen; omega) (by omega) (by omega) ht rfl)
    generalize revS (longC.extract 0 m) (1 + g) = r at *
    have NM := Lib.hid (fun w => name_eq (longC.extract 0 m) w _ (by have := SZ.out; unfold maxLen; omega) C16.out)
    have TG := Lib.hid (fun w => tag_eq (longC.extract 0 m) w _ (by have := SZ.out; unfold maxLen; omega) C8.out)
    unfold longC at NM TG RV
    go_enter Tryd.func8, Tryd.ntmps8
    go_wp2_with (go_at_call 10; refine (known_any _ HT.out).mono ?_; rintro e w1 ⟨rfl, hb1⟩)
    refine (WN.out _).mono ?_
    rintro e w2 ⟨rfl, rfl⟩
    go_wp2_with fail
    refine (WG.out _).mono ?_
    rintro e w2 ⟨rfl, rfl⟩
    go_wp2_with fail
    refine (NM.out _).mono ?_
    rintro e w2 ⟨rfl, hb2⟩
    have B2 := Lib.hid (hb1.trans (hb2.mono hb1.size))
    clear hb1 hb2
    go_wp2_with fail
    refine (TG.out _).mono ?_
    rintro e w3 ⟨rfl, hb3⟩
    have B3 := Lib.hid (B2.out.trans (hb3.mono B2.out.size))
    clear hb3 B2
    go_wp2_with fail
    refine (RV.out _ (HT.out.below B3.out)).mono ?_
    rintro e w4 ⟨rfl, hb4⟩
    have B4 := Lib.hid (B3.out.trans (hb4.mono B3.out.size))
    clear hb4 B3
    go_wp2_with fail
    refine (WQ.out _).mono ?_
    rintro e w2 ⟨rfl, rfl⟩
    go_wp2_with fail
    refine (rev_eq _ _ _ _ (by decide) (by omega) (by omega) (HT.out.below B4.out) R1.out).mono ?_
    rintro e w5 ⟨rfl, hb5⟩
    have B5 := Lib.hid (B4.out.trans (hb5.mono B4.out.size))
    clear hb5 B4
    go_wp2_with fail
    refine (WQ.out _).mono ?_
    rintro e w2 ⟨rfl, rfl⟩
    go_wp2_with fail
    refine (rev_eq _ _ _ _ (by decide) (by omega) (by omega) (HT.out.below B5.out) R2.out).mono ?_
    rintro e w6 ⟨rfl, hb6⟩
    have B6 := Lib.hid (B5.out.trans (hb6.mono B5.out.size))
    clear hb6 B5
    go_wp2_with fail
    go_ret
    exact ⟨ret_bool (by first | rfl | (simp; omega)), B6.out⟩
  by_cases l16 : m ≤ 16
  · have C16 : Hid (nameB 16 (longC.extract 0 m) = true) := Lib.hid (by rw [long16 m hm]; simp; omega)
    have C8 : Hid (nameB 8 (longC.extract 0 m) = false) := Lib.hid (by rw [long8 m hm]; simp; omega)
    have h9 : ((m : Int) != 9) = true := by simp; omega
    have h19 : ((m : Int) != 19) = true := by simp; omega
    have RP : revP (longC.extract 0 m) (1 + g) := ⟨C16.out, by omega, by omega⟩
    have RZ := revS_size RP
    have re := toList_isEmpty _ RZ
    have rn := toList_ne _ RZ
    clear RZ RP
    have RV := Lib.hid (fun w ht => rev_eq (longC.extract 0 m) (1 + g) _ w (by have := SZ.out; unfold maxLen; omega) (by omega) (by omega) ht rfl)
    generalize revS (longC.extract 0 m) (1 + g) = r at *
    have NM := Lib.hid (fun w => name_eq (longC.extract 0 m) w _ (by have := SZ.out; unfold maxLen; omega) C16.out)
    have TG := Lib.hid (fun w => tag_eq (longC.extract 0 m) w _ (by have := SZ.out; unfold maxLen; omega) C8.out)
    unfold longC at NM TG RV
    go_enter Tryd.func8, Tryd.ntmps8
    go_wp2_with (go_at_call 10; refine (known_any _ HT.out).mono ?_; rintro e w1 ⟨rfl, hb1⟩)
    refine (WN.out _).mono ?_
    rintro e w2 ⟨rfl, rfl⟩
    go_wp2_with fail
    refine (WG.out _).mono ?_
    rintro e w2 ⟨rfl, rfl⟩
    go_wp2_with fail
    refine (NM.out _).mono ?_
    rintro e w2 ⟨rfl, hb2⟩
    have B2 := Lib.hid (hb1.trans (hb2.mono hb1.size))
    clear hb1 hb2
    go_wp2_with fail
    refine (TG.out _).mono ?_
    rintro e w3 ⟨rfl, hb3⟩
    have B3 := Lib.hid (B2.out.trans (hb3.mono B2.out.size))
    clear hb3 B2
    go_wp2_with fail
    refine (RV.out _ (HT.out.below B3.out)).mono ?_
    rintro e w4 ⟨rfl, hb4⟩
    have B4 := Lib.hid (B3.out.trans (hb4.mono B3.out.size))
    clear hb4 B3
    go_wp2_with fail
    refine (WQ.out _).mono ?_
    rintro e w2 ⟨rfl, rfl⟩
    go_wp2_with fail
    refine (rev_eq _ _ _ _ (by decide) (by omega) (by omega) (HT.out.below B4.out) R1.out).mono ?_
    rintro e w5 ⟨rfl, hb5⟩
    have B5 := Lib.hid (B4.out.trans (hb5.mono B4.out.size))
    clear hb5 B4
    go_wp2_with fail
    refine (WQ.out _).mono ?_
    rintro e w2 ⟨rfl, rfl⟩
    go_wp2_with fail
    refine (rev_eq _ _ _ _ (by decide) (by omega) (by omega) (HT.out.below B5.out) R2.out).mono ?_
    rintro e w6 ⟨rfl, hb6⟩
    have B6 := Lib.hid (B5.out.trans (hb6.mono B5.out.size))
    clear hb6 B5
    go_wp2_with fail
    go_ret
    exact ⟨ret_bool (by first | rfl | (simp; omega)), B6.out⟩
  · have C16 : Hid (nameB 16 (longC.extract 0 m) = false) := Lib.hid (by rw [long16 m hm]; simp; omega)
    have C8 : Hid (nameB 8 (longC.extract 0 m) = false) := Lib.hid (by rw [long8 m hm]; simp; omega)
    have h9 : ((m : Int) != 9) = true := by simp; omega
    have h19 : ((m : Int) != 19) = true := by simp; omega
    have RE : revS (longC.extract 0 m) (1 + g) = ⟨#[]⟩ := revS_no (by unfold revP; rw [C16.out]; simp)
    have RV := Lib.hid (fun w ht => rev_eq (longC.extract 0 m) (1 + g) _ w (by have := SZ.out; unfold maxLen; omega) (by omega) (by omega) ht RE)
    clear RE
    have NM := Lib.hid (fun w => name_eq (longC.extract 0 m) w _ (by have := SZ.out; unfold maxLen; omega) C16.out)
    have TG := Lib.hid (fun w => tag_eq (longC.extract 0 m) w _ (by have := SZ.out; unfold maxLen; omega) C8.out)
    unfold longC at NM TG RV
    go_enter Tryd.func8, Tryd.ntmps8
    go_wp2_with (go_at_call 10; refine (known_any _ HT.out).mono ?_; rintro e w1 ⟨rfl, hb1⟩)
    refine (WN.out _).mono ?_
    rintro e w2 ⟨rfl, rfl⟩
    go_wp2_with fail
    refine (WG.out _).mono ?_
    rintro e w2 ⟨rfl, rfl⟩
    go_wp2_with fail
    refine (NM.out _).mono ?_
    rintro e w2 ⟨rfl, hb2⟩
    have B2 := Lib.hid (hb1.trans (hb2.mono hb1.size))
    clear hb1 hb2
    go_wp2_with fail
    refine (TG.out _).mono ?_
    rintro e w3 ⟨rfl, hb3⟩
    have B3 := Lib.hid (B2.out.trans (hb3.mono B2.out.size))
    clear hb3 B2
    go_wp2_with fail
    refine (RV.out _ (HT.out.below B3.out)).mono ?_
    rintro e w4 ⟨rfl, hb4⟩
    have B4 := Lib.hid (B3.out.trans (hb4.mono B3.out.size))
    clear hb4 B3
    go_wp2_with fail
    refine (WQ.out _).mono ?_
    rintro e w2 ⟨rfl, rfl⟩
    go_wp2_with fail
    refine (rev_eq _ _ _ _ (by decide) (by omega) (by omega) (HT.out.below B4.out) R1.out).mono ?_
    rintro e w5 ⟨rfl, hb5⟩
    have B5 := Lib.hid (B4.out.trans (hb5.mono B4.out.size))
    clear hb5 B4
    go_wp2_with fail
    refine (WQ.out _).mono ?_
    rintro e w2 ⟨rfl, rfl⟩
    go_wp2_with fail
    refine (rev_eq _ _ _ _ (by decide) (by omega) (by omega) (HT.out.below B5.out) R2.out).mono ?_
    rintro e w6 ⟨rfl, hb6⟩
    have B6 := Lib.hid (B5.out.trans (hb6.mono B5.out.size))
    clear hb6 B5
    go_wp2_with fail
    go_ret
    exact ⟨ret_bool (by first | rfl | (simp; omega)), B6.out⟩
end Go.Proofs.YtcffmjmbkhkmgaaDoor

/- The walk of LabelSigns. -/
import Derived.Test.YtcffmjmbkhkmgaaDoorLabelApart
namespace Go.Proofs.YtcffmjmbkhkmgaaDoor
set_option linter.unusedVariables false
set_option linter.unusedSimpArgs false
open Go.RowKit

def sgC : ByteArray := ⟨#[97, 98, 99, 100, 101, 102, 103, 104, 105, 106, 107, 108]⟩
def sgBad : List ByteArray := [⟨#[65]⟩, ⟨#[95]⟩, ⟨#[46]⟩, ⟨#[32]⟩, ⟨#[195, 169]⟩, ⟨#[0]⟩, ⟨#[47]⟩, ⟨#[58]⟩, ⟨#[123]⟩]
def sgGood : List ByteArray := [⟨#[45]⟩, ⟨#[48]⟩, ⟨#[57]⟩, ⟨#[97]⟩, ⟨#[122]⟩]
def sgPut (m k : Nat) (x : ByteArray) : ByteArray := (sgC.extract 0 m).extract 0 k ++ x ++ (sgC.extract 0 m).extract k (sgC.extract 0 m).size
theorem sg_bad : ∀ m, m < 11 → ∀ k, k < m + 1 → ∀ i, i < 9 → nameB 16 (sgPut (2 + m) (1 + k) (sgBad.getD i ⟨#[]⟩)) = false ∧ nameB 8 (sgPut (2 + m) (1 + k) (sgBad.getD i ⟨#[]⟩)) = false ∧ (sgBad.getD i ⟨#[]⟩).size ≤ 2 := by decide +kernel
theorem sg_good : ∀ m, m < 11 → ∀ k, k < m + 1 → ∀ i, i < 5 → nameB 16 (sgPut (2 + m) (1 + k) (sgGood.getD i ⟨#[]⟩)) = true ∧ nameB 8 (sgPut (2 + m) (1 + k) (sgGood.getD i ⟨#[]⟩)) = decide ((sgPut (2 + m) (1 + k) (sgGood.getD i ⟨#[]⟩)).size ≤ 8) ∧ (sgGood.getD i ⟨#[]⟩).size ≤ 2 := by decide +kernel
theorem sg_size : ∀ m, m < 13 → (sgC.extract 0 m).size = m := by decide +kernel
theorem ext_le (s : ByteArray) (a b : Nat) : (s.extract a b).size ≤ s.size := by rw [ByteArray.size_extract]; omega
theorem sg_atB (k : Nat) (hk : k < 9) : ([.string ⟨#[65]⟩, .string ⟨#[95]⟩, .string ⟨#[46]⟩, .string ⟨#[32]⟩, .string ⟨#[195, 169]⟩, .string ⟨#[0]⟩, .string ⟨#[47]⟩, .string ⟨#[58]⟩, .string ⟨#[123]⟩] : List Value)[k]'(by simpa using hk) = .string (sgBad.getD k ⟨#[]⟩) := listMap Value.string sgBad _ k (by simpa [sgBad] using hk)
theorem sg_atG (k : Nat) (hk : k < 5) : ([.string ⟨#[45]⟩, .string ⟨#[48]⟩, .string ⟨#[57]⟩, .string ⟨#[97]⟩, .string ⟨#[122]⟩] : List Value)[k]'(by simpa using hk) = .string (sgGood.getD k ⟨#[]⟩) := listMap Value.string sgGood _ k (by simpa [sgGood] using hk)

set_option maxRecDepth 100000 in
set_option maxHeartbeats 2000000 in
theorem walkLabelSigns (w : World) (at' : Int) (hat : wf64 at') (sg : Int) (hsg : wf64 sg) (n : Int) (hn : wf64 n) (ht : Tab w) :
    Calls Tryd.prog 9 #[.int .i64 at', .int .i64 sg, .int .i64 n] w fun e w' => e = .returned (.bool true) ∧ Below w.heap.size w w' := by
  have HT := Lib.hid ht
  clear ht
  have h1 := withinI_range n 11 (by omega)
  have h2 := withinI_range sg 9 (by omega)
  have h3 := withinI_range sg 5 (by omega)
  have W1 := Lib.hid (fun w => within_any n 11 w (by omega) (by omega) hn.1 hn.2)
  have W2 := Lib.hid (fun w => within_any sg 9 w (by omega) (by omega) hsg.1 hsg.2)
  have W3 := Lib.hid (fun w => within_any sg 5 w (by omega) (by omega) hsg.1 hsg.2)
  generalize withinI n 11 = m at *
  generalize withinI sg 9 = i at *
  generalize withinI sg 5 = j at *
  obtain ⟨m, rfl⟩ := Int.eq_ofNat_of_zero_le h1.1
  obtain ⟨i, rfl⟩ := Int.eq_ofNat_of_zero_le h2.1
  obtain ⟨j, rfl⟩ := Int.eq_ofNat_of_zero_le h3.1
  have h4 := withinI_range at' ((m : Int) + 1) (by omega)
  have W4 := Lib.hid (fun w => within_any at' ((m : Int) + 1) w (by omega) (by omega) hat.1 hat.2)
  generalize withinI at' ((m : Int) + 1) = k at *
  obtain ⟨k, rfl⟩ := Int.eq_ofNat_of_zero_le h4.1
  have hi : i < 9 := by omega
  have hj : j < 5 := by omega
  have SB := Lib.hid (sg_bad m (by omega) k (by omega) i hi)
  have SG := Lib.hid (sg_good m (by omega) k (by omega) j hj)
  have hz := sg_size (2 + m) (by omega)
  have aB := sg_atB i hi
  have aG := sg_atG j hj
  have zb := SB.out.2.2
  have zg := SG.out.2.2
  unfold sgPut sgC at SB SG
  unfold sgC at hz
  generalize sgBad.getD i ⟨#[]⟩ = xb at *
  generalize sgGood.getD j ⟨#[]⟩ = xg at *
  go_enter Tryd.func9, Tryd.ntmps9
  go_wp2_with (first | (go_at_call 10; refine (known_any _ HT.out).mono ?_; rintro e w1 ⟨rfl, hb1⟩))
  refine (W1.out _).mono ?_
  rintro e wx ⟨rfl, rfl⟩
  go_wp2_with fail
  rw [show (2 + (m : Int) - 1) = (m : Int) + 1 from by omega]
  refine (W4.out _).mono ?_
  rintro e wx ⟨rfl, rfl⟩
  go_wp2_with fail
  refine (W2.out _).mono ?_
  rintro e wx ⟨rfl, rfl⟩
  go_wp2_with fail
  refine (W3.out _).mono ?_
  rintro e wx ⟨rfl, rfl⟩
  go_wp2_with fail
  have hmin : min (2 + m) 12 = 2 + m := by omega
  have q1 : (0 : Int) ≤ 1 + (k : Int) := by omega
  have q2 : 1 + (k : Int) ≤ 2 + (m : Int) := by omega
  have q3 : 1 + k ≤ 2 + m := by omega
  refine Grow.region_seqT (by kernel_rfl) (by kernel_rfl) (by intro c a d v w h; cases d <;> exact h) (by kernel_rfl) ?_
  repeat (first
    | (refine Grow.seqT.value ?_ (by rfl) ?_ ?_; rotate_left; (intro w' hg; go_simp <;> with_reducible rfl); simp only [Act.put, List.setIfInBounds_toArray, List.set_cons_zero, List.set_cons_succ])
    | (refine Grow.seqT.value ?_ (by rfl) ?_ ?_; rotate_left; (intro w' hg; go_simp; rw [if_neg (by omega)]); simp only [Act.put, List.setIfInBounds_toArray, List.set_cons_zero, List.set_cons_succ])
    | (refine Grow.seqT.idle (by rfl) ?_; simp only [Act.put, List.setIfInBounds_toArray, List.set_cons_zero, List.set_cons_succ])
    )
  refine Grow.seqT.done (fun w4 g4 => ?_)
  have ek : ((1 : Int) + (k : Int)).toNat = 1 + k := by omega
  rw [ek]
  rw [hz] at SB SG
  have zB : (((⟨#[97, 98, 99, 100, 101, 102, 103, 104, 105, 106, 107, 108]⟩ : ByteArray).extract 0 (2 + m)).extract 0 (1 + k) ++ xb ++ ((⟨#[97, 98, 99, 100, 101, 102, 103, 104, 105, 106, 107, 108]⟩ : ByteArray).extract 0 (2 + m)).extract (1 + k) (2 + m)).size ≤ 50 := by
    have e1 := ext_le ((⟨#[97, 98, 99, 100, 101, 102, 103, 104, 105, 106, 107, 108]⟩ : ByteArray).extract 0 (2 + m)) 0 (1 + k)
    have e2 := ext_le ((⟨#[97, 98, 99, 100, 101, 102, 103, 104, 105, 106, 107, 108]⟩ : ByteArray).extract 0 (2 + m)) (1 + k) (2 + m)
    rw [ByteArray.size_append, ByteArray.size_append]; omega
  have zG : (((⟨#[97, 98, 99, 100, 101, 102, 103, 104, 105, 106, 107, 108]⟩ : ByteArray).extract 0 (2 + m)).extract 0 (1 + k) ++ xg ++ ((⟨#[97, 98, 99, 100, 101, 102, 103, 104, 105, 106, 107, 108]⟩ : ByteArray).extract 0 (2 + m)).extract (1 + k) (2 + m)).size ≤ 50 := by
    have e1 := ext_le ((⟨#[97, 98, 99, 100, 101, 102, 103, 104, 105, 106, 107, 108]⟩ : ByteArray).extract 0 (2 + m)) 0 (1 + k)
    have e2 := ext_le ((⟨#[97, 98, 99, 100, 101, 102, 103, 104, 105, 106, 107, 108]⟩ : ByteArray).extract 0 (2 + m)) (1 + k) (2 + m)
    rw [ByteArray.size_append, ByteArray.size_append]; omega
  generalize (((⟨#[97, 98, 99, 100, 101, 102, 103, 104, 105, 106, 107, 108]⟩ : ByteArray).extract 0 (2 + m)).extract 0 (1 + k) ++ xb ++ ((⟨#[97, 98, 99, 100, 101, 102, 103, 104, 105, 106, 107, 108]⟩ : ByteArray).extract 0 (2 + m)).extract (1 + k) (2 + m)) = B at *
  generalize (((⟨#[97, 98, 99, 100, 101, 102, 103, 104, 105, 106, 107, 108]⟩ : ByteArray).extract 0 (2 + m)).extract 0 (1 + k) ++ xg ++ ((⟨#[97, 98, 99, 100, 101, 102, 103, 104, 105, 106, 107, 108]⟩ : ByteArray).extract 0 (2 + m)).extract (1 + k) (2 + m)) = Y at *
  have NB := Lib.hid (fun w => name_eq B w false (by unfold maxLen; omega) SB.out.1)
  have TB := Lib.hid (fun w => tag_eq B w false (by unfold maxLen; omega) SB.out.2.1)
  have NG := Lib.hid (fun w => name_eq Y w true (by unfold maxLen; omega) SG.out.1)
  have TG := Lib.hid (fun w => tag_eq Y w _ (by unfold maxLen; omega) SG.out.2.1)
  have RG := Lib.hid (fun w => (rname_any Y w (by unfold maxLen; omega)).mono (fun e w' h => (⟨by rw [h.1, SG.out.1], h.2⟩ : e = Ending.returned (.bool true) ∧ w = w')))
  clear SB SG aB aG hz hmin q1 q2 q3 ek zb zg W1 W2 W3 W4
  have C0 : Hid (Grow.G w w4) := Lib.hid (Grow.G.trans (Grow.G.alloc (Grow.G.alloc hb1 _) _) g4)
  clear g4 hb1
  by_cases h8 : Y.size ≤ 8
  · have d8 : decide ((Y.size : Int) ≤ 8) = true := decide_eq_true (by omega)
    have d8' : decide (Y.size ≤ 8) = true := by simpa using h8
    rw [d8'] at TG
    clear d8'
    go_wp2_with fail
    refine (NB.out _).mono ?_
    rintro e wn1 ⟨rfl, hbn⟩
    have C1 := Lib.hid (Grow.G.trans C0.out hbn)
    clear hbn
    go_wp2_with fail
    refine (TB.out _).mono ?_
    rintro e wn2 ⟨rfl, hbn⟩
    have C2 := Lib.hid (Grow.G.trans C1.out hbn)
    clear hbn
    go_wp2_with fail
    refine (NG.out _).mono ?_
    rintro e wn3 ⟨rfl, hbn⟩
    have C3 := Lib.hid (Grow.G.trans C2.out hbn)
    clear hbn
    go_wp2_with fail
    refine (TG.out _).mono ?_
    rintro e wn4 ⟨rfl, hbn⟩
    have C4 := Lib.hid (Grow.G.trans C3.out hbn)
    clear hbn
    go_wp2_with fail
    refine (RG.out _).mono ?_
    rintro e wx ⟨rfl, rfl⟩
    go_wp2_with fail
    go_ret
    exact ⟨ret_bool (by first | rfl | (simp; omega)), C4.out⟩
  · have d8 : decide ((Y.size : Int) ≤ 8) = false := decide_eq_false (by omega)
    have d8' : decide (Y.size ≤ 8) = false := by simpa using h8
    rw [d8'] at TG
    clear d8'
    go_wp2_with fail
    refine (NB.out _).mono ?_
    rintro e wn1 ⟨rfl, hbn⟩
    have C1 := Lib.hid (Grow.G.trans C0.out hbn)
    clear hbn
    go_wp2_with fail
    refine (TB.out _).mono ?_
    rintro e wn2 ⟨rfl, hbn⟩
    have C2 := Lib.hid (Grow.G.trans C1.out hbn)
    clear hbn
    go_wp2_with fail
    refine (NG.out _).mono ?_
    rintro e wn3 ⟨rfl, hbn⟩
    have C3 := Lib.hid (Grow.G.trans C2.out hbn)
    clear hbn
    go_wp2_with fail
    refine (TG.out _).mono ?_
    rintro e wn4 ⟨rfl, hbn⟩
    have C4 := Lib.hid (Grow.G.trans C3.out hbn)
    clear hbn
    go_wp2_with fail
    refine (RG.out _).mono ?_
    rintro e wx ⟨rfl, rfl⟩
    go_wp2_with fail
    go_ret
    exact ⟨ret_bool (by first | rfl | (simp; omega)), C4.out⟩
end Go.Proofs.YtcffmjmbkhkmgaaDoor

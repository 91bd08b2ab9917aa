/- What label.Name, Tag, Rev and damperref1's answer. -/
import Derived.Test.YtpmhmegjckhbmaaLabel
import Derived.Lib.LaidTab
import Derived.Lib.ItoaNum
import Derived.Lib.Hide
namespace Go.Proofs.Ytpmhmegjckhbmaa
set_option linter.unusedVariables false
set_option linter.unusedSimpArgs false
set_option linter.unnecessarySimpa false
open Go.RowKit

def Tab (w : World) : Prop := Lib.TabIs Try.prog w "internal/strconv.uint64pow10" .u64 Lib.pow10Tab
theorem Tab.below {w w' : World} (h : Tab w) (hb : Below w.heap.size w w') : Tab w' := by
  unfold Tab Lib.TabIs World.var? at *
  cases hg : Try.prog.globalNamed "internal/strconv.uint64pow10" with
  | none => rw [hg] at h; simp at h
  | some g =>
    rw [hg] at h
    simp only [Option.bind_some] at h ⊢
    have hlt : g < w.heap.size := by
      rcases Nat.lt_or_ge g w.heap.size with h' | h'
      · exact h'
      · rw [Array.getElem?_eq_none h'] at h; simp at h
    rw [hb.block g hlt]; exact h

theorem suffix_dash (s : ByteArray) (h : 1 ≤ s.size) : Lib.hasSuffix s.data.toList [45] = decide (byteAt s (s.size - 1) = 45) := by
  have hl : s.data.toList.length = s.size := rfl
  rcases List.eq_nil_or_concat s.data.toList with e | ⟨l, c, e⟩
  · rw [e] at hl; simp at hl; omega
  have h1 : s.size - 1 = l.length := by rw [e] at hl; simp at hl; omega
  have h2 : byteAt s (s.size - 1) = c.toNat := by
    rw [byteAt_eq s _ (by omega)]
    have : s[s.size - 1]'(by omega) = s.data.toList[s.size - 1]'(by omega) := rfl
    rw [this]
    have : s.data.toList[s.size - 1]'(by omega) = c := by
      simp only [h1, e]; simp
    rw [this]
  rw [h2, e]
  unfold Lib.hasSuffix
  simp [List.isSuffixOf]
  rw [Bool.eq_iff_iff]
  simp
  constructor
  · rintro rfl; rfl
  · intro h; apply UInt8.toNat_inj.1; simpa using h.symm

set_option maxHeartbeats 400000 in
theorem hasSuffix_a (s : ByteArray) (w : World) (hs : s.size ≤ maxLen) (h : 1 ≤ s.size) :
    Calls Try.prog 51 #[.string s, .string ⟨#[45]⟩] w fun e w' => e = .returned (.bool (decide (byteAt s (s.size - 1) = 45))) ∧ w = w' :=
  (Try.strings_HasSuffix s ⟨#[45]⟩ w (by unfold maxLen at hs; omega)).mono fun e w' ⟨he, hw⟩ => ⟨by rw [he, ← suffix_dash s h], hw.symm⟩

set_option maxHeartbeats 400000 in
theorem named_any (m : Nat) (s : ByteArray) (w : World) (hs : s.size ≤ maxLen) (hm : m ≤ 1000) :
    Calls Try.prog 47 #[.string s, .int .i64 m] w fun e w' => e = .returned (.bool (nameB m s)) ∧ Below w.heap.size w w' := by
  have hsm := hs
  unfold maxLen at hs
  by_cases h1 : s.size < 1
  · have E : Hid (nameB m s = false) := Lib.hid (nameB_no (by unfold nameP; omega))
    obtain rfl : s = ⟨#[]⟩ := by
      cases s with | mk d => congr; apply Array.eq_empty_of_size_eq_zero; have : d.size < 1 := h1; omega
    go_enter Try.func47, Try.ntmps47
    go_wp2
    go_ret
    exact ⟨ret_bool E.out.symm, Below.refl _ _⟩
  by_cases h2 : m < s.size
  · have E : Hid (nameB m s = false) := Lib.hid (nameB_no (by unfold nameP; omega))
    have hne := toList_isEmpty s (by omega)
    have hne' := toList_ne s (by omega)
    have hdm : decide (m < s.size) = true := decide_eq_true (by omega)
    clear h1
    go_enter Try.func47, Try.ntmps47
    go_wp2
    go_ret
    exact ⟨ret_bool E.out.symm, Below.refl _ _⟩
  by_cases h5 : byteAt s (s.size - 1) = 45
  · have E : Hid (nameB m s = false) := Lib.hid (nameB_no (by unfold nameP; omega))
    have hne := toList_isEmpty s (by omega)
    have hne' := toList_ne s (by omega)
    have hdm : decide (m < s.size) = false := decide_eq_false (by omega)
    have HS := Lib.hid (fun w' => (hasSuffix_a s w' hsm (by omega)).mono fun e w'' ⟨he, hw⟩ => (⟨by rw [he, h5]; rfl, hw⟩ : e = Ending.returned (.bool true) ∧ w' = w''))
    clear h5 h1 h2
    go_enter Try.func47, Try.ntmps47
    go_wp2_with (go_at_call 51; refine (HS.out _).mono ?_; rintro e w' ⟨rfl, rfl⟩)
    go_ret
    exact ⟨ret_bool E.out.symm, Below.refl _ _⟩
  · exact named_loop m s w hsm hm (by omega) (by omega) h5 (fun w' => (hasSuffix_a s w' hsm (by omega)).mono fun e w'' ⟨he, hw⟩ => ⟨by rw [he]; simp [h5], hw⟩)

set_option maxHeartbeats 400000 in
theorem name_any (s : ByteArray) (w : World) (hs : s.size ≤ maxLen) :
    Calls Try.prog 40 #[.string s] w fun e w' => e = .returned (.bool (nameB 16 s)) ∧ Below w.heap.size w w' := by
  have C := Lib.hid (named_any 16 s w hs (by omega))
  go_enter Try.func40, Try.ntmps40
  go_wp2_with (go_at_call 47; refine C.out.mono ?_; rintro e w' ⟨rfl, hb⟩)
  go_ret
  exact ⟨rfl, hb⟩
set_option maxHeartbeats 400000 in
theorem tag_any (s : ByteArray) (w : World) (hs : s.size ≤ maxLen) :
    Calls Try.prog 49 #[.string s] w fun e w' => e = .returned (.bool (nameB 8 s)) ∧ Below w.heap.size w w' := by
  have C := Lib.hid (named_any 8 s w hs (by omega))
  go_enter Try.func49, Try.ntmps49
  go_wp2_with (go_at_call 47; refine C.out.mono ?_; rintro e w' ⟨rfl, hb⟩)
  go_ret
  exact ⟨rfl, hb⟩

theorem nameB_size {m : Nat} {s : ByteArray} (h : nameB m s = true) : s.size ≤ m := by
  unfold nameB at h
  exact (of_decide_eq_true h).2.1
theorem nameB_eight {s : ByteArray} (h : s.size ≤ 8) : nameB 8 s = nameB 16 s := by
  unfold nameB
  rw [Bool.eq_iff_iff, decide_eq_true_iff, decide_eq_true_iff]
  unfold nameP
  exact ⟨fun ⟨a, b, c⟩ => ⟨a, by omega, c⟩, fun ⟨a, b, c⟩ => ⟨a, by omega, c⟩⟩
set_option maxHeartbeats 400000 in
theorem rtag_any (s : ByteArray) (w : World) (hs : s.size ≤ maxLen) :
    Calls Try.prog 36 #[.string s] w fun e w' => e = .returned (.bool (nameB 8 s)) ∧ w = w' := by
  have C := Lib.hid (rname_any s w hs)
  by_cases h : s.size ≤ 8
  · have E := Lib.hid (nameB_eight h)
    unfold maxLen at hs
    go_enter Try.func36, Try.ntmps36
    go_wp2_with (go_at_call 27; refine C.out.mono ?_; rintro e w' ⟨rfl, rfl⟩)
    go_ret
    exact ⟨ret_bool E.out.symm, rfl⟩
  · have E : Hid (nameB 8 s = false) := Lib.hid (nameB_no (by unfold nameP; omega))
    unfold maxLen at hs
    go_enter Try.func36, Try.ntmps36
    go_wp2
    go_ret
    exact ⟨ret_bool E.out.symm, rfl⟩


def digS (n : Nat) : ByteArray := ⟨(Lib.decDigits n).toArray⟩

theorem digS_small {n : Nat} (h : n < 10) : digS n = ⟨#[UInt8.ofNat (48 + n)]⟩ := by unfold digS; rw [Lib.decDigits_one h]
theorem digS_big {n : Nat} (h : ¬ n < 10) : digS n = digS (n / 10) ++ digS (n % 10) := by
  unfold digS
  rw [Lib.decDigits_one (show n % 10 < 10 by omega)]
  conv => lhs; rw [Lib.decDigits, dif_neg h]
  apply ByteArray.ext
  simp [ByteArray.data_append]

theorem strOne (n : Int) (h : 0 ≤ n) : strOfNums [48 + n] = ⟨#[UInt8.ofNat (48 + n.toNat)]⟩ := by
  unfold strOfNums
  have : (48 + n).toNat = 48 + n.toNat := by omega
  simp only [List.map_cons, List.map_nil, this]


theorem digS_size : ∀ (k n : Nat), n < 10 ^ (k + 1) → (digS n).size ≤ k + 1
  | 0, n, h => by rw [digS_small (by simpa using h)]; exact Nat.le_refl _
  | k + 1, n, h => by
    by_cases hs : n < 10
    · rw [digS_small hs]; show 1 ≤ _; omega
    · rw [digS_big hs, ByteArray.size_append, digS_small (show n % 10 < 10 by omega)]
      have := digS_size k (n / 10) (by rw [Nat.pow_succ] at h; omega)
      show _ + 1 ≤ _
      omega
theorem digS_ten {n : Nat} (h : n ≤ 1000000000) : (digS n).size ≤ 10 := digS_size 9 n (by omega)


def revP (s : ByteArray) (n : Int) : Prop := nameB 16 s = true ∧ 1 ≤ n ∧ n ≤ 999999
instance (s : ByteArray) (n : Int) : Decidable (revP s n) := by unfold revP; infer_instance
def revS (s : ByteArray) (n : Int) : ByteArray := if revP s n then s ++ ⟨#[45]⟩ ++ digS n.toNat else ⟨#[]⟩
theorem revS_yes {s : ByteArray} {n : Int} (h : revP s n) : revS s n = s ++ ⟨#[45]⟩ ++ digS n.toNat := if_pos h
theorem revS_no {s : ByteArray} {n : Int} (h : ¬ revP s n) : revS s n = ⟨#[]⟩ := if_neg h


end Go.Proofs.Ytpmhmegjckhbmaa

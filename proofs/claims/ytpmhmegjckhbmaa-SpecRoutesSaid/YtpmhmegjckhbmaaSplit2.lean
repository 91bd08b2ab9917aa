/- What label.Split and damperref1.Split answer: the parts of a revision's name, or none. -/
import Derived.Test.YtpmhmegjckhbmaaSplit
namespace Go.Proofs.Ytpmhmegjckhbmaa
set_option linter.unusedVariables false
set_option linter.unusedSimpArgs false
set_option linter.unnecessarySimpa false
open Go.RowKit

def splitAns (s : ByteArray) (e : Ending) : Prop :=
  (∃ c n, IsRev s c n ∧ e = .returned (.tuple #[.string c, .int .i64 n, .bool true])) ∨ ((∀ c n, ¬ IsRev s c n) ∧ e = .returned (.tuple #[.string ⟨#[]⟩, .int .i64 0, .bool false]))
theorem splitAns.yes {s c : ByteArray} {n : Int} (h : IsRev s c n) : splitAns s (.returned (.tuple #[.string c, .int .i64 n, .bool true])) := .inl ⟨c, n, h, rfl⟩
theorem splitAns.no {s : ByteArray} (h : ∀ c n, ¬ IsRev s c n) : splitAns s (.returned (.tuple #[.string ⟨#[]⟩, .int .i64 0, .bool false])) := .inr ⟨h, rfl⟩

theorem IsRev.data {s c : ByteArray} {n : Int} (h : IsRev s c n) : s.data.toList = c.data.toList ++ 45 :: Lib.decDigits n.toNat := by
  rw [h.2.2.2]
  simp [ByteArray.data_append, digS]
theorem IsRev.num {s c : ByteArray} {n : Int} (h : IsRev s c n) : numL (Lib.decDigits n.toNat) ∧ valL (Lib.decDigits n.toNat) = n.toNat := dec_num _ (by have := h.2.1; omega)
theorem IsRev.size {s c : ByteArray} {n : Int} (h : IsRev s c n) : s.size = c.size + 1 + (Lib.decDigits n.toNat).length := by
  have := congrArg List.length h.data
  simp at this
  have h1 : s.size = s.data.size := rfl
  have h2 : c.size = c.data.size := rfl
  omega
theorem byteAt_list (s : ByteArray) (i : Nat) (h : i < s.size) : byteAt s i = (s.data.toList[i]'(by simpa using h)).toNat := by
  rw [byteAt_eq s i h]; rfl
theorem IsRev.dash {s c : ByteArray} {n : Int} (h : IsRev s c n) : byteAt s c.size = 45 := by
  have hz := h.size
  rw [byteAt_list s _ (by omega)]
  have e := h.data
  have : s.data.toList[c.size]? = some 45 := by
    rw [e, List.getElem?_append_right (by simp)]
    simp
  rw [List.getElem?_eq_getElem (by simp; show c.size < s.size; omega)] at this
  rw [Option.some.inj this]; rfl
theorem IsRev.dig {s c : ByteArray} {n : Int} (h : IsRev s c n) (i : Nat) (h1 : c.size < i) (h2 : i < s.size) : 48 ≤ byteAt s i ∧ byteAt s i ≤ 57 := by
  have hz := h.size
  rw [byteAt_list s _ h2]
  have e := h.data
  have hlt : i - c.size - 1 < (Lib.decDigits n.toNat).length := by omega
  have : s.data.toList[i]? = some ((Lib.decDigits n.toNat)[i - c.size - 1]) := by
    have hcs : c.data.toList.length = c.size := rfl
    rw [e, List.getElem?_append_right (by omega), hcs]
    obtain ⟨j, hj⟩ : ∃ j, i - c.size = j + 1 := ⟨i - c.size - 1, by omega⟩
    simp only [hj, List.getElem?_cons_succ, Nat.add_sub_cancel]
    rw [List.getElem?_eq_getElem (by omega)]
  rw [List.getElem?_eq_getElem (by simp; exact h2)] at this
  rw [Option.some.inj this]
  exact h.num.1.2.2 _ (List.getElem_mem _)
/-- the last dash parts it -/
theorem IsRev.at {s c : ByteArray} {n : Int} (h : IsRev s c n) (k : Nat) (hk : k < s.size) (hd : byteAt s k = 45) (hl : ∀ j, k < j → j < s.size → byteAt s j ≠ 45) : c.size = k := by
  have hz := h.size
  have hd2 := h.dash
  have hp : 0 < (Lib.decDigits n.toNat).length := List.length_pos_iff.2 h.num.1.1
  rcases Nat.lt_trichotomy c.size k with h1 | h1 | h1
  · have := h.dig k h1 hk; omega
  · exact h1
  · exact absurd hd2 (hl c.size h1 (by omega))
theorem extract_list (s : ByteArray) (a b : Nat) : (s.extract a b).data.toList = (s.data.toList.drop a).take (b - a) := by
  rw [ByteArray.data_extract]
  simp
theorem IsRev.left {s c : ByteArray} {n : Int} (h : IsRev s c n) : s.extract 0 c.size = c := by
  apply ByteArray.ext
  apply Array.toList_inj.1
  rw [extract_list, h.data]
  have hcs : c.data.toList.length = c.size := rfl
  simp
theorem IsRev.right {s c : ByteArray} {n : Int} (h : IsRev s c n) : s.extract (c.size + 1) s.size = digS n.toNat := by
  apply ByteArray.ext
  apply Array.toList_inj.1
  have hz := h.size
  rw [extract_list, h.data, digS_list]
  have hcs : c.data.toList.length = c.size := rfl
  have e : s.size - (c.size + 1) = (Lib.decDigits n.toNat).length := by omega
  rw [e, ← hcs, ← List.drop_drop, List.drop_left]
  simp
/-- made of its parts -/
theorem isRev_of {s : ByteArray} {n : Int} (k : Nat) (hk : k < s.size) (hd : byteAt s k = 45) (hc : nameB 16 (s.extract 0 k) = true) (hn : IsNum (s.extract (k + 1) s.size) n) : IsRev s (s.extract 0 k) n := by
  refine ⟨hc, hn.1, hn.2.1, ?_⟩
  rw [← hn.2.2]
  apply ByteArray.ext
  apply Array.toList_inj.1
  simp only [ByteArray.data_append, Array.toList_append, extract_list]
  have hl : s.data.toList.length = s.size := rfl
  have h1 : (s.data.toList[k]'(by omega)) = 45 := by
    have := byteAt_list s k hk
    rw [hd] at this
    exact UInt8.toNat_inj.1 this.symm
  have h2 : s.data.toList.drop k = 45 :: s.data.toList.drop (k + 1) := by
    rw [List.drop_eq_getElem_cons (by omega), h1]
  rw [List.take_of_length_le (l := s.data.toList.drop (k + 1)) (by simp)]
  conv => lhs; rw [← List.take_append_drop k s.data.toList, h2]
  simp

theorem IsRev.unique {s c c' : ByteArray} {n n' : Int} (h : IsRev s c n) (h' : IsRev s c' n') : c = c' ∧ n = n' := by
  have hz := h.size
  have hz' := h'.size
  have e : c'.size = c.size := by
    have hp : 0 < (Lib.decDigits n.toNat).length := List.length_pos_iff.2 h.num.1.1
    refine h'.at c.size (by omega) h.dash fun j h1 h2 => ?_
    have := h.dig j h1 h2; omega
  have ec : c = c' := by rw [← h.left, ← h'.left, e]
  refine ⟨ec, ?_⟩
  have := h.right
  rw [ec] at this
  have h2 := h'.right.symm.trans this
  have h3 : Lib.decDigits n'.toNat = Lib.decDigits n.toNat := by rw [← digS_list, ← digS_list, h2]
  have h4 := h.num.2
  have h5 := h'.num.2
  rw [h3] at h5
  have := h.2.1; have := h'.2.1
  omega

theorem clone_any (s : ByteArray) (w : World) (hs : s.size ≤ 281474976710655) :
    Calls Try.prog 56 #[.string s] w fun e w' => e = .returned (.string s) ∧ Below w.heap.size w w' := by
  have C := Lib.hid (fun w => Try.stringslite_Clone s w (by omega))
  go_enter Try.func56, Try.ntmps56
  go_wp2_with (go_at_call 61; refine (C.out _).mono ?_; rintro e w' ⟨rfl, hb⟩)
  go_ret
  exact ⟨rfl, hb⟩
theorem extract_size_le (s : ByteArray) (a b : Nat) (h : b ≤ s.size) : (s.extract a b).size ≤ s.size := by
  rw [ByteArray.size_extract]; omega

set_option maxHeartbeats 1000000 in
theorem split_any (s : ByteArray) (w : World) (hs : s.size ≤ 281474976710655) :
    Calls Try.prog 48 #[.string s] w fun e w' => splitAns s e ∧ Below w.heap.size w w' := by
  have LI := Lib.hid (fun w' => (Try.strings_LastIndexByte s 45 (by omega) w').mono fun e w'' ⟨he, hw⟩ => (⟨he, hw.symm⟩ : e = Ending.returned (.int .i64 (Lib.lastIndexByte s 45)) ∧ w' = w''))
  rcases Lib.lastIndexByte_spec s 45 with ⟨e1, hn⟩ | ⟨i, hi, e1, hc, hn⟩
  · rw [e1] at LI
    clear e1
    have F : Hid (∀ c n, ¬ IsRev s c n) := Lib.hid (fun c n h => by
      have := h.size
      have h1 := h.dash
      exact hn c.size (by omega) (by show ((byteAt s c.size : Nat) : Int) = 45; omega))
    clear hn
    go_enter Try.func48, Try.ntmps48
    go_wp2_with (go_at_call 54; refine (LI.out _).mono ?_; rintro e w' ⟨rfl, rfl⟩)
    go_ret3
    exact ⟨splitAns.no F.out, Below.refl _ _⟩
  · rw [e1] at LI
    clear e1
    have hd : byteAt s i = 45 := by have : ((byteAt s i : Nat) : Int) = 45 := hc; omega
    have hl : ∀ j, i < j → j < s.size → byteAt s j ≠ 45 := fun j h1 h2 e => hn j h1 h2 (by show ((byteAt s j : Nat) : Int) = 45; omega)
    clear hc hn
    have AT : Hid (∀ c n, IsRev s c n → c.size = i) := Lib.hid (fun c n h => h.at i hi hd hl)
    have MK := Lib.hid (fun n => isRev_of (s := s) (n := n) i hi hd)
    clear hd hl
    have sz1 := extract_size_le s 0 i (by omega)
    have sz2 := extract_size_le s (i + 1) s.size (by omega)
    have NM := Lib.hid (fun w => name_any (s.extract 0 i) w (by unfold maxLen; omega))
    have NB := Lib.hid (fun w => number_any (s.extract (i + 1) s.size) w (by unfold maxLen; omega))
    have CL := Lib.hid (fun w => clone_any (s.extract 0 i) w (by omega))
    by_cases hnm : nameB 16 (s.extract 0 i) = true
    · have MK' := Lib.hid (fun n => MK.out n hnm)
      clear sz1 sz2 MK
      go_enter Try.func48, Try.ntmps48
      go_wp2_with (first | (go_at_call 54; refine (LI.out _).mono ?_; rintro e w' ⟨rfl, rfl⟩) | (go_at_call 40; refine (NM.out _).mono ?_; rintro e w1 ⟨rfl, hb1⟩))
      refine (NB.out _).mono ?_
      rintro e w2 ⟨ha, hb2⟩
      have A := Lib.hid (AT.out)
      rcases ha with ⟨n, hn, rfl⟩ | ⟨hno, rfl⟩
      · have R := Lib.hid (MK'.out n hn)
        clear hn
        go_wp2_with (go_at_call 56; refine (CL.out _).mono ?_; rintro e w3 ⟨rfl, hb3⟩)
        go_ret3
        exact ⟨splitAns.yes R.out, (hb1.trans (hb2.mono hb1.size)).trans (hb3.mono (Nat.le_trans hb1.size hb2.size))⟩
      · have F : Hid (∀ c n, ¬ IsRev s c n) := Lib.hid (fun c n h => hno n ⟨h.2.1, h.2.2.1, by rw [← AT.out c n h]; exact h.right⟩)
        clear hno
        go_wp2
        go_ret3
        exact ⟨splitAns.no F.out, hb1.trans (hb2.mono hb1.size)⟩
    · have F : Hid (∀ c n, ¬ IsRev s c n) := Lib.hid (fun c n h => hnm (by rw [← AT.out c n h, h.left]; exact h.1))
      have hnm' : nameB 16 (s.extract 0 i) = false := by simpa using hnm
      clear hnm sz1 sz2 MK
      go_enter Try.func48, Try.ntmps48
      go_wp2_with (first | (go_at_call 54; refine (LI.out _).mono ?_; rintro e w' ⟨rfl, rfl⟩) | (go_at_call 40; refine (NM.out _).mono ?_; rintro e w1 ⟨rfl, hb1⟩))
      go_ret3
      exact ⟨splitAns.no F.out, hb1⟩
end Go.Proofs.Ytpmhmegjckhbmaa

/- What label and damperref1 answer: names, tags, signs. -/
import Derived.Test.YtpmhmegjckhbmaaBase
namespace Go.Proofs.Ytpmhmegjckhbmaa
set_option linter.unusedVariables false
set_option linter.unusedSimpArgs false
set_option linter.unnecessarySimpa false
open Go.RowKit

def sgn (c : Int) : Bool := decide (97 ≤ c ∧ c ≤ 122 ∨ 48 ≤ c ∧ c ≤ 57 ∨ c = 45)


set_option maxHeartbeats 400000 in
theorem rsign_any (c : Int) (w : World) :
    Calls Try.prog 42 #[.int .u8 c] w fun e w' => e = .returned (.bool (sgn c)) ∧ w = w' := by
  go_enter Try.func42, Try.ntmps42
  go_wp2
  all_goals
    go_ret
    refine ⟨ret_bool ?_, rfl⟩
    rw [Bool.eq_iff_iff]; simp [sgn] <;> omega

def byteAt (s : ByteArray) (i : Nat) : Nat := (s.get! i).toNat
theorem byteAt_eq (s : ByteArray) (i : Nat) (h : i < s.size) : byteAt s i = s[i].toNat := by
  unfold byteAt
  simp [ByteArray.get!, getElem!_pos, h]
  rfl
def nameP (m : Nat) (s : ByteArray) : Prop := 1 ≤ s.size ∧ s.size ≤ m ∧ 97 ≤ byteAt s 0 ∧ byteAt s 0 ≤ 122 ∧ byteAt s (s.size - 1) ≠ 45 ∧ ∀ i, i < s.size → sgn (byteAt s i) = true
instance (m : Nat) (s : ByteArray) : Decidable (nameP m s) := by unfold nameP; infer_instance
def nameB (m : Nat) (s : ByteArray) : Bool := decide (nameP m s)

theorem nameB_no {m : Nat} {s : ByteArray} (h : ¬ nameP m s) : nameB m s = false := by simp [nameB, h]
theorem nameB_yes {m : Nat} {s : ByteArray} (h : nameP m s) : nameB m s = true := by simp [nameB, h]

set_option maxHeartbeats 400000 in
theorem rname_any (s : ByteArray) (w : World) (hs : s.size ≤ maxLen) :
    Calls Try.prog 27 #[.string s] w fun e w' => e = .returned (.bool (nameB 16 s)) ∧ w = w' := by
  unfold maxLen at hs
  by_cases h1 : s.size < 1
  · have E : Hid (nameB 16 s = false) := Lib.hid (nameB_no (by unfold nameP; omega))
    go_enter Try.func27, Try.ntmps27
    go_wp2
    go_ret
    exact ⟨ret_bool E.out.symm, rfl⟩
  by_cases h2 : 16 < s.size
  · have E : Hid (nameB 16 s = false) := Lib.hid (nameB_no (by unfold nameP; omega))
    go_enter Try.func27, Try.ntmps27
    go_wp2
    go_ret
    exact ⟨ret_bool E.out.symm, rfl⟩
  have h0 : 0 < s.size := by omega
  have b0 : Hid (byteAt s 0 = s[0].toNat) := Lib.hid (byteAt_eq s 0 h0)
  have bl : Hid (byteAt s (s.size - 1) = s[s.size - 1].toNat) := Lib.hid (byteAt_eq s (s.size - 1) (by omega))
  by_cases h3 : s[0].toNat < 97
  · have E : Hid (nameB 16 s = false) := Lib.hid (nameB_no (by unfold nameP; rw [b0.out]; omega))
    go_enter Try.func27, Try.ntmps27
    go_wp2
    go_ret
    exact ⟨ret_bool E.out.symm, rfl⟩
  by_cases h4 : 122 < s[0].toNat
  · have E : Hid (nameB 16 s = false) := Lib.hid (nameB_no (by unfold nameP; rw [b0.out]; omega))
    go_enter Try.func27, Try.ntmps27
    go_wp2
    go_ret
    exact ⟨ret_bool E.out.symm, rfl⟩
  by_cases h5 : s[s.size - 1].toNat = 45
  · have E : Hid (nameB 16 s = false) := Lib.hid (nameB_no (by unfold nameP; rw [bl.out]; omega))
    have h5' : ((s[s.size - 1].toNat : Int) == 45) = true := by simp; omega
    clear h5
    go_enter Try.func27, Try.ntmps27
    go_wp2
    go_ret
    exact ⟨ret_bool E.out.symm, rfl⟩
  have h5' : ((s[s.size - 1].toNat : Int) == 45) = false := by simp; omega
  go_enter Try.func27, Try.ntmps27
  go_wp2
  go_loop [3] (fun i => ∃ k : Nat, k ≤ s.size ∧ i = .int .i64 k ∧ Hid (∀ j, j < k → sgn (byteAt s j) = true)) (fun i => s.size - (intOf i).toNat)
  case atStart => exact ⟨0, by omega, rfl, fun j h => by omega⟩
  case round =>
    obtain ⟨k, hk, rfl, HK⟩ := hrel
    by_cases hlt : k < s.size
    · have bk : Hid (byteAt s k = s[k].toNat) := Lib.hid (byteAt_eq s k hlt)
      by_cases hsg : sgn s[k].toNat = true
      · go_wp2_with (go_at_call 42; refine (rsign_any _ _).mono ?_; rintro e w' ⟨rfl, rfl⟩)
        go_round
        case rel => exact ⟨k + 1, by omega, by go_num, fun j hj => by
          by_cases e : j = k
          · subst e; rw [bk.out]; exact hsg
          · exact HK.out j (by omega)⟩
        case measure => simp [intOf]; omega
      · have E : Hid (nameB 16 s = false) := Lib.hid (nameB_no (fun h => hsg (by rw [← bk.out]; exact h.2.2.2.2.2 k hlt)))
        have hsg' : sgn s[k].toNat = false := by simpa using hsg
        clear hsg
        go_wp2_with (go_at_call 42; refine (rsign_any _ _).mono ?_; rintro e w' ⟨rfl, rfl⟩)
        go_ret
        exact ⟨ret_bool E.out.symm, rfl⟩
    · have E : Hid (nameB 16 s = true) := Lib.hid (nameB_yes ⟨by omega, by omega, by rw [b0.out]; omega, by rw [b0.out]; omega, by rw [bl.out]; omega, fun i hi => HK.out i (by omega)⟩)
      go_wp2
      go_ret
      exact ⟨ret_bool E.out.symm, rfl⟩

def ltr (c : Int) : Bool := decide (97 ≤ c ∧ c ≤ 122)
def dgt (c : Int) : Bool := decide (48 ≤ c ∧ c ≤ 57)
set_option maxHeartbeats 400000 in
theorem letter_a (r : Int) (w : World) :
    Calls Try.prog 52 #[.int .i32 r] w fun e w' => e = .returned (.bool (ltr r)) ∧ w = w' := by
  go_enter Try.func52, Try.ntmps52
  go_wp2
  all_goals
    go_ret
    refine ⟨ret_bool ?_, rfl⟩
    rw [Bool.eq_iff_iff]; simp [ltr] <;> omega
set_option maxHeartbeats 400000 in
theorem digit_a (r : Int) (w : World) :
    Calls Try.prog 58 #[.int .i32 r] w fun e w' => e = .returned (.bool (dgt r)) ∧ w = w' := by
  go_enter Try.func58, Try.ntmps58
  go_wp2
  all_goals
    go_ret
    refine ⟨ret_bool ?_, rfl⟩
    rw [Bool.eq_iff_iff]; simp [dgt] <;> omega
set_option maxHeartbeats 400000 in
theorem sign_a (r : Int) (w : World) :
    Calls Try.prog 53 #[.int .i32 r] w fun e w' => e = .returned (.bool (sgn r)) ∧ w = w' := by
  go_enter Try.func53, Try.ntmps53
  go_wp2_with (first | (go_at_call 52; refine (letter_a _ _).mono ?_; rintro e w' ⟨rfl, rfl⟩) | (go_at_call 58; refine (digit_a _ _).mono ?_; rintro e w' ⟨rfl, rfl⟩))
  all_goals
    go_ret
    refine ⟨ret_bool ?_, rfl⟩
    rw [Bool.eq_iff_iff]; simp_all [sgn, ltr, dgt] <;> omega

theorem iterPos_of {w : World} {k : Nat} {s : ByteArray} {p : Nat} (h : w.heap[k]? = some (.stringIter s p)) : w.iterPos k = p := by simp [World.iterPos, h]

theorem sgn_high {c : Int} (h : 128 ≤ c) : sgn c = false := by simp [sgn]; omega
theorem sgn_low {c : Int} (h : sgn c = true) : c < 128 := by simp [sgn] at h; omega


theorem toList_ne (s : ByteArray) (h : 1 ≤ s.size) : ¬ s.toList = [] := by
  rw [ByteArray.toList_eq]; intro e
  have : s.data.toList.length = s.size := rfl
  rw [e] at this; simp at this; omega
theorem toList_isEmpty (s : ByteArray) (h : 1 ≤ s.size) : s.toList.isEmpty = false := by
  have := toList_ne s h
  cases e : s.toList <;> simp_all
theorem decode_asc (s : ByteArray) (pos : Nat) (h : pos < s.size) (ha : (s[pos]'h).toNat < 128) : Utf8.decode s pos = ((s[pos]'h).toNat, 1) := decode_ascii s pos h ha

def runeAt (s : ByteArray) (pos : Nat) : Int := ((Utf8.decode s pos).1 : Int)

theorem runeAt_low (s : ByteArray) (pos : Nat) (h : pos < s.size) (ha : s[pos].toNat < 128) : runeAt s pos = (s[pos].toNat : Int) := by
  unfold runeAt; rw [decode_ascii s pos h ha]
theorem sgn_runeAt (s : ByteArray) (pos : Nat) (h : pos < s.size) : sgn (runeAt s pos) = sgn (s[pos].toNat : Int) := by
  by_cases ha : s[pos].toNat < 128
  · rw [runeAt_low s pos h ha]
  · have := decode_high s pos h (by omega)
    rw [sgn_high (by unfold runeAt; omega), sgn_high (by omega)]
theorem ltr_runeAt (s : ByteArray) (pos : Nat) (h : pos < s.size) : ltr (runeAt s pos) = ltr (s[pos].toNat : Int) := by
  by_cases ha : s[pos].toNat < 128
  · rw [runeAt_low s pos h ha]
  · have := decode_high s pos h (by omega)
    have h1 : ltr (runeAt s pos) = false := decide_eq_false (by unfold runeAt; omega)
    have h2 : ltr (s[pos].toNat : Int) = false := decide_eq_false (by omega)
    rw [h1, h2]
theorem width_one (s : ByteArray) (pos : Nat) (h : pos < s.size) (ha : sgn (s[pos].toNat : Int) = true) : (Utf8.decode s pos).2 = 1 := by
  have := sgn_low ha
  rw [decode_ascii s pos h (by omega)]

set_option maxRecDepth 1000000 in
set_option maxHeartbeats 1000000 in
theorem named_loop (m : Nat) (s : ByteArray) (w : World) (hs : s.size ≤ maxLen) (hm : m ≤ 1000) (h1 : 1 ≤ s.size) (h2 : s.size ≤ m) (h5 : byteAt s (s.size - 1) ≠ 45)
    (hsuf : ∀ w', Calls Try.prog 51 #[.string s, .string ⟨#[45]⟩] w' fun e w'' => e = .returned (.bool false) ∧ w' = w'') :
    Calls Try.prog 47 #[.string s, .int .i64 m] w fun e w' => e = .returned (.bool (nameB m s)) ∧ Below w.heap.size w w' := by
  unfold maxLen at hs
  have HS := Lib.hid hsuf
  clear hsuf
  have h5' := Lib.hid h5
  clear h5
  have hne := toList_isEmpty s h1
  have hne' := toList_ne s h1
  have hdm : decide (m < s.size) = false := decide_eq_false (by omega)
  go_enter Try.func47, Try.ntmps47
  go_wp2_with (go_at_call 51; refine (HS.out _).mono ?_; rintro e w' ⟨rfl, rfl⟩)
  clear hne hne' hdm
  go_loopw [] (fun wr => ∃ (pos : Nat), pos ≤ s.size ∧ wr.heap[w.heap.size]? = some (.stringIter s pos) ∧ Below w.heap.size w wr ∧ Hid ((0 < pos → ltr (byteAt s 0) = true) ∧ ∀ j, j < pos → sgn (byteAt s j) = true)) (fun wr => s.size - wr.iterPos w.heap.size)
  case atStart => exact ⟨0, by omega, World.iter_heap w s 0, (Below.refl _ _).alloc (Nat.le_refl _) _, by omega, fun j h => by omega⟩
  case round =>
    obtain ⟨pos, hpos, hit, hbw, HK⟩ := hrel
    have hpos0 := iterPos_of hit
    by_cases hp : pos < s.size
    · have hnx : ∀ ty, (Instr.next (.pointer (some ⟨w.heap.size, 0, none⟩)) true ty).run Try.prog wr = .ok (.tuple #[.bool true, .int .i64 pos, .int .i32 (runeAt s pos)]) (wr.iterAt w.heap.size s (pos + (Utf8.decode s pos).2)) := fun ty => Lib.run_next_any_at wr w.heap.size s pos ty hit hp
      have hit2 := Lib.iterAt_heap wr w.heap.size s pos (pos + (Utf8.decode s pos).2) hit
      have hbw2 := Lib.below_iterAt hbw (k := w.heap.size) (Nat.le_refl _) s (pos + (Utf8.decode s pos).2)
      have bk := Lib.hid (byteAt_eq s pos hp)
      have SR := Lib.hid (sgn_runeAt s pos hp)
      have LR := Lib.hid (ltr_runeAt s pos hp)
      have WD := Lib.hid (width_one s pos hp)
      obtain ⟨W1, hW1⟩ : ∃ W1, W1 = wr.iterAt w.heap.size s (pos + (Utf8.decode s pos).2) := ⟨_, rfl⟩
      rw [← hW1] at hnx hit2 hbw2
      generalize hr : runeAt s pos = r at *
      clear hr hW1 hit hbw
      by_cases hsg : sgn r = true
      · by_cases h0 : pos = 0
        · by_cases hl : ltr r = true
          · have hp0 : ((pos : Int) == 0) = true := by simp; omega
            have H0 := Lib.hid h0
            clear h0
            go_wp2_with (first | (go_at_call 52; refine (letter_a _ _).mono ?_; rintro e w' ⟨rfl, rfl⟩) | (go_at_call 53; refine (sign_a _ _).mono ?_; rintro e w' ⟨rfl, rfl⟩))
            go_roundw
            case rel =>
              exact ⟨pos + 1, by omega, by rw [hit2, WD.out (by rw [← SR.out]; exact hsg)], hbw2, (fun _ => by rw [← show pos = 0 from H0.out, bk.out, ← LR.out]; exact hl), fun j hj => by
                obtain rfl : j = pos := by have := H0.out; omega
                rw [bk.out, ← SR.out]; exact hsg⟩
            case measure => rw [iterPos_of hit2, hpos0, WD.out (by rw [← SR.out]; exact hsg)]; omega
          · have hp0 : ((pos : Int) == 0) = true := by simp; omega
            have hl' : ltr r = false := by simpa using hl
            have E : Hid (nameB m s = false) := Lib.hid (nameB_no (fun h => hl (by
              rw [LR.out, ← bk.out, h0]; have a := h.2.2.1; have b := h.2.2.2.1; simp [ltr]; omega)))
            clear h0 hl
            go_wp2_with (first | (go_at_call 52; refine (letter_a _ _).mono ?_; rintro e w' ⟨rfl, rfl⟩) | (go_at_call 53; refine (sign_a _ _).mono ?_; rintro e w' ⟨rfl, rfl⟩))
            go_ret
            exact ⟨ret_bool E.out.symm, hbw2⟩
        · have hp0 : ((pos : Int) == 0) = false := by simp; omega
          go_wp2_with (first | (go_at_call 52; refine (letter_a _ _).mono ?_; rintro e w' ⟨rfl, rfl⟩) | (go_at_call 53; refine (sign_a _ _).mono ?_; rintro e w' ⟨rfl, rfl⟩))
          go_roundw
          case rel =>
            exact ⟨pos + 1, by omega, by rw [hit2, WD.out (by rw [← SR.out]; exact hsg)], hbw2, (fun _ => HK.out.1 (by omega)), fun j hj => by
              by_cases e : j = pos
              · subst e; rw [bk.out, ← SR.out]; exact hsg
              · exact HK.out.2 j (by omega)⟩
          case measure => rw [iterPos_of hit2, hpos0, WD.out (by rw [← SR.out]; exact hsg)]; omega
      · have hsg' : sgn r = false := by simpa using hsg
        have E : Hid (nameB m s = false) := Lib.hid (nameB_no (fun h => hsg (by
              rw [SR.out, ← bk.out]; exact h.2.2.2.2.2 pos hp)))
        clear hsg
        by_cases h0 : pos = 0
        · have hp0 : ((pos : Int) == 0) = true := by simp; omega
          clear h0
          by_cases hl : ltr r = true
          all_goals
            go_wp2_with (first | (go_at_call 52; refine (letter_a _ _).mono ?_; rintro e w' ⟨rfl, rfl⟩) | (go_at_call 53; refine (sign_a _ _).mono ?_; rintro e w' ⟨rfl, rfl⟩))
            all_goals (go_ret; exact ⟨ret_bool E.out.symm, hbw2⟩)
        · have hp0 : ((pos : Int) == 0) = false := by simp; omega
          go_wp2_with (first | (go_at_call 52; refine (letter_a _ _).mono ?_; rintro e w' ⟨rfl, rfl⟩) | (go_at_call 53; refine (sign_a _ _).mono ?_; rintro e w' ⟨rfl, rfl⟩))
          go_ret
          exact ⟨ret_bool E.out.symm, hbw2⟩
    · have hnx : ∀ ty, (Instr.next (.pointer (some ⟨w.heap.size, 0, none⟩)) true ty).run Try.prog wr = _ := fun ty => Lib.run_next_end_at wr w.heap.size s pos ty hit hp
      have E : Hid (nameB m s = true) := Lib.hid (nameB_yes ⟨by omega, by omega, by have := HK.out.1 (by omega); simp [ltr] at this; omega, by have := HK.out.1 (by omega); simp [ltr] at this; omega, h5'.out, fun i hi => HK.out.2 i (by omega)⟩)
      go_wp2
      go_ret
      exact ⟨ret_bool E.out.symm, hbw⟩
end Go.Proofs.Ytpmhmegjckhbmaa

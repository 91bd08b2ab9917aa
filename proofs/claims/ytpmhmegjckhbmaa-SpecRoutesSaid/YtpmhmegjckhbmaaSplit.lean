/- What label.Split and damperref1.Split answer. -/
import Derived.Test.YtpmhmegjckhbmaaDig
namespace Go.Proofs.Ytpmhmegjckhbmaa
set_option linter.unusedVariables false
set_option linter.unusedSimpArgs false
set_option linter.unnecessarySimpa false
open Go.RowKit

theorem prefix_zero (s : ByteArray) (h : 1 ≤ s.size) : Lib.hasPrefix s.data.toList [48] = decide (s.data.toList.head? = some 48) := by
  have hl : s.data.toList.length = s.size := rfl
  cases e : s.data.toList with
  | nil => rw [e] at hl; simp at hl; omega
  | cons a t => rw [Bool.eq_iff_iff]; simp [Lib.hasPrefix, List.isPrefixOf]; exact ⟨fun h => h.symm, fun h => h.symm⟩

theorem take_snoc (s : ByteArray) (k : Nat) (h : k < s.size) : s.data.toList.take (k + 1) = s.data.toList.take k ++ [s[k]] := by
  rw [List.take_succ_eq_append_getElem (by simpa using h)]; rfl
theorem mem_get (s : ByteArray) (k : Nat) (h : k < s.size) : s[k] ∈ s.data.toList := by
  have : s[k] = s.data.toList[k]'(by simpa using h) := rfl
  rw [this]; exact List.getElem_mem _
theorem valL_take (s : ByteArray) (k : Nat) : valL (s.data.toList.take k) ≤ valL s.data.toList := by
  conv => rhs; rw [← List.take_append_drop k s.data.toList]
  exact valL_front _ _

def numAns (t : ByteArray) (e : Ending) : Prop :=
  (∃ n, IsNum t n ∧ e = .returned (.tuple #[.int .i64 n, .bool true])) ∨ ((∀ n, ¬ IsNum t n) ∧ e = .returned (.tuple #[.int .i64 0, .bool false]))
theorem numAns.yes {t : ByteArray} {n : Int} (h : IsNum t n) : numAns t (.returned (.tuple #[.int .i64 n, .bool true])) := .inl ⟨n, h, rfl⟩
theorem numAns.no {t : ByteArray} (h : ∀ n, ¬ IsNum t n) : numAns t (.returned (.tuple #[.int .i64 0, .bool false])) := .inr ⟨h, rfl⟩

theorem dgt_runeAt (s : ByteArray) (pos : Nat) (h : pos < s.size) : dgt (runeAt s pos) = dgt (s[pos].toNat : Int) := by
  by_cases ha : s[pos].toNat < 128
  · rw [runeAt_low s pos h ha]
  · have := decode_high s pos h (by omega)
    have h1 : dgt (runeAt s pos) = false := decide_eq_false (by unfold runeAt; omega)
    have h2 : dgt (s[pos].toNat : Int) = false := decide_eq_false (by omega)
    rw [h1, h2]
theorem dgt_yes {c : Int} (h : dgt c = true) : 48 ≤ c ∧ c ≤ 57 := of_decide_eq_true h

set_option maxRecDepth 1000000 in
set_option maxHeartbeats 1000000 in
theorem number_loop (s : ByteArray) (w : World) (hs : s.size ≤ maxLen) (h1 : 1 ≤ s.size) (h48 : s.data.toList.head? ≠ some 48) :
    Calls Try.prog 55 #[.string s] w fun e w' => numAns s e ∧ Below w.heap.size w w' := by
  have hsm := hs
  unfold maxLen at hs
  have HS := Lib.hid (fun w' => (Try.strings_HasPrefix s ⟨#[48]⟩ w').mono fun e w'' ⟨he, hw⟩ => (⟨by rw [he]; show Ending.returned (.bool (Lib.hasPrefix _ [48])) = _; rw [prefix_zero s h1, decide_eq_false h48], hw.symm⟩ : e = Ending.returned (.bool false) ∧ w' = w''))
  have h48' := Lib.hid h48
  clear h48
  have hne := toList_isEmpty s h1
  have hne' := toList_ne s h1
  go_enter Try.func55, Try.ntmps55
  go_wp2_with (go_at_call 60; refine (HS.out _).mono ?_; rintro e w' ⟨rfl, rfl⟩)
  clear hne hne'
  go_loopw [2] (fun n wr => ∃ (pos : Nat), pos ≤ s.size ∧ wr.heap[w.heap.size]? = some (.stringIter s pos) ∧ Below w.heap.size w wr ∧ n = .int .i64 (valL (s.data.toList.take pos) : Nat) ∧ Hid (∀ c, c ∈ s.data.toList.take pos → dgU c) ∧ valL (s.data.toList.take pos) ≤ 999999) (fun _ wr => s.size - wr.iterPos w.heap.size)
  case atStart => exact ⟨0, by omega, World.iter_heap w s 0, (Below.refl _ _).alloc (Nat.le_refl _) _, rfl, fun c h => by simp at h, by simp [valL]⟩
  case round =>
    obtain ⟨pos, hpos, hit, hbw, rfl, HK, hv⟩ := hrel
    have hpos0 := iterPos_of hit
    by_cases hp : pos < s.size
    · have hnx : ∀ ty, (Instr.next (.pointer (some ⟨w.heap.size, 0, none⟩)) true ty).run Try.prog wr = .ok (.tuple #[.bool true, .int .i64 pos, .int .i32 (runeAt s pos)]) (wr.iterAt w.heap.size s (pos + (Utf8.decode s pos).2)) := fun ty => Lib.run_next_any_at wr w.heap.size s pos ty hit hp
      have hit2 := Lib.iterAt_heap wr w.heap.size s pos (pos + (Utf8.decode s pos).2) hit
      have hbw2 := Lib.below_iterAt hbw (k := w.heap.size) (Nat.le_refl _) s (pos + (Utf8.decode s pos).2)
      have DR := dgt_runeAt s pos hp
      have ME := mem_get s pos hp
      have TS := Lib.hid (take_snoc s pos hp)
      have VT := Lib.hid (valL_take s (pos + 1))
      obtain ⟨W1, hW1⟩ : ∃ W1, W1 = wr.iterAt w.heap.size s (pos + (Utf8.decode s pos).2) := ⟨_, rfl⟩
      rw [← hW1] at hnx hit2 hbw2
      by_cases hdg : dgt (runeAt s pos) = true
      · have hb := dgt_yes (DR ▸ hdg)
        have hr := Lib.hid (runeAt_low s pos hp (by omega))
        have WD : Hid ((Utf8.decode s pos).2 = 1) := Lib.hid (by rw [decode_ascii s pos hp (by omega)])
        have DU : dgU s[pos] := ⟨by omega, by omega⟩
        have hrb := dgt_yes hdg
        have SN : Hid (valL (s.data.toList.take (pos + 1)) = valL (s.data.toList.take pos) * 10 + (s[pos].toNat - 48)) := Lib.hid (by rw [TS.out, valL_snoc])
        have RV : Hid ((valL (s.data.toList.take (pos + 1)) : Int) = (valL (s.data.toList.take pos) : Int) * 10 + (runeAt s pos - 48)) := Lib.hid (by rw [hr.out, SN.out]; omega)
        clear DR hb hW1 hit hbw
        generalize runeAt s pos = r at *
        generalize hvv : valL (s.data.toList.take pos) = v at *
        clear hvv
        by_cases hbig : (v : Int) * 10 + (r - 48) ≤ 999999
        · go_wp2_with (go_at_call 58; refine (digit_a _ _).mono ?_; rintro e w' ⟨rfl, rfl⟩)
          go_roundw
          case rel =>
            exact ⟨pos + 1, by omega, by rw [hit2, WD.out], hbw2, by rw [RV.out], (fun c hc => by
              rw [TS.out] at hc
              rcases List.mem_append.1 hc with hc | hc
              · exact HK.out c hc
              · rw [List.mem_singleton] at hc; subst hc; exact DU), by have := RV.out; omega⟩
          case measure => rw [iterPos_of hit2, hpos0, WD.out]; omega
        · have F : Hid (∀ n, ¬ IsNum s n) := Lib.hid (fun n hn => by
            have h2 := hn.num
            have := VT.out; have := RV.out; have := hn.2.1
            omega)
          go_wp2_with (go_at_call 58; refine (digit_a _ _).mono ?_; rintro e w' ⟨rfl, rfl⟩)
          go_ret2
          exact ⟨numAns.no F.out, hbw2⟩
      · have hdg' : dgt (runeAt s pos) = false := by simpa using hdg
        have F : Hid (∀ n, ¬ IsNum s n) := Lib.hid (fun n hn => by
          have h2 := hn.num.1.2.2 _ ME
          rw [DR] at hdg'
          have := of_decide_eq_false hdg'
          unfold dgU at h2; omega)
        clear hdg DR hW1 hit hbw
        generalize runeAt s pos = r at *
        go_wp2_with (go_at_call 58; refine (digit_a _ _).mono ?_; rintro e w' ⟨rfl, rfl⟩)
        go_ret2
        exact ⟨numAns.no F.out, hbw2⟩
    · have hnx : ∀ ty, (Instr.next (.pointer (some ⟨w.heap.size, 0, none⟩)) true ty).run Try.prog wr = _ := fun ty => Lib.run_next_end_at wr w.heap.size s pos ty hit hp
      have F : Hid (IsNum s (valL (s.data.toList.take pos) : Nat)) := Lib.hid (by
        have e : s.data.toList.take pos = s.data.toList := List.take_of_length_le (by show s.size ≤ pos; omega)
        rw [e] at hv ⊢
        have K := HK.out
        rw [e] at K
        exact isNum_of ⟨by intro e; have : s.data.toList.length = s.size := rfl; rw [e] at this; simp at this; omega, h48'.out, K⟩ hv)
      generalize valL (s.data.toList.take pos) = v at *
      go_wp2
      go_ret2
      exact ⟨numAns.yes F.out, hbw⟩

set_option maxHeartbeats 400000 in
theorem number_any (s : ByteArray) (w : World) (hs : s.size ≤ maxLen) :
    Calls Try.prog 55 #[.string s] w fun e w' => numAns s e ∧ Below w.heap.size w w' := by
  by_cases h1 : s.size < 1
  · have F : Hid (∀ n, ¬ IsNum s n) := Lib.hid (fun n hn => by
      have := hn.num.1.1
      have h2 : s.data.toList.length = s.size := rfl
      have := List.length_pos_iff.2 this; omega)
    obtain rfl : s = ⟨#[]⟩ := by
      cases s with | mk d => congr; apply Array.eq_empty_of_size_eq_zero; have : d.size < 1 := h1; omega
    go_enter Try.func55, Try.ntmps55
    go_wp2
    go_ret2
    exact ⟨numAns.no F.out, Below.refl _ _⟩
  · by_cases h48 : s.data.toList.head? = some 48
    · have F : Hid (∀ n, ¬ IsNum s n) := Lib.hid (fun n hn => hn.num.1.2.1 h48)
      have HS := Lib.hid (fun w' => (Try.strings_HasPrefix s ⟨#[48]⟩ w').mono fun e w'' ⟨he, hw⟩ => (⟨by rw [he]; show Ending.returned (.bool (Lib.hasPrefix _ [48])) = _; rw [prefix_zero s (by omega), decide_eq_true h48], hw.symm⟩ : e = Ending.returned (.bool true) ∧ w' = w''))
      have hne := toList_isEmpty s (by omega)
      have hne' := toList_ne s (by omega)
      clear h48
      go_enter Try.func55, Try.ntmps55
      go_wp2_with (go_at_call 60; refine (HS.out _).mono ?_; rintro e w' ⟨rfl, rfl⟩)
      go_ret2
      exact ⟨numAns.no F.out, Below.refl _ _⟩
    · exact number_loop s w hs (by omega) h48
end Go.Proofs.Ytpmhmegjckhbmaa

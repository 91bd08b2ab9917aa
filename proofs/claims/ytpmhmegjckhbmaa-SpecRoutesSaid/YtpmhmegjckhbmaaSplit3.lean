/- What damperref1.Split answers. -/
import Derived.Test.YtpmhmegjckhbmaaSplit2
namespace Go.Proofs.Ytpmhmegjckhbmaa
set_option linter.unusedVariables false
set_option linter.unusedSimpArgs false
set_option linter.unnecessarySimpa false
open Go.RowKit

theorem valL_cons (c : UInt8) (l : List UInt8) : valL (c :: l) = (c.toNat - 48) * 10 ^ l.length + valL l := by
  have : ∀ (l : List UInt8) (v : Nat), l.foldl (fun v c => v * 10 + (c.toNat - 48)) v = v * 10 ^ l.length + valL l := by
    intro l
    induction l with
    | nil => intro v; simp [valL]
    | cons a t ih =>
      intro v
      have e1 : valL (a :: t) = t.foldl (fun v c => v * 10 + (c.toNat - 48)) (0 * 10 + (a.toNat - 48)) := rfl
      rw [e1, ih, List.foldl_cons, ih, List.length_cons, Nat.pow_succ]
      simp only [Nat.add_mul, Nat.zero_mul, Nat.zero_add]
      rw [Nat.mul_assoc, Nat.mul_comm 10, Nat.add_assoc]
  have e1 : valL (c :: l) = l.foldl (fun v c => v * 10 + (c.toNat - 48)) (0 * 10 + (c.toNat - 48)) := rfl
  rw [e1, this, Nat.zero_mul, Nat.zero_add]

def tl (s : ByteArray) (p : Nat) : List UInt8 := s.data.toList.drop p
theorem tl_cons (s : ByteArray) (p : Nat) (h : p < s.size) : tl s p = s[p] :: tl s (p + 1) := by
  unfold tl
  rw [List.drop_eq_getElem_cons (by simpa using h)]; rfl
theorem tl_length (s : ByteArray) (p : Nat) : (tl s p).length = s.size - p := by unfold tl; simp
theorem tl_extract (s : ByteArray) (p : Nat) : (s.extract p s.size).data.toList = tl s p := by
  rw [extract_list]; unfold tl
  rw [List.take_of_length_le (by simp)]

def dgs (l : List UInt8) : Prop := ∀ c, c ∈ l → dgU c
theorem IsRev.dgs {s c : ByteArray} {n : Int} (h : IsRev s c n) : dgs (tl s (c.size + 1)) := by
  rw [← tl_extract, h.right]; exact h.num.1.2.2
theorem IsRev.numTl {s c : ByteArray} {n : Int} (h : IsRev s c n) : numL (tl s (c.size + 1)) := by
  rw [← tl_extract, h.right]; exact h.num.1
theorem dec_len {n : Nat} (h : n ≤ 999999) : (Lib.decDigits n).length ≤ 6 := by
  have := digS_size 5 n (by omega)
  have e : (digS n).size = (Lib.decDigits n).length := by show (Lib.decDigits n).toArray.size = _; simp
  omega
/-- where the digits end -/
theorem IsRev.stop {s c : ByteArray} {n : Int} (h : IsRev s c n) (p k : Nat) (hp : p + k = s.size) (hk : k ≤ 6) (hd : Go.Proofs.Ytpmhmegjckhbmaa.dgs (tl s p))
    (hs : p = 0 ∨ ¬ (48 ≤ byteAt s (p - 1) ∧ byteAt s (p - 1) ≤ 57) ∨ k = 6) : p = c.size + 1 := by
  have hz := h.size
  have hlen : (Lib.decDigits n.toNat).length ≤ 6 := dec_len (by have := h.2.2.1; omega)
  have h1 : c.size < p := by
    rcases Nat.lt_or_ge c.size p with h1 | h1
    · exact h1
    · have hm : s[c.size]'(by omega) ∈ tl s p := by
        have : tl s c.size = s[c.size]'(by omega) :: tl s (c.size + 1) := tl_cons s c.size (by omega)
        have h2 : tl s c.size = (tl s p).drop (c.size - p) := by unfold tl; rw [List.drop_drop]; congr 1; omega
        have h3 : s[c.size]'(by omega) ∈ (tl s p).drop (c.size - p) := by rw [← h2, this]; simp
        exact List.mem_of_mem_drop h3
      have := hd _ hm
      have hb := h.dash
      rw [byteAt_eq s _ (by omega)] at hb
      unfold dgU at this; omega
  rcases hs with h0 | h0 | h0
  · omega
  · rcases Nat.lt_or_ge (c.size + 1) p with h2 | h2
    · exact absurd (h.dig (p - 1) (by omega) (by omega)) h0
    · omega
  · omega

set_option maxRecDepth 1000000 in
set_option maxHeartbeats 2000000 in
theorem rsplit_any (s : ByteArray) (w : World) (hs : s.size ≤ 281474976710655) :
    Calls Try.prog 46 #[.string s] w fun e w' => splitAns s e ∧ w = w' := by
  go_enter Try.func46, Try.ntmps46
  go_wp2
  go_loop [5, 6, 7] (fun at' n by' => ∃ p k v q : Nat, p + k = s.size ∧ k ≤ 6 ∧ at' = .int .i64 p ∧ n = .int .i64 v ∧ by' = .int .i64 q ∧ Hid (q = 10 ^ k) ∧ Hid (v = valL (tl s p)) ∧ q ≤ 1000000 ∧ v < q ∧ Hid (dgs (tl s p))) (fun at' _ _ => (intOf at').toNat)
  case atStart => exact ⟨s.size, 0, 0, 1, by omega, by omega, rfl, rfl, rfl, rfl, (by have : tl s s.size = [] := by unfold tl; simp
                                                                                      show 0 = _; rw [this]; rfl), by omega, by omega, (fun c hc => by have : tl s s.size = [] := by unfold tl; simp
                                                                                                                                                       rw [this] at hc; simp at hc)⟩
  case round =>
    obtain ⟨p, k, v, q, hpk, hk, rfl, rfl, rfl, HQ, HV, hq, hvq, HD⟩ := hrel
    have ST := Lib.hid (fun c n (h : IsRev s c n) => h.stop p k hpk hk HD.out)
    by_cases hp : 0 < p
    · have bk := Lib.hid (byteAt_eq s (p - 1) (by omega))
      by_cases h48 : 48 ≤ s[p - 1].toNat
      · by_cases h57 : s[p - 1].toNat ≤ 57
        · by_cases hq9 : q ≤ 999999
          · have hm : 0 ≤ (q : Int) * ((s[p - 1].toNat : Int) - 48) := Int.mul_nonneg (by omega) (by omega)
            have hm2 : (q : Int) * ((s[p - 1].toNat : Int) - 48) ≤ 9000000 := by
              have := Int.mul_le_mul (show (q : Int) ≤ 1000000 by omega) (show (s[p - 1].toNat : Int) - 48 ≤ 9 by omega) (by omega) (by omega)
              omega
            have hm3 : (v : Int) + (q : Int) * ((s[p - 1].toNat : Int) - 48) < (q : Int) * 10 := by
              have : (q : Int) * ((s[p - 1].toNat : Int) - 48) ≤ (q : Int) * 9 := Int.mul_le_mul_of_nonneg_left (by omega) (by omega)
              omega
            have hk6 : k < 6 := by
              rcases Nat.lt_or_ge k 6 with h | h
              · exact h
              · obtain rfl : k = 6 := by omega
                have := HQ.out; omega
            have TC := Lib.hid (tl_cons s (p - 1) (by omega))
            have NV : Hid ((valL (tl s (p - 1)) : Int) = (v : Int) + (q : Int) * ((s[p - 1].toNat : Int) - 48)) := Lib.hid (by
              have e : p - 1 + 1 = p := by omega
              rw [TC.out, valL_cons, e, tl_length, ← HV.out, show s.size - p = k by omega, ← HQ.out]
              push_cast
              rw [Int.mul_comm, Int.add_comm]
              congr 2
              omega)
            have ND : Hid (dgs (tl s (p - 1))) := Lib.hid (by
              intro c hc
              rw [TC.out] at hc
              rcases List.mem_cons.1 hc with rfl | hc
              · exact ⟨h48, h57⟩
              · have e : p - 1 + 1 = p := by omega
                rw [e] at hc
                exact HD.out c hc)
            go_wp2
            go_round
            case rel => exact ⟨p - 1, k + 1, valL (tl s (p - 1)), q * 10, by omega, by omega, by go_num, by rw [NV.out], by go_num, (by show _ = _; rw [HQ.out, Nat.pow_succ]), rfl, (by
              have : 10 ^ k ≤ 10 ^ 5 := Nat.pow_le_pow_right (by omega) (by omega)
              have := HQ.out; omega), (by have := NV.out; omega), ND.out⟩
            case measure => simp [intOf]; omega
          · have F : Hid (∀ c n, ¬ IsRev s c n) := Lib.hid (fun c n h => by
              have e := ST.out c n h (.inr (.inr (by
                rcases Nat.lt_or_ge k 6 with h | h
                · have : 10 ^ k ≤ 10 ^ 5 := Nat.pow_le_pow_right (by omega) (by omega)
                  have := HQ.out; omega
                · omega)))
              have e2 : byteAt s (p - 1) = 45 := by rw [show p - 1 = c.size by omega]; exact h.dash
              have := bk.out; omega)
            have h45 : ((s[p - 1].toNat : Int) != 45) = true := by simp; omega
            by_cases hps : p = s.size
            · have hz : ((p : Int) == (s.size : Int)) = true := by simp; omega
              clear hps
              go_wp2
              go_ret3
              exact ⟨splitAns.no F.out, rfl⟩
            · have hz : ((p : Int) == (s.size : Int)) = false := by simp; omega
              clear hps
              go_wp2
              go_ret3
              exact ⟨splitAns.no F.out, rfl⟩
        · have F : Hid (∀ c n, ¬ IsRev s c n) := Lib.hid (fun c n h => by
              have e := ST.out c n h (.inr (.inl (by have := bk.out; omega)))
              have e2 : byteAt s (p - 1) = 45 := by rw [show p - 1 = c.size by omega]; exact h.dash
              have := bk.out; omega)
          have h45 : ((s[p - 1].toNat : Int) != 45) = true := by simp; omega
          by_cases hps : p = s.size
          · have hz : ((p : Int) == (s.size : Int)) = true := by simp; omega
            clear hps
            go_wp2
            go_ret3
            exact ⟨splitAns.no F.out, rfl⟩
          · have hz : ((p : Int) == (s.size : Int)) = false := by simp; omega
            clear hps
            go_wp2
            go_ret3
            exact ⟨splitAns.no F.out, rfl⟩
      · have ST2 := Lib.hid (fun c n (h : IsRev s c n) => ST.out c n h (.inr (.inl (by have := bk.out; omega))))
        by_cases hps : p = s.size
        · have F : Hid (∀ c n, ¬ IsRev s c n) := Lib.hid (fun c n h => by
            have := ST2.out c n h
            have := h.size
            have := List.length_pos_iff.2 h.num.1.1; omega)
          have hz : ((p : Int) == (s.size : Int)) = true := by simp; omega
          clear hps
          go_wp2
          go_ret3
          exact ⟨splitAns.no F.out, rfl⟩
        · have hz : ((p : Int) == (s.size : Int)) = false := by simp; omega
          have hlt : p < s.size := by omega
          clear hps
          by_cases h45 : s[p - 1].toNat = 45
          · have h45' : ((s[p - 1].toNat : Int) != 45) = false := by simp; omega
            have D45 : Hid (byteAt s (p - 1) = 45) := Lib.hid (by rw [bk.out]; exact h45)
            clear h45
            by_cases hz8 : s[p].toNat = 48
            · have F : Hid (∀ c n, ¬ IsRev s c n) := Lib.hid (fun c n h => by
                have e := ST2.out c n h
                have := h.numTl.2.1
                rw [← e, tl_cons s p hlt] at this
                exact this (by rw [List.head?_cons]; congr 1; exact UInt8.toNat_inj.1 hz8))
              have hz8' : ((s[p].toNat : Int) == 48) = true := by simp; omega
              clear hz8
              go_wp2
              go_ret3
              exact ⟨splitAns.no F.out, rfl⟩
            · have hz8' : ((s[p].toNat : Int) == 48) = false := by simp; omega
              have N48 : Hid (s[p] ≠ 48) := Lib.hid (fun e => hz8 (by rw [e]; rfl))
              clear hz8
              have sz1 := extract_size_le s 0 (p - 1) (by omega)
              have NM := Lib.hid (fun w => rname_any (s.extract 0 (p - 1)) w (by unfold maxLen; omega))
              by_cases hnm : nameB 16 (s.extract 0 (p - 1)) = true
              · have R : Hid (IsRev s (s.extract 0 (p - 1)) (v : Nat)) := Lib.hid (isRev_of (p - 1) (by omega) D45.out hnm (by
                  have e : p - 1 + 1 = p := by omega
                  rw [e]
                  have hn : numL (s.extract p s.size).data.toList := by
                    rw [tl_extract]
                    refine ⟨?_, ?_, HD.out⟩
                    · rw [tl_cons s p hlt]; simp
                    · rw [tl_cons s p hlt]; simp only [List.head?_cons]; intro h; exact N48.out (Option.some.inj h)
                  have hv : v = valL (s.extract p s.size).data.toList := by rw [tl_extract]; exact HV.out
                  rw [hv]
                  exact isNum_of hn (by rw [← hv]; omega)))
                clear sz1
                go_wp2_with (go_at_call 27; refine (NM.out _).mono ?_; rintro e w1 ⟨rfl, rfl⟩)
                go_ret3
                exact ⟨splitAns.yes R.out, rfl⟩
              · have F : Hid (∀ c n, ¬ IsRev s c n) := Lib.hid (fun c n h => by
                  have e := ST2.out c n h
                  have : s.extract 0 (p - 1) = c := by rw [show p - 1 = c.size by omega]; exact h.left
                  rw [this] at hnm; exact hnm h.1)
                have hnm' : nameB 16 (s.extract 0 (p - 1)) = false := by simpa using hnm
                clear hnm sz1
                go_wp2_with (go_at_call 27; refine (NM.out _).mono ?_; rintro e w1 ⟨rfl, rfl⟩)
                go_ret3
                exact ⟨splitAns.no F.out, rfl⟩
          · have F : Hid (∀ c n, ¬ IsRev s c n) := Lib.hid (fun c n h => by
              have e := ST2.out c n h
              have e2 : byteAt s (p - 1) = 45 := by rw [show p - 1 = c.size by omega]; exact h.dash
              have := bk.out; omega)
            have h45' : ((s[p - 1].toNat : Int) != 45) = true := by simp; omega
            clear h45
            go_wp2
            go_ret3
            exact ⟨splitAns.no F.out, rfl⟩
    · have F : Hid (∀ c n, ¬ IsRev s c n) := Lib.hid (fun c n h => by
        have := ST.out c n h (.inl (by omega)); omega)
      go_wp2
      go_ret3
      exact ⟨splitAns.no F.out, rfl⟩
end Go.Proofs.Ytpmhmegjckhbmaa

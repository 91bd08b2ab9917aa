/- My own texts Base, Label, Rev, Text, Region, Dig, Split, Split2, Split3, Known, Parse, IntsV, laid in one file. -/
import Derived.Test.YtjhfjjkfnmnkgaaRows
import Derived.Test.YtjhfjjkfnmnkgaaShelf
import Derived.WalkKit
import Derived.WalkSpells
import Derived.WalkLawsBesides
import Derived.Lib.Hide
import Derived.Lib.OthersKept
import Derived.Deep.LoopGhost
import Derived.Deep.RegionHeld3
import Derived.Deep.QuietTactic
import Derived.BigQuiet
import Derived.Lib.LaidTab
import Derived.Lib.Strings
import Derived.Lib.ItoaNum
import Derived.OrdersHeld
import Derived.Below
import Derived.KernelRfl
import Derived.Lib.LastIndexByte

/- Small facts for every walk; within of each package of laws. -/
namespace Go.Proofs.Ytjhfjjkfnmnkgaa
set_option maxRecDepth 100000
set_option linter.unusedVariables false
set_option linter.unusedSimpArgs false
set_option linter.unnecessarySimpa false
open Go.RowKit

theorem bcell {W w1 : World} (hb : Below W.heap.size W w1) : (∀ b o, b < W.heap.size → w1.cell? ⟨b, o, none⟩ = W.cell? ⟨b, o, none⟩) ∧ (∀ b o, b < W.heap.size → w1.frozen? ⟨b, o, none⟩ = W.frozen? ⟨b, o, none⟩) ∧ W.heap.size ≤ w1.heap.size :=
  ⟨fun b o h => hb.cell (p := ⟨b, o, none⟩) h, fun b o h => hb.frozen (p := ⟨b, o, none⟩) h, hb.size⟩
theorem ret_bool {a b : Bool} (h : a = b) : Ending.returned (.bool a) = .returned (.bool b) := by rw [h]
def withinI (a n : Int) : Int := if a.tmod n < 0 then a.tmod n + n else a.tmod n
theorem withinI_range (a n : Int) (h : 1 ≤ n) : 0 ≤ withinI a n ∧ withinI a n < n := by
  have h1 := Int.tmod_lt_of_pos a (show 0 < n by omega)
  have h2 : -n < a.tmod n := by
    have := Int.lt_tmod_of_pos a (show 0 < n by omega); omega
  unfold withinI
  split <;> omega
theorem ret_i64 {a b : Int} (h : a = b) : Ending.returned (.int .i64 a) = .returned (.int .i64 b) := by rw [h]

def wf64 (n : Int) : Prop := -9223372036854775808 ≤ n ∧ n ≤ 9223372036854775807
structure IntCells (w : World) (b off : Nat) (zs : List Int) : Prop where
  cell : ∀ i, i < zs.length → w.cell? ⟨b, off + i, none⟩ = some (.int .i64 (zs.getD i 0))
  wf : ∀ i, wf64 (zs.getD i 0)
  len : zs.length ≤ maxLen
def IntSlice (w : World) (v : Value) (zs : List Int) : Prop :=
  (∃ b off cap, v = .slice (some ⟨b, off, none⟩) zs.length cap ∧ IntCells w b off zs) ∨ (zs = [] ∧ ∃ a cap, v = .slice a 0 cap)
theorem IntSlice.below {w w' : World} {v : Value} {zs : List Int} (h : IntSlice w v zs) (hb : Below w.heap.size w w') : IntSlice w' v zs := by
  rcases h with ⟨b, off, cap, hv, h⟩ | h
  · exact .inl ⟨b, off, cap, hv, ⟨fun i hi => cell_later hb (h.cell i hi), h.wf, h.len⟩⟩
  · exact .inr h

theorem cell_new {w : World} {cs : Array Value} {t : TypeId} {b k : Nat} {v : Value} (h : cs[k]? = some v) (hb : b = w.heap.size) : (w.alloc (.cells cs t)).cell? ⟨b, k, none⟩ = some v := by
  subst hb
  simp [World.cell?_alloc_new, h]
set_option maxHeartbeats 400000 in
theorem within13_any (a n : Int) (w : World) (hn : 1 ≤ n) (hn2 : n ≤ 1000000000) (ha : -9223372036854775808 ≤ a) (ha2 : a ≤ 9223372036854775807) :
    Calls Try.prog 12 #[.int .i64 a, .int .i64 n] w fun e w' => e = .returned (.int .i64 (withinI a n)) ∧ w = w' := by
  have h1 := Int.tmod_lt_of_pos a (show 0 < n by omega)
  have h2 : -n < a.tmod n := by
    have := Int.lt_tmod_of_pos a (show 0 < n by omega); omega
  by_cases h : a.tmod n < 0
  · have E : Hid (withinI a n = a.tmod n + n) := Lib.hid (by unfold withinI; rw [if_pos h])
    go_enter Try.func12, Try.ntmps12
    go_wp2
    go_ret
    exact ⟨ret_i64 E.out.symm, rfl⟩
  · have E : Hid (withinI a n = a.tmod n) := Lib.hid (by unfold withinI; rw [if_neg h])
    go_enter Try.func12, Try.ntmps12
    go_wp2
    go_ret
    exact ⟨ret_i64 E.out.symm, rfl⟩

def sgn (c : Int) : Bool := decide (97 ≤ c ∧ c ≤ 122 ∨ 48 ≤ c ∧ c ≤ 57 ∨ c = 45)


def byteAt (s : ByteArray) (i : Nat) : Nat := (s.get! i).toNat
theorem byteAt_eq (s : ByteArray) (i : Nat) (h : i < s.size) : byteAt s i = s[i].toNat := by
  unfold byteAt
  simp [ByteArray.get!, getElem!_pos, h]
  rfl
def nameP (m : Nat) (s : ByteArray) : Prop := 1 ≤ s.size ∧ s.size ≤ m ∧ 97 ≤ byteAt s 0 ∧ byteAt s 0 ≤ 122 ∧ byteAt s (s.size - 1) ≠ 45 ∧ ∀ i, i < s.size → sgn (byteAt s i) = true
instance (m : Nat) (s : ByteArray) : Decidable (nameP m s) := by unfold nameP; infer_instance
def nameB (m : Nat) (s : ByteArray) : Bool := decide (nameP m s)

theorem nameB_no {m : Nat} {s : ByteArray} (h : ¬ nameP m s) : nameB m s = false := by simp [nameB, h]
theorem nameB_yes {m : Nat} {s : ByteArray} (h : nameP m s) : nameB m s = true := by simp [nameB, h]

def ltr (c : Int) : Bool := decide (97 ≤ c ∧ c ≤ 122)
def dgt (c : Int) : Bool := decide (48 ≤ c ∧ c ≤ 57)
set_option maxHeartbeats 400000 in
theorem letter_a (r : Int) (w : World) :
    Calls Try.prog 75 #[.int .i32 r] w fun e w' => e = .returned (.bool (ltr r)) ∧ w = w' := by
  go_enter Try.func75, Try.ntmps75
  go_wp2
  all_goals
    go_ret
    refine ⟨ret_bool ?_, rfl⟩
    rw [Bool.eq_iff_iff]; simp [ltr] <;> omega
set_option maxHeartbeats 400000 in
theorem digit_a (r : Int) (w : World) :
    Calls Try.prog 79 #[.int .i32 r] w fun e w' => e = .returned (.bool (dgt r)) ∧ w = w' := by
  go_enter Try.func79, Try.ntmps79
  go_wp2
  all_goals
    go_ret
    refine ⟨ret_bool ?_, rfl⟩
    rw [Bool.eq_iff_iff]; simp [dgt] <;> omega
set_option maxHeartbeats 400000 in
theorem sign_a (r : Int) (w : World) :
    Calls Try.prog 76 #[.int .i32 r] w fun e w' => e = .returned (.bool (sgn r)) ∧ w = w' := by
  go_enter Try.func76, Try.ntmps76
  go_wp2_with (first | (go_at_call 75; refine (letter_a _ _).mono ?_; rintro e w' ⟨rfl, rfl⟩) | (go_at_call 79; refine (digit_a _ _).mono ?_; rintro e w' ⟨rfl, rfl⟩))
  all_goals
    go_ret
    refine ⟨ret_bool ?_, rfl⟩
    rw [Bool.eq_iff_iff]; simp_all [sgn, ltr, dgt] <;> omega

theorem iterPos_of {w : World} {k : Nat} {s : ByteArray} {p : Nat} (h : w.heap[k]? = some (.stringIter s p)) : w.iterPos k = p := by simp [World.iterPos, h]

theorem sgn_high {c : Int} (h : 128 ≤ c) : sgn c = false := by simp [sgn]; omega
theorem sgn_low {c : Int} (h : sgn c = true) : c < 128 := by simp [sgn] at h; omega


theorem toList_ne (s : ByteArray) (h : 1 ≤ s.size) : ¬ s.toList = [] := by
  rw [ByteArray.toList_eq]; intro e
  have : s.data.toList.length = s.size := rfl
  rw [e] at this; simp at this; omega
theorem toList_isEmpty (s : ByteArray) (h : 1 ≤ s.size) : s.toList.isEmpty = false := by
  have := toList_ne s h
  cases e : s.toList <;> simp_all
def runeAt (s : ByteArray) (pos : Nat) : Int := ((Utf8.decode s pos).1 : Int)

theorem runeAt_low (s : ByteArray) (pos : Nat) (h : pos < s.size) (ha : s[pos].toNat < 128) : runeAt s pos = (s[pos].toNat : Int) := by
  unfold runeAt; rw [decode_ascii s pos h ha]
theorem sgn_runeAt (s : ByteArray) (pos : Nat) (h : pos < s.size) : sgn (runeAt s pos) = sgn (s[pos].toNat : Int) := by
  by_cases ha : s[pos].toNat < 128
  · rw [runeAt_low s pos h ha]
  · have := decode_high s pos h (by omega)
    rw [sgn_high (by unfold runeAt; omega), sgn_high (by omega)]
theorem ltr_runeAt (s : ByteArray) (pos : Nat) (h : pos < s.size) : ltr (runeAt s pos) = ltr (s[pos].toNat : Int) := by
  by_cases ha : s[pos].toNat < 128
  · rw [runeAt_low s pos h ha]
  · have := decode_high s pos h (by omega)
    have h1 : ltr (runeAt s pos) = false := decide_eq_false (by unfold runeAt; omega)
    have h2 : ltr (s[pos].toNat : Int) = false := decide_eq_false (by omega)
    rw [h1, h2]
theorem width_one (s : ByteArray) (pos : Nat) (h : pos < s.size) (ha : sgn (s[pos].toNat : Int) = true) : (Utf8.decode s pos).2 = 1 := by
  have := sgn_low ha
  rw [decode_ascii s pos h (by omega)]

set_option maxRecDepth 1000000 in
set_option maxHeartbeats 1000000 in
theorem named_loop (m : Nat) (s : ByteArray) (w : World) (hs : s.size ≤ maxLen) (hm : m ≤ 1000) (h1 : 1 ≤ s.size) (h2 : s.size ≤ m) (h5 : byteAt s (s.size - 1) ≠ 45)
    (hsuf : ∀ w', Calls Try.prog 74 #[.string s, .string ⟨#[45]⟩] w' fun e w'' => e = .returned (.bool false) ∧ w' = w'') :
    Calls Try.prog 65 #[.string s, .int .i64 m] w fun e w' => e = .returned (.bool (nameB m s)) ∧ Below w.heap.size w w' := by
  unfold maxLen at hs
  have HS := Lib.hid hsuf
  clear hsuf
  have h5' := Lib.hid h5
  clear h5
  have hne := toList_isEmpty s h1
  have hne' := toList_ne s h1
  have hdm : decide (m < s.size) = false := decide_eq_false (by omega)
  go_enter Try.func65, Try.ntmps65
  go_wp2_with (go_at_call 74; refine (HS.out _).mono ?_; rintro e w' ⟨rfl, rfl⟩)
  clear hne hne' hdm
  go_loopw [] (fun wr => ∃ (pos : Nat), pos ≤ s.size ∧ wr.heap[w.heap.size]? = some (.stringIter s pos) ∧ Below w.heap.size w wr ∧ Hid ((0 < pos → ltr (byteAt s 0) = true) ∧ ∀ j, j < pos → sgn (byteAt s j) = true)) (fun wr => s.size - wr.iterPos w.heap.size)
  case atStart => exact ⟨0, by omega, World.iter_heap w s 0, (Below.refl _ _).alloc (Nat.le_refl _) _, by omega, fun j h => by omega⟩
  case round =>
    obtain ⟨pos, hpos, hit, hbw, HK⟩ := hrel
    have hpos0 := iterPos_of hit
    by_cases hp : pos < s.size
    · have hnx : ∀ ty, (Instr.next (.pointer (some ⟨w.heap.size, 0, none⟩)) true ty).run Try.prog wr = .ok (.tuple #[.bool true, .int .i64 pos, .int .i32 (runeAt s pos)]) (wr.iterAt w.heap.size s (pos + (Utf8.decode s pos).2)) := fun ty => Lib.run_next_any_at wr w.heap.size s pos ty hit hp
      have hit2 := Lib.iterAt_heap wr w.heap.size s pos (pos + (Utf8.decode s pos).2) hit
      have hbw2 := Lib.below_iterAt hbw (k := w.heap.size) (Nat.le_refl _) s (pos + (Utf8.decode s pos).2)
      have bk := Lib.hid (byteAt_eq s pos hp)
      have SR := Lib.hid (sgn_runeAt s pos hp)
      have LR := Lib.hid (ltr_runeAt s pos hp)
      have WD := Lib.hid (width_one s pos hp)
      obtain ⟨W1, hW1⟩ : ∃ W1, W1 = wr.iterAt w.heap.size s (pos + (Utf8.decode s pos).2) := ⟨_, rfl⟩
      rw [← hW1] at hnx hit2 hbw2
      generalize hr : runeAt s pos = r at *
      clear hr hW1 hit hbw
      by_cases hsg : sgn r = true
      · by_cases h0 : pos = 0
        · by_cases hl : ltr r = true
          · have hp0 : ((pos : Int) == 0) = true := by simp; omega
            have H0 := Lib.hid h0
            clear h0
            go_wp2_with (first | (go_at_call 75; refine (letter_a _ _).mono ?_; rintro e w' ⟨rfl, rfl⟩) | (go_at_call 76; refine (sign_a _ _).mono ?_; rintro e w' ⟨rfl, rfl⟩))
            go_roundw
            case rel =>
              exact ⟨pos + 1, by omega, by rw [hit2, WD.out (by rw [← SR.out]; exact hsg)], hbw2, (fun _ => by rw [← show pos = 0 from H0.out, bk.out, ← LR.out]; exact hl), fun j hj => by
                obtain rfl : j = pos := by have := H0.out; omega
                rw [bk.out, ← SR.out]; exact hsg⟩
            case measure => rw [iterPos_of hit2, hpos0, WD.out (by rw [← SR.out]; exact hsg)]; omega
          · have hp0 : ((pos : Int) == 0) = true := by simp; omega
            have hl' : ltr r = false := by simpa using hl
            have E : Hid (nameB m s = false) := Lib.hid (nameB_no (fun h => hl (by
              rw [LR.out, ← bk.out, h0]; have a := h.2.2.1; have b := h.2.2.2.1; simp [ltr]; omega)))
            clear h0 hl
            go_wp2_with (first | (go_at_call 75; refine (letter_a _ _).mono ?_; rintro e w' ⟨rfl, rfl⟩) | (go_at_call 76; refine (sign_a _ _).mono ?_; rintro e w' ⟨rfl, rfl⟩))
            go_ret
            exact ⟨ret_bool E.out.symm, hbw2⟩
        · have hp0 : ((pos : Int) == 0) = false := by simp; omega
          go_wp2_with (first | (go_at_call 75; refine (letter_a _ _).mono ?_; rintro e w' ⟨rfl, rfl⟩) | (go_at_call 76; refine (sign_a _ _).mono ?_; rintro e w' ⟨rfl, rfl⟩))
          go_roundw
          case rel =>
            exact ⟨pos + 1, by omega, by rw [hit2, WD.out (by rw [← SR.out]; exact hsg)], hbw2, (fun _ => HK.out.1 (by omega)), fun j hj => by
              by_cases e : j = pos
              · subst e; rw [bk.out, ← SR.out]; exact hsg
              · exact HK.out.2 j (by omega)⟩
          case measure => rw [iterPos_of hit2, hpos0, WD.out (by rw [← SR.out]; exact hsg)]; omega
      · have hsg' : sgn r = false := by simpa using hsg
        have E : Hid (nameB m s = false) := Lib.hid (nameB_no (fun h => hsg (by
              rw [SR.out, ← bk.out]; exact h.2.2.2.2.2 pos hp)))
        clear hsg
        by_cases h0 : pos = 0
        · have hp0 : ((pos : Int) == 0) = true := by simp; omega
          clear h0
          by_cases hl : ltr r = true
          all_goals
            go_wp2_with (first | (go_at_call 75; refine (letter_a _ _).mono ?_; rintro e w' ⟨rfl, rfl⟩) | (go_at_call 76; refine (sign_a _ _).mono ?_; rintro e w' ⟨rfl, rfl⟩))
            all_goals (go_ret; exact ⟨ret_bool E.out.symm, hbw2⟩)
        · have hp0 : ((pos : Int) == 0) = false := by simp; omega
          go_wp2_with (first | (go_at_call 75; refine (letter_a _ _).mono ?_; rintro e w' ⟨rfl, rfl⟩) | (go_at_call 76; refine (sign_a _ _).mono ?_; rintro e w' ⟨rfl, rfl⟩))
          go_ret
          exact ⟨ret_bool E.out.symm, hbw2⟩
    · have hnx : ∀ ty, (Instr.next (.pointer (some ⟨w.heap.size, 0, none⟩)) true ty).run Try.prog wr = _ := fun ty => Lib.run_next_end_at wr w.heap.size s pos ty hit hp
      have E : Hid (nameB m s = true) := Lib.hid (nameB_yes ⟨by omega, by omega, by have := HK.out.1 (by omega); simp [ltr] at this; omega, by have := HK.out.1 (by omega); simp [ltr] at this; omega, h5'.out, fun i hi => HK.out.2 i (by omega)⟩)
      go_wp2
      go_ret
      exact ⟨ret_bool E.out.symm, hbw⟩

def Tab (w : World) : Prop := Lib.TabIs Try.prog w "internal/strconv.uint64pow10" .u64 Lib.pow10Tab
theorem Tab.below {w w' : World} (h : Tab w) (hb : Below w.heap.size w w') : Tab w' := by
  unfold Tab Lib.TabIs World.var? at *
  cases hg : Try.prog.globalNamed "internal/strconv.uint64pow10" with
  | none => rw [hg] at h; simp at h
  | some g =>
    rw [hg] at h
    simp only [Option.bind_some] at h ⊢
    have hlt : g < w.heap.size := by
      rcases Nat.lt_or_ge g w.heap.size with h' | h'
      · exact h'
      · rw [Array.getElem?_eq_none h'] at h; simp at h
    rw [hb.block g hlt]; exact h

theorem suffix_dash (s : ByteArray) (h : 1 ≤ s.size) : Lib.hasSuffix s.data.toList [45] = decide (byteAt s (s.size - 1) = 45) := by
  have hl : s.data.toList.length = s.size := rfl
  rcases List.eq_nil_or_concat s.data.toList with e | ⟨l, c, e⟩
  · rw [e] at hl; simp at hl; omega
  have h1 : s.size - 1 = l.length := by rw [e] at hl; simp at hl; omega
  have h2 : byteAt s (s.size - 1) = c.toNat := by
    rw [byteAt_eq s _ (by omega)]
    have : s[s.size - 1]'(by omega) = s.data.toList[s.size - 1]'(by omega) := rfl
    rw [this]
    have : s.data.toList[s.size - 1]'(by omega) = c := by
      simp only [h1, e]; simp
    rw [this]
  rw [h2, e]
  unfold Lib.hasSuffix
  simp [List.isSuffixOf]
  rw [Bool.eq_iff_iff]
  simp
  constructor
  · rintro rfl; rfl
  · intro h; apply UInt8.toNat_inj.1; simpa using h.symm

set_option maxHeartbeats 400000 in
theorem hasSuffix_a (s : ByteArray) (w : World) (hs : s.size ≤ maxLen) (h : 1 ≤ s.size) :
    Calls Try.prog 74 #[.string s, .string ⟨#[45]⟩] w fun e w' => e = .returned (.bool (decide (byteAt s (s.size - 1) = 45))) ∧ w = w' :=
  (Try.strings_HasSuffix s ⟨#[45]⟩ w (by unfold maxLen at hs; omega)).mono fun e w' ⟨he, hw⟩ => ⟨by rw [he, ← suffix_dash s h], hw.symm⟩

set_option maxHeartbeats 400000 in
theorem named_any (m : Nat) (s : ByteArray) (w : World) (hs : s.size ≤ maxLen) (hm : m ≤ 1000) :
    Calls Try.prog 65 #[.string s, .int .i64 m] w fun e w' => e = .returned (.bool (nameB m s)) ∧ Below w.heap.size w w' := by
  have hsm := hs
  unfold maxLen at hs
  by_cases h1 : s.size < 1
  · have E : Hid (nameB m s = false) := Lib.hid (nameB_no (by unfold nameP; omega))
    obtain rfl : s = ⟨#[]⟩ := by
      cases s with | mk d => congr; apply Array.eq_empty_of_size_eq_zero; have : d.size < 1 := h1; omega
    go_enter Try.func65, Try.ntmps65
    go_wp2
    go_ret
    exact ⟨ret_bool E.out.symm, Below.refl _ _⟩
  by_cases h2 : m < s.size
  · have E : Hid (nameB m s = false) := Lib.hid (nameB_no (by unfold nameP; omega))
    have hne := toList_isEmpty s (by omega)
    have hne' := toList_ne s (by omega)
    have hdm : decide (m < s.size) = true := decide_eq_true (by omega)
    clear h1
    go_enter Try.func65, Try.ntmps65
    go_wp2
    go_ret
    exact ⟨ret_bool E.out.symm, Below.refl _ _⟩
  by_cases h5 : byteAt s (s.size - 1) = 45
  · have E : Hid (nameB m s = false) := Lib.hid (nameB_no (by unfold nameP; omega))
    have hne := toList_isEmpty s (by omega)
    have hne' := toList_ne s (by omega)
    have hdm : decide (m < s.size) = false := decide_eq_false (by omega)
    have HS := Lib.hid (fun w' => (hasSuffix_a s w' hsm (by omega)).mono fun e w'' ⟨he, hw⟩ => (⟨by rw [he, h5]; rfl, hw⟩ : e = Ending.returned (.bool true) ∧ w' = w''))
    clear h5 h1 h2
    go_enter Try.func65, Try.ntmps65
    go_wp2_with (go_at_call 74; refine (HS.out _).mono ?_; rintro e w' ⟨rfl, rfl⟩)
    go_ret
    exact ⟨ret_bool E.out.symm, Below.refl _ _⟩
  · exact named_loop m s w hsm hm (by omega) (by omega) h5 (fun w' => (hasSuffix_a s w' hsm (by omega)).mono fun e w'' ⟨he, hw⟩ => ⟨by rw [he]; simp [h5], hw⟩)

set_option maxHeartbeats 400000 in
theorem name_any (s : ByteArray) (w : World) (hs : s.size ≤ maxLen) :
    Calls Try.prog 72 #[.string s] w fun e w' => e = .returned (.bool (nameB 16 s)) ∧ Below w.heap.size w w' := by
  have C := Lib.hid (named_any 16 s w hs (by omega))
  go_enter Try.func72, Try.ntmps72
  go_wp2_with (go_at_call 65; refine C.out.mono ?_; rintro e w' ⟨rfl, hb⟩)
  go_ret
  exact ⟨rfl, hb⟩
set_option maxHeartbeats 400000 in
theorem tag_any (s : ByteArray) (w : World) (hs : s.size ≤ maxLen) :
    Calls Try.prog 53 #[.string s] w fun e w' => e = .returned (.bool (nameB 8 s)) ∧ Below w.heap.size w w' := by
  have C := Lib.hid (named_any 8 s w hs (by omega))
  go_enter Try.func53, Try.ntmps53
  go_wp2_with (go_at_call 65; refine C.out.mono ?_; rintro e w' ⟨rfl, hb⟩)
  go_ret
  exact ⟨rfl, hb⟩

def digS (n : Nat) : ByteArray := ⟨(Lib.decDigits n).toArray⟩


def pieces : List ByteArray := [⟨#[97]⟩, ⟨#[122]⟩, ⟨#[48]⟩, ⟨#[57]⟩, ⟨#[45]⟩, ⟨#[98]⟩, ⟨#[49]⟩, ⟨#[65]⟩, ⟨#[95]⟩, ⟨#[195, 169]⟩, ⟨#[97]⟩, ⟨#[55]⟩]
def piece (k : Int) : ByteArray := pieces.getD (withinI k 12).toNat ⟨#[]⟩
end Go.Proofs.Ytjhfjjkfnmnkgaa

/- Regions whose order is open, where each operation may only read and make memory: one order stands for all. No program is named here. -/
namespace Go.Grow
set_option linter.unusedVariables false
open Go.RowKit

/-- w1 is w with more memory behind it. -/
abbrev G (w w1 : World) : Prop := Below w.heap.size w w1
theorem G.refl (w : World) : G w w := Below.refl _ _
theorem G.trans {a b c : World} (h : G a b) (k : G b c) : G a c := Below.trans h (Below.mono k h.size)
theorem G.drawn {w : World} (n : Nat) : G w { w with drawn := n } := ⟨rfl, rfl, rfl, Nat.le_refl _, fun _ _ => rfl⟩
theorem G.alloc {a w : World} (h : G a w) (o : Obj) : G a (w.alloc o) := Below.alloc h h.size o

section
variable {P : Program} {ops : Array Oper} {Q : Exit → Act → World → Prop} {md : Region.Mode}

/-- The computation s yields v in world w, and leaves a grown world. -/
def RunsG (P : Program) (s : Sem Next) (w : World) (v : Value) : Prop :=
  (∃ w2, s.run P w = .ok (.value v) w2 ∧ G w w2) ∨
  ∃ f args w2, s.run P w = .ok (.enter f args) w2 ∧ G w w2 ∧ Calls P f args w2 fun e w' => e = .returned v ∧ G w2 w'

/-- Operation o yields v in every world that has grown out of w. -/
def YieldsG (P : Program) (ops : Array Oper) (o : Oper) (v : Value) (a : Act) (w : World) : Prop :=
  (Region.wanted o (yielded ops a.tmps) = true ∧ ∀ w1, G w w1 → RunsG P (execOp a.eval o) w1 v) ∨
  (Region.wanted o (yielded ops a.tmps) = false ∧ v = undef)

theorem YieldsG.mono {o : Oper} {v : Value} {a : Act} {w w1 : World} (h : YieldsG P ops o v a w) (g : G w w1) : YieldsG P ops o v a w1 :=
  h.imp (fun ⟨hw, hv⟩ => ⟨hw, fun w2 g2 => hv w2 (g.trans g2)⟩) id

theorem YieldsG.same {o : Oper} {v : Value} {a a' : Act} {w : World} (h : YieldsG P ops o v a w) (he : execOp a'.eval o = execOp a.eval o)
    (hw : Region.wanted o (yielded ops a'.tmps) = Region.wanted o (yielded ops a.tmps)) : YieldsG P ops o v a' w := by
  unfold YieldsG at *
  rw [he, hw]; exact h

theorem YieldsG.op {i : Nat} {o : Oper} {v : Value} {a : Act} {w : World} (hi : ops[i]? = some o) (hy : YieldsG P ops o v a w)
    {K : Act → World → Prop} (h : ∀ w1, G w w1 → K (a.put o.dst v) w1) : wpOp P ops Q i K a w := by
  unfold wpOp
  simp only [hi]
  rcases hy with ⟨hw, hv⟩ | ⟨hw, rfl⟩
  · simp only [hw, if_true]
    refine .inl ?_
    unfold Oper.wp
    rcases hv w (G.refl w) with ⟨w2, hr, g⟩ | ⟨f, args, w2, hr, g, hc⟩
    · rw [hr]; exact h w2 g
    · rw [hr]
      exact Calls.mono hc fun e w' ⟨he, g'⟩ => by subst he; exact h w' (g.trans g')
  · simp only [hw, Bool.false_eq_true, if_false]
    exact h w (G.refl w)

/-- What oj does is the same with oi's value laid ahead of it, and oi does the same behind it. -/
theorem commute {j : Nat} {oi oj : Oper} {v : Value} (hj : ops[j]? = some oj) (hap : oi.apart ops oj = true)
    (hsi : ∀ cs b, oi.op ≠ .select cs b) (hsj : ∀ cs b, oj.op ≠ .select cs b)
    (hQ : ∀ c a w, Q (.panic c) (a.put oi.dst v) w → Q (.panic c) a w) {K : Act → World → Prop} {a : Act} {w : World}
    (h : wpOp P ops Q j K (a.put oi.dst v) w) :
    wpOp P ops Q j (fun a' w' => (execOp a'.eval oi = execOp a.eval oi ∧ Region.wanted oi (yielded ops a'.tmps) = Region.wanted oi (yielded ops a.tmps)) ∧ K (a'.put oi.dst v) w') a w := by
  obtain ⟨h1, h2, h3⟩ := Oper.apart_spec hap
  have keep : ∀ (b : Act) u, execOp (b.put oj.dst u).eval oi = execOp b.eval oi ∧ Region.wanted oi (yielded ops (b.put oj.dst u).tmps) = Region.wanted oi (yielded ops b.tmps) :=
    fun b u => ⟨execOp_put oi hsi b oj.dst u h3, wanted_put oi b oj.dst u h3⟩
  unfold wpOp at h ⊢
  simp only [hj] at h ⊢
  rw [wanted_put oj a oi.dst v h1] at h
  by_cases hw : Region.wanted oj (yielded ops a.tmps) = true
  · simp only [hw, if_true] at h ⊢
    rcases h with h | ⟨hasks, hlets⟩
    · refine .inl ?_
      unfold Oper.wp at h ⊢
      rw [execOp_put oj hsj a oi.dst v h1] at h
      cases hr : (execOp a.eval oj).run P w with
      | ok n w' =>
        rw [hr] at h
        cases n <;> simp only [Oper.upon] at h ⊢
        case value u => exact ⟨keep a u, by rw [← Act.put_comm a v u h2]; exact h⟩
        case skip => exact ⟨keep a undef, by rw [← Act.put_comm a v undef h2]; exact h⟩
        case defer d =>
          refine ⟨keep { a with defers := d :: a.defers } undef, ?_⟩
          rw [← Act.put_comm _ v undef h2, ← Act.put_defers]
          exact h
        case enter f args =>
          refine Calls.mono h fun e w'' he => ?_
          cases e with
          | returned u => exact ⟨keep a u, by rw [← Act.put_comm a v u h2]; exact he⟩
          | panicked c => exact hQ _ _ _ he
          | outgrown => exact he
        case row row args => exact Rows.mono h fun u w'' he => ⟨keep a u, by rw [← Act.put_comm a v u h2]; exact he⟩
      | halt x w' =>
        rw [hr] at h
        cases x <;> simp only [Oper.upon] at h ⊢
        case panic u => exact hQ _ _ _ h
    · exact .inr ⟨by unfold Oper.asks at hasks ⊢; rw [execOp_put oj hsj a oi.dst v h1] at hasks; exact hasks, hlets⟩
  · simp only [hw] at h ⊢
    exact ⟨keep a undef, by rw [← Act.put_comm a v undef h2]; exact h⟩

/-- Whatever order is picked from here on, in whatever world has grown out of this one. -/
def wpAnyG (P : Program) (md : Region.Mode) (ops : Array Oper) (Q : Exit → Act → World → Prop) : Nat → Array Bool → Act → World → Prop
  | 0, listed, a, w => Region.ready md ops listed = [] ∧ ∀ w1, G w w1 → Q .normal a w1
  | fuel + 1, listed, a, w => ∀ w1, G w w1 → (Region.ready md ops listed = [] → Q .normal a w1) ∧
    ∀ i ∈ Region.ready md ops listed, wpOp P ops Q i (fun a' w' => G w1 w' ∧ wpAnyG P md ops Q fuel (listed.setIfInBounds i true) a' w') a w1

theorem wpAnyG.any : ∀ (fuel : Nat) (listed : Array Bool) (a : Act) (w : World), wpAnyG P md ops Q fuel listed a w → wpAny P md ops Q fuel listed a w
  | 0, _, _, w, h => ⟨h.1, h.2 w (G.refl w)⟩
  | fuel + 1, _, _, w, h => ⟨(h w (G.refl w)).1, fun i hi => wpOp_mono (fun a' w' h' => wpAnyG.any fuel _ a' w' h'.2) ((h w (G.refl w)).2 i hi)⟩
theorem wpAnyG.mono {listed : Array Bool} {a : Act} {w w1 : World} : ∀ {fuel : Nat}, wpAnyG P md ops Q fuel listed a w → G w w1 → wpAnyG P md ops Q fuel listed a w1
  | 0, h, g => ⟨h.1, fun w2 g2 => h.2 w2 (g.trans g2)⟩
  | _ + 1, h, g => fun w2 g2 => h w2 (g.trans g2)

theorem take {i : Nat} {oi : Oper} {v : Value} (hi : ops[i]? = some oi) (hsel : Region.noSelect ops = true)
    (hQ : ∀ c a w, Q (.panic c) (a.put oi.dst v) w → Q (.panic c) a w) :
    ∀ (fuel : Nat) (listed : Array Bool) (a : Act) (w : World),
      (∀ j oj, ops[j]? = some oj → j ≠ i → listed.getD j true = false → (∀ e ∈ oj.after, Region.binds md e = true → e.on ≠ i) → oi.apart ops oj = true) →
      i ∈ Region.ready md ops listed → YieldsG P ops oi v a w →
      wpAnyG P md ops Q fuel (listed.setIfInBounds i true) (a.put oi.dst v) w → wpAnyG P md ops Q (fuel + 1) listed a w := by
  intro fuel
  induction fuel with
  | zero =>
    intro listed a w hfree hr hy H w1 g
    refine ⟨fun h => absurd hr (by rw [h]; simp), fun j hj => ?_⟩
    by_cases hji : j = i
    · subst hji
      exact (hy.mono g).op hi fun w2 g2 => ⟨g2, H.mono (g.trans g2)⟩
    · have h1 := ready_mono hj hji
      rw [H.1] at h1; cases h1
  | succ fuel ih =>
    intro listed a w hfree hr hy H w1 g
    refine ⟨fun h => absurd hr (by rw [h]; simp), fun j hj => ?_⟩
    by_cases hji : j = i
    · subst hji
      exact (hy.mono g).op hi fun w2 g2 => ⟨g2, H.mono (g.trans g2)⟩
    · have h1 := (H w1 g).2 j (ready_mono hj hji)
      obtain ⟨hjun, oj, hoj, hall⟩ := mem_ready.1 hj
      have hnot : ∀ e ∈ oj.after, Region.binds md e = true → e.on ≠ i := fun e he hb heq => by
        have h2 := hall e he hb
        have h0 := (mem_ready.1 hr).1
        rw [heq] at h2
        rcases Nat.lt_or_ge i listed.size with h' | h'
        · simp [h'] at h0 h2; rw [h0] at h2; cases h2
        · simp [Array.getElem?_eq_none h'] at h2
      have h2 := commute hoj (hfree j oj hoj hji hjun hnot) (fun cs b => Region.noSelect_spec hsel i oi cs b hi) (fun cs b => Region.noSelect_spec hsel j oj cs b hoj) hQ h1
      refine wpOp_mono (fun a' w' h3 => ?_) h2
      obtain ⟨⟨he, hw⟩, g3, h4⟩ := h3
      refine ⟨g3, ih (listed.setIfInBounds j true) a' w' (fun k ok hk hki hun hno => ?_) (ready_mono hr (Ne.symm hji)) (((hy.mono g).mono g3).same he hw) ?_⟩
      · refine hfree k ok hk hki ?_ hno
        by_cases hjk : j = k
        · subst hjk; exact hjun
        · rw [getD_set_ne true hjk] at hun; exact hun
      · rw [Array.setIfInBounds_comm _ _ hji]; exact h4

/-- May the operations be taken in this order, one by one? -/
def okOrder (md : Region.Mode) (ops : Array Oper) : List Nat → Array Bool → Bool
  | [], listed => (Region.ready md ops listed).isEmpty
  | i :: rest, listed => Region.free md ops listed i && (Region.ready md ops listed).contains i && okOrder md ops rest (listed.setIfInBounds i true)

/-- The region in one order, the world closed under growth. -/
def seqG (P : Program) (ops : Array Oper) (Q : Exit → Act → World → Prop) : List Nat → Act → World → Prop
  | [], a, w => ∀ w1, G w w1 → Q .normal a w1
  | i :: rest, a, w => ∃ o v, ops[i]? = some o ∧ YieldsG P ops o v a w ∧ seqG P ops Q rest (a.put o.dst v) w

theorem anyG_of_seqG (hsel : Region.noSelect ops = true) (hQ : ∀ c a d v w, Q (.panic c) (a.put d v) w → Q (.panic c) a w) :
    ∀ (ord : List Nat) (listed : Array Bool) (a : Act) (w : World), okOrder md ops ord listed = true → seqG P ops Q ord a w → wpAnyG P md ops Q ord.length listed a w
  | [], listed, a, w, ho, h => ⟨by simpa [okOrder] using ho, h⟩
  | i :: rest, listed, a, w, ho, ⟨o, v, hi, hy, h⟩ => by
    simp only [okOrder, Bool.and_eq_true] at ho
    exact take hi hsel (fun c a w => hQ c a o.dst v w) rest.length listed a w (Region.free_spec hi ho.1.1) (by simpa using ho.1.2) hy
      (anyG_of_seqG hsel hQ rest _ _ w ho.2 h)

/-- THE BEGINNING: a region that draws its order, walked in one. -/
theorem region_seqG {id : Nat} {a : Act} {w : World} (ord : List Nat) (hm : P.follows .mixedOrders = true) (hsel : Region.noSelect ops = true)
    (hQ : ∀ c a d v w, Q (.panic c) (a.put d v) w → Q (.panic c) a w) (hl : ord.length = ops.size)
    (ho : okOrder .any ops ord (Array.replicate ops.size false) = true) (h : seqG P ops Q ord a w) : (Code.region id ops true).wp P Q a w := by
  have h1 := (anyG_of_seqG hsel hQ ord _ a w ho h).mono (G.drawn (w.drawn + 1))
  rw [hl] at h1
  exact wp_region_any hm (wpAnyG.any _ _ _ _ h1)

theorem seqG.value {i : Nat} {rest : List Nat} {a : Act} {w : World} {o : Oper} (v : Value) (hi : ops[i]? = some o) (hw : Region.wanted o (yielded ops a.tmps) = true)
    (hv : ∀ w1, G w w1 → (execOp a.eval o).run P w1 = .ok (.value v) w1) (h : seqG P ops Q rest (a.put o.dst v) w) : seqG P ops Q (i :: rest) a w :=
  ⟨o, v, hi, .inl ⟨hw, fun w1 g => .inl ⟨w1, hv w1 g, G.refl w1⟩⟩, h⟩
theorem seqG.idle {i : Nat} {rest : List Nat} {a : Act} {w : World} {o : Oper} (hi : ops[i]? = some o) (hw : Region.wanted o (yielded ops a.tmps) = false)
    (h : seqG P ops Q rest (a.put o.dst undef) w) : seqG P ops Q (i :: rest) a w :=
  ⟨o, undef, hi, .inr ⟨hw, rfl⟩, h⟩
theorem seqG.call {i : Nat} {rest : List Nat} {a : Act} {w : World} {o : Oper} (v : Value) (f : FuncId) (args : Array Value) (hi : ops[i]? = some o) (hw : Region.wanted o (yielded ops a.tmps) = true)
    (hv : ∀ w1, (execOp a.eval o).run P w1 = .ok (.enter f args) w1) (hc : ∀ w1, G w w1 → Calls P f args w1 fun e w' => e = .returned v ∧ G w1 w')
    (h : seqG P ops Q rest (a.put o.dst v) w) : seqG P ops Q (i :: rest) a w :=
  ⟨o, v, hi, .inl ⟨hw, fun w1 g => .inr ⟨f, args, w1, hv w1, G.refl w1, hc w1 g⟩⟩, h⟩
theorem seqG.done {a : Act} {w : World} (h : ∀ w1, G w w1 → Q .normal a w1) : seqG P ops Q [] a w := h

/-- The same, the operations taken in the text's order, off the list itself. -/
def seqT (P : Program) (ops : Array Oper) (Q : Exit → Act → World → Prop) : List Oper → Act → World → Prop
  | [], a, w => ∀ w1, G w w1 → Q .normal a w1
  | o :: rest, a, w => ∃ v, YieldsG P ops o v a w ∧ seqT P ops Q rest (a.put o.dst v) w
theorem seqG_of_seqT : ∀ (l : List Oper) (k : Nat) (a : Act) (w : World), (∀ j, l[j]? = ops[k + j]?) → seqT P ops Q l a w → seqG P ops Q (List.range' k l.length) a w
  | [], _, _, _, _, h => h
  | o :: rest, k, a, w, hl, ⟨v, hy, h⟩ => by
    refine ⟨o, v, (by simpa using (hl 0).symm), hy, ?_⟩
    exact seqG_of_seqT rest (k + 1) _ w (fun j => by have := hl (j + 1); simp only [List.getElem?_cons_succ] at this; rw [this]; congr 1; omega) h
theorem region_seqT {id : Nat} {l : List Oper} {a : Act} {w : World} (hm : P.follows .mixedOrders = true) (hsel : Region.noSelect l.toArray = true)
    (hQ : ∀ c a d v w, Q (.panic c) (a.put d v) w → Q (.panic c) a w)
    (ho : okOrder .any l.toArray (List.range' 0 l.length) (Array.replicate l.length false) = true) (h : seqT P l.toArray Q l a w) : (Code.region id l.toArray true).wp P Q a w :=
  region_seqG (List.range' 0 l.length) hm hsel hQ (by simp) (by simpa using ho) (seqG_of_seqT l 0 a w (fun j => by simp) h)
theorem seqT.value {rest : List Oper} {a : Act} {w : World} {o : Oper} (v : Value) (hw : Region.wanted o (yielded ops a.tmps) = true)
    (hv : ∀ w1, G w w1 → (execOp a.eval o).run P w1 = .ok (.value v) w1) (h : seqT P ops Q rest (a.put o.dst v) w) : seqT P ops Q (o :: rest) a w :=
  ⟨v, .inl ⟨hw, fun w1 g => .inl ⟨w1, hv w1 g, G.refl w1⟩⟩, h⟩
theorem seqT.idle {rest : List Oper} {a : Act} {w : World} {o : Oper} (hw : Region.wanted o (yielded ops a.tmps) = false)
    (h : seqT P ops Q rest (a.put o.dst undef) w) : seqT P ops Q (o :: rest) a w :=
  ⟨undef, .inr ⟨hw, rfl⟩, h⟩
theorem seqT.call {rest : List Oper} {a : Act} {w : World} {o : Oper} (v : Value) (f : FuncId) (args : Array Value) (hw : Region.wanted o (yielded ops a.tmps) = true)
    (hv : ∀ w1, (execOp a.eval o).run P w1 = .ok (.enter f args) w1) (hc : ∀ w1, G w w1 → Calls P f args w1 fun e w' => e = .returned v ∧ G w1 w')
    (h : seqT P ops Q rest (a.put o.dst v) w) : seqT P ops Q (o :: rest) a w :=
  ⟨v, .inl ⟨hw, fun w1 g => .inr ⟨f, args, w1, hv w1, G.refl w1, hc w1 g⟩⟩, h⟩
theorem seqT.done {a : Act} {w : World} (h : ∀ w1, G w w1 → Q .normal a w1) : seqT P ops Q [] a w := h
end
end Go.Grow

/- Numerals and revisions' names: plain facts about bytes. -/
namespace Go.Proofs.Ytjhfjjkfnmnkgaa
set_option maxRecDepth 100000
set_option linter.unusedVariables false
set_option linter.unusedSimpArgs false
set_option linter.unnecessarySimpa false
open Go.RowKit

def valL (l : List UInt8) : Nat := l.foldl (fun v c => v * 10 + (c.toNat - 48)) 0
theorem valL_snoc (l : List UInt8) (c : UInt8) : valL (l ++ [c]) = valL l * 10 + (c.toNat - 48) := by
  simp [valL, List.foldl_append]
def dgU (c : UInt8) : Prop := 48 ≤ c.toNat ∧ c.toNat ≤ 57
def numL (l : List UInt8) : Prop := l ≠ [] ∧ l.head? ≠ some 48 ∧ ∀ c, c ∈ l → dgU c

theorem toNat_ofNat_dig {d : Nat} (h : d < 10) : (UInt8.ofNat (48 + d)).toNat = 48 + d := by
  simp only [UInt8.toNat_ofNat']
  omega
theorem ofNat_dig {c : UInt8} (h : dgU c) : UInt8.ofNat (48 + (c.toNat - 48)) = c := by
  apply UInt8.toNat_inj.1
  have := h.1; have := h.2
  rw [toNat_ofNat_dig (by omega)]; omega

theorem dec_num (n : Nat) : 1 ≤ n → numL (Lib.decDigits n) ∧ valL (Lib.decDigits n) = n := by
  induction n using Nat.strongRecOn with
  | _ n ih =>
    intro h
    by_cases hs : n < 10
    · rw [Lib.decDigits_one hs]
      have e := toNat_ofNat_dig hs
      refine ⟨⟨by simp, ?_, ?_⟩, ?_⟩
      · intro hc
        have : UInt8.ofNat (48 + n) = 48 := by simpa only [List.head?_cons, Option.some.injEq] using hc
        rw [this] at e
        have : (48 : UInt8).toNat = 48 := rfl
        omega
      · intro c hc
        rw [List.mem_singleton] at hc; subst hc; unfold dgU; omega
      · have := valL_snoc [] (UInt8.ofNat (48 + n))
        simp only [List.nil_append] at this
        rw [this, e]; simp [valL]
    · rw [Lib.decDigits, dif_neg hs]
      obtain ⟨⟨h1, h2, h3⟩, h4⟩ := ih (n / 10) (by omega) (by omega)
      have e := toNat_ofNat_dig (show n % 10 < 10 by omega)
      refine ⟨⟨by simp, ?_, ?_⟩, ?_⟩
      · cases hl : Lib.decDigits (n / 10) with
        | nil => exact absurd hl h1
        | cons a t => rw [hl] at h2; simpa using h2
      · intro c hc
        rcases List.mem_append.1 hc with hc | hc
        · exact h3 c hc
        · rw [List.mem_singleton] at hc; subst hc; unfold dgU; omega
      · rw [valL_snoc, h4, e]; omega

theorem valL_pos (l : List UInt8) : numL l → 1 ≤ valL l := by
  intro h
  have : ∀ (l : List UInt8) (v : Nat), 1 ≤ v → 1 ≤ l.foldl (fun v c => v * 10 + (c.toNat - 48)) v := by
    intro l
    induction l with
    | nil => intro v h; exact h
    | cons a t ih => intro v h; simp only [List.foldl_cons]; exact ih _ (by omega)
  cases l with
  | nil => exact absurd rfl h.1
  | cons a t =>
    unfold valL
    simp only [List.foldl_cons]
    apply this
    have h1 := h.2.2 a (by simp)
    have h2 : a ≠ 48 := fun e => h.2.1 (by rw [e]; rfl)
    have h3 : a.toNat ≠ 48 := fun e => h2 (UInt8.toNat_inj.1 e)
    unfold dgU at h1; omega

theorem num_dec : ∀ (k : Nat) (l : List UInt8), l.length = k + 1 → numL l → Lib.decDigits (valL l) = l
  | 0, l, hl, h => by
    match l, hl with
    | [a], _ =>
      have h1 := h.2.2 a (by simp)
      have := valL_snoc [] a
      simp only [List.nil_append] at this
      rw [this]
      have h0 : valL [] = 0 := rfl
      rw [h0]
      have := h1.1; have := h1.2
      rw [Nat.zero_mul, Nat.zero_add, Lib.decDigits_one (by omega), ofNat_dig h1]
  | k + 1, l, hl, h => by
    rcases List.eq_nil_or_concat l with e | ⟨t, c, e⟩
    · rw [e] at hl; simp at hl
    · rw [List.concat_eq_append] at e
      subst e
      have ht : t.length = k + 1 := by simp at hl; omega
      have hn : numL t := by
        refine ⟨by intro e; rw [e] at ht; simp at ht, ?_, fun c hc => h.2.2 c (List.mem_append.2 (.inl hc))⟩
        cases t with
        | nil => simp at ht
        | cons a t => simpa using h.2.1
      have h1 := h.2.2 c (by simp)
      have hp := valL_pos t hn
      have := h1.1; have := h1.2
      rw [valL_snoc, Lib.decDigits, dif_neg (by omega)]
      have e1 : (valL t * 10 + (c.toNat - 48)) / 10 = valL t := by omega
      have e2 : (valL t * 10 + (c.toNat - 48)) % 10 = c.toNat - 48 := by omega
      rw [e1, e2, num_dec k t ht hn, ofNat_dig h1]

theorem valL_front (a b : List UInt8) : valL a ≤ valL (a ++ b) := by
  have : ∀ (l : List UInt8) (v : Nat), v ≤ l.foldl (fun v c => v * 10 + (c.toNat - 48)) v := by
    intro l
    induction l with
    | nil => intro v; exact Nat.le_refl _
    | cons a t ih => intro v; simp only [List.foldl_cons]; exact Nat.le_trans (by omega) (ih _)
  unfold valL
  rw [List.foldl_append]
  exact this _ _

/-- A revision's name, and its parts. -/
def IsRev (s c : ByteArray) (n : Int) : Prop := nameB 16 c = true ∧ 1 ≤ n ∧ n ≤ 999999 ∧ s = c ++ ⟨#[45]⟩ ++ digS n.toNat

def IsNum (t : ByteArray) (n : Int) : Prop := 1 ≤ n ∧ n ≤ 999999 ∧ t = digS n.toNat
theorem digS_list (n : Nat) : (digS n).data.toList = Lib.decDigits n := rfl
theorem isNum_of {t : ByteArray} (h : numL t.data.toList) (h2 : valL t.data.toList ≤ 999999) : IsNum t (valL t.data.toList) := by
  have h1 := valL_pos _ h
  refine ⟨by omega, by omega, ?_⟩
  rw [Int.toNat_natCast]
  have hl : t.data.toList.length = (t.data.toList.length - 1) + 1 := by
    have := List.length_pos_iff.2 h.1; omega
  have := num_dec _ _ hl h
  unfold digS; rw [this]
theorem IsNum.num {t : ByteArray} {n : Int} (h : IsNum t n) : numL t.data.toList ∧ (valL t.data.toList : Int) = n := by
  have := dec_num n.toNat (by have := h.1; omega)
  rw [h.2.2, digS_list]
  exact ⟨this.1, by rw [this.2]; have := h.1; omega⟩

theorem prefix_zero (s : ByteArray) (h : 1 ≤ s.size) : Lib.hasPrefix s.data.toList [48] = decide (s.data.toList.head? = some 48) := by
  have hl : s.data.toList.length = s.size := rfl
  cases e : s.data.toList with
  | nil => rw [e] at hl; simp at hl; omega
  | cons a t => rw [Bool.eq_iff_iff]; simp [Lib.hasPrefix, List.isPrefixOf]; exact ⟨fun h => h.symm, fun h => h.symm⟩

theorem take_snoc (s : ByteArray) (k : Nat) (h : k < s.size) : s.data.toList.take (k + 1) = s.data.toList.take k ++ [s[k]] := by
  rw [List.take_succ_eq_append_getElem (by simpa using h)]; rfl
theorem mem_get (s : ByteArray) (k : Nat) (h : k < s.size) : s[k] ∈ s.data.toList := by
  have : s[k] = s.data.toList[k]'(by simpa using h) := rfl
  rw [this]; exact List.getElem_mem _
theorem valL_take (s : ByteArray) (k : Nat) : valL (s.data.toList.take k) ≤ valL s.data.toList := by
  conv => rhs; rw [← List.take_append_drop k s.data.toList]
  exact valL_front _ _

def numAns (t : ByteArray) (e : Ending) : Prop :=
  (∃ n, IsNum t n ∧ e = .returned (.tuple #[.int .i64 n, .bool true])) ∨ ((∀ n, ¬ IsNum t n) ∧ e = .returned (.tuple #[.int .i64 0, .bool false]))
theorem numAns.yes {t : ByteArray} {n : Int} (h : IsNum t n) : numAns t (.returned (.tuple #[.int .i64 n, .bool true])) := .inl ⟨n, h, rfl⟩
theorem numAns.no {t : ByteArray} (h : ∀ n, ¬ IsNum t n) : numAns t (.returned (.tuple #[.int .i64 0, .bool false])) := .inr ⟨h, rfl⟩

theorem dgt_runeAt (s : ByteArray) (pos : Nat) (h : pos < s.size) : dgt (runeAt s pos) = dgt (s[pos].toNat : Int) := by
  by_cases ha : s[pos].toNat < 128
  · rw [runeAt_low s pos h ha]
  · have := decode_high s pos h (by omega)
    have h1 : dgt (runeAt s pos) = false := decide_eq_false (by unfold runeAt; omega)
    have h2 : dgt (s[pos].toNat : Int) = false := decide_eq_false (by omega)
    rw [h1, h2]
theorem dgt_yes {c : Int} (h : dgt c = true) : 48 ≤ c ∧ c ≤ 57 := of_decide_eq_true h

set_option maxRecDepth 1000000 in
set_option maxHeartbeats 1000000 in
theorem number_loop (s : ByteArray) (w : World) (hs : s.size ≤ maxLen) (h1 : 1 ≤ s.size) (h48 : s.data.toList.head? ≠ some 48) :
    Calls Try.prog 73 #[.string s] w fun e w' => numAns s e ∧ Below w.heap.size w w' := by
  have hsm := hs
  unfold maxLen at hs
  have HS := Lib.hid (fun w' => (Try.strings_HasPrefix s ⟨#[48]⟩ w').mono fun e w'' ⟨he, hw⟩ => (⟨by rw [he]; show Ending.returned (.bool (Lib.hasPrefix _ [48])) = _; rw [prefix_zero s h1, decide_eq_false h48], hw.symm⟩ : e = Ending.returned (.bool false) ∧ w' = w''))
  have h48' := Lib.hid h48
  clear h48
  have hne := toList_isEmpty s h1
  have hne' := toList_ne s h1
  go_enter Try.func73, Try.ntmps73
  go_wp2_with (go_at_call 78; refine (HS.out _).mono ?_; rintro e w' ⟨rfl, rfl⟩)
  clear hne hne'
  go_loopw [2] (fun n wr => ∃ (pos : Nat), pos ≤ s.size ∧ wr.heap[w.heap.size]? = some (.stringIter s pos) ∧ Below w.heap.size w wr ∧ n = .int .i64 (valL (s.data.toList.take pos) : Nat) ∧ Hid (∀ c, c ∈ s.data.toList.take pos → dgU c) ∧ valL (s.data.toList.take pos) ≤ 999999) (fun _ wr => s.size - wr.iterPos w.heap.size)
  case atStart => exact ⟨0, by omega, World.iter_heap w s 0, (Below.refl _ _).alloc (Nat.le_refl _) _, rfl, fun c h => by simp at h, by simp [valL]⟩
  case round =>
    obtain ⟨pos, hpos, hit, hbw, rfl, HK, hv⟩ := hrel
    have hpos0 := iterPos_of hit
    by_cases hp : pos < s.size
    · have hnx : ∀ ty, (Instr.next (.pointer (some ⟨w.heap.size, 0, none⟩)) true ty).run Try.prog wr = .ok (.tuple #[.bool true, .int .i64 pos, .int .i32 (runeAt s pos)]) (wr.iterAt w.heap.size s (pos + (Utf8.decode s pos).2)) := fun ty => Lib.run_next_any_at wr w.heap.size s pos ty hit hp
      have hit2 := Lib.iterAt_heap wr w.heap.size s pos (pos + (Utf8.decode s pos).2) hit
      have hbw2 := Lib.below_iterAt hbw (k := w.heap.size) (Nat.le_refl _) s (pos + (Utf8.decode s pos).2)
      have DR := dgt_runeAt s pos hp
      have ME := mem_get s pos hp
      have TS := Lib.hid (take_snoc s pos hp)
      have VT := Lib.hid (valL_take s (pos + 1))
      obtain ⟨W1, hW1⟩ : ∃ W1, W1 = wr.iterAt w.heap.size s (pos + (Utf8.decode s pos).2) := ⟨_, rfl⟩
      rw [← hW1] at hnx hit2 hbw2
      by_cases hdg : dgt (runeAt s pos) = true
      · have hb := dgt_yes (DR ▸ hdg)
        have hr := Lib.hid (runeAt_low s pos hp (by omega))
        have WD : Hid ((Utf8.decode s pos).2 = 1) := Lib.hid (by rw [decode_ascii s pos hp (by omega)])
        have DU : dgU s[pos] := ⟨by omega, by omega⟩
        have hrb := dgt_yes hdg
        have SN : Hid (valL (s.data.toList.take (pos + 1)) = valL (s.data.toList.take pos) * 10 + (s[pos].toNat - 48)) := Lib.hid (by rw [TS.out, valL_snoc])
        have RV : Hid ((valL (s.data.toList.take (pos + 1)) : Int) = (valL (s.data.toList.take pos) : Int) * 10 + (runeAt s pos - 48)) := Lib.hid (by rw [hr.out, SN.out]; omega)
        clear DR hb hW1 hit hbw
        generalize runeAt s pos = r at *
        generalize hvv : valL (s.data.toList.take pos) = v at *
        clear hvv
        by_cases hbig : (v : Int) * 10 + (r - 48) ≤ 999999
        · go_wp2_with (go_at_call 79; refine (digit_a _ _).mono ?_; rintro e w' ⟨rfl, rfl⟩)
          go_roundw
          case rel =>
            exact ⟨pos + 1, by omega, by rw [hit2, WD.out], hbw2, by rw [RV.out], (fun c hc => by
              rw [TS.out] at hc
              rcases List.mem_append.1 hc with hc | hc
              · exact HK.out c hc
              · rw [List.mem_singleton] at hc; subst hc; exact DU), by have := RV.out; omega⟩
          case measure => rw [iterPos_of hit2, hpos0, WD.out]; omega
        · have F : Hid (∀ n, ¬ IsNum s n) := Lib.hid (fun n hn => by
            have h2 := hn.num
            have := VT.out; have := RV.out; have := hn.2.1
            omega)
          go_wp2_with (go_at_call 79; refine (digit_a _ _).mono ?_; rintro e w' ⟨rfl, rfl⟩)
          go_ret2
          exact ⟨numAns.no F.out, hbw2⟩
      · have hdg' : dgt (runeAt s pos) = false := by simpa using hdg
        have F : Hid (∀ n, ¬ IsNum s n) := Lib.hid (fun n hn => by
          have h2 := hn.num.1.2.2 _ ME
          rw [DR] at hdg'
          have := of_decide_eq_false hdg'
          unfold dgU at h2; omega)
        clear hdg DR hW1 hit hbw
        generalize runeAt s pos = r at *
        go_wp2_with (go_at_call 79; refine (digit_a _ _).mono ?_; rintro e w' ⟨rfl, rfl⟩)
        go_ret2
        exact ⟨numAns.no F.out, hbw2⟩
    · have hnx : ∀ ty, (Instr.next (.pointer (some ⟨w.heap.size, 0, none⟩)) true ty).run Try.prog wr = _ := fun ty => Lib.run_next_end_at wr w.heap.size s pos ty hit hp
      have F : Hid (IsNum s (valL (s.data.toList.take pos) : Nat)) := Lib.hid (by
        have e : s.data.toList.take pos = s.data.toList := List.take_of_length_le (by show s.size ≤ pos; omega)
        rw [e] at hv ⊢
        have K := HK.out
        rw [e] at K
        exact isNum_of ⟨by intro e; have : s.data.toList.length = s.size := rfl; rw [e] at this; simp at this; omega, h48'.out, K⟩ hv)
      generalize valL (s.data.toList.take pos) = v at *
      go_wp2
      go_ret2
      exact ⟨numAns.yes F.out, hbw⟩

set_option maxHeartbeats 400000 in
theorem number_any (s : ByteArray) (w : World) (hs : s.size ≤ maxLen) :
    Calls Try.prog 73 #[.string s] w fun e w' => numAns s e ∧ Below w.heap.size w w' := by
  by_cases h1 : s.size < 1
  · have F : Hid (∀ n, ¬ IsNum s n) := Lib.hid (fun n hn => by
      have := hn.num.1.1
      have h2 : s.data.toList.length = s.size := rfl
      have := List.length_pos_iff.2 this; omega)
    obtain rfl : s = ⟨#[]⟩ := by
      cases s with | mk d => congr; apply Array.eq_empty_of_size_eq_zero; have : d.size < 1 := h1; omega
    go_enter Try.func73, Try.ntmps73
    go_wp2
    go_ret2
    exact ⟨numAns.no F.out, Below.refl _ _⟩
  · by_cases h48 : s.data.toList.head? = some 48
    · have F : Hid (∀ n, ¬ IsNum s n) := Lib.hid (fun n hn => hn.num.1.2.1 h48)
      have HS := Lib.hid (fun w' => (Try.strings_HasPrefix s ⟨#[48]⟩ w').mono fun e w'' ⟨he, hw⟩ => (⟨by rw [he]; show Ending.returned (.bool (Lib.hasPrefix _ [48])) = _; rw [prefix_zero s (by omega), decide_eq_true h48], hw.symm⟩ : e = Ending.returned (.bool true) ∧ w' = w''))
      have hne := toList_isEmpty s (by omega)
      have hne' := toList_ne s (by omega)
      clear h48
      go_enter Try.func73, Try.ntmps73
      go_wp2_with (go_at_call 78; refine (HS.out _).mono ?_; rintro e w' ⟨rfl, rfl⟩)
      go_ret2
      exact ⟨numAns.no F.out, Below.refl _ _⟩
    · exact number_loop s w hs (by omega) h48

def splitAns (s : ByteArray) (e : Ending) : Prop :=
  (∃ c n, IsRev s c n ∧ e = .returned (.tuple #[.string c, .int .i64 n, .bool true])) ∨ ((∀ c n, ¬ IsRev s c n) ∧ e = .returned (.tuple #[.string ⟨#[]⟩, .int .i64 0, .bool false]))
theorem splitAns.yes {s c : ByteArray} {n : Int} (h : IsRev s c n) : splitAns s (.returned (.tuple #[.string c, .int .i64 n, .bool true])) := .inl ⟨c, n, h, rfl⟩
theorem splitAns.no {s : ByteArray} (h : ∀ c n, ¬ IsRev s c n) : splitAns s (.returned (.tuple #[.string ⟨#[]⟩, .int .i64 0, .bool false])) := .inr ⟨h, rfl⟩

theorem IsRev.data {s c : ByteArray} {n : Int} (h : IsRev s c n) : s.data.toList = c.data.toList ++ 45 :: Lib.decDigits n.toNat := by
  rw [h.2.2.2]
  simp [ByteArray.data_append, digS]
theorem IsRev.num {s c : ByteArray} {n : Int} (h : IsRev s c n) : numL (Lib.decDigits n.toNat) ∧ valL (Lib.decDigits n.toNat) = n.toNat := dec_num _ (by have := h.2.1; omega)
theorem IsRev.size {s c : ByteArray} {n : Int} (h : IsRev s c n) : s.size = c.size + 1 + (Lib.decDigits n.toNat).length := by
  have := congrArg List.length h.data
  simp at this
  have h1 : s.size = s.data.size := rfl
  have h2 : c.size = c.data.size := rfl
  omega
theorem byteAt_list (s : ByteArray) (i : Nat) (h : i < s.size) : byteAt s i = (s.data.toList[i]'(by simpa using h)).toNat := by
  rw [byteAt_eq s i h]; rfl
theorem IsRev.dash {s c : ByteArray} {n : Int} (h : IsRev s c n) : byteAt s c.size = 45 := by
  have hz := h.size
  rw [byteAt_list s _ (by omega)]
  have e := h.data
  have : s.data.toList[c.size]? = some 45 := by
    rw [e, List.getElem?_append_right (by simp)]
    simp
  rw [List.getElem?_eq_getElem (by simp; show c.size < s.size; omega)] at this
  rw [Option.some.inj this]; rfl
theorem IsRev.dig {s c : ByteArray} {n : Int} (h : IsRev s c n) (i : Nat) (h1 : c.size < i) (h2 : i < s.size) : 48 ≤ byteAt s i ∧ byteAt s i ≤ 57 := by
  have hz := h.size
  rw [byteAt_list s _ h2]
  have e := h.data
  have hlt : i - c.size - 1 < (Lib.decDigits n.toNat).length := by omega
  have : s.data.toList[i]? = some ((Lib.decDigits n.toNat)[i - c.size - 1]) := by
    have hcs : c.data.toList.length = c.size := rfl
    rw [e, List.getElem?_append_right (by omega), hcs]
    obtain ⟨j, hj⟩ : ∃ j, i - c.size = j + 1 := ⟨i - c.size - 1, by omega⟩
    simp only [hj, List.getElem?_cons_succ, Nat.add_sub_cancel]
    rw [List.getElem?_eq_getElem (by omega)]
  rw [List.getElem?_eq_getElem (by simp; exact h2)] at this
  rw [Option.some.inj this]
  exact h.num.1.2.2 _ (List.getElem_mem _)
/-- the last dash parts it -/
theorem IsRev.at {s c : ByteArray} {n : Int} (h : IsRev s c n) (k : Nat) (hk : k < s.size) (hd : byteAt s k = 45) (hl : ∀ j, k < j → j < s.size → byteAt s j ≠ 45) : c.size = k := by
  have hz := h.size
  have hd2 := h.dash
  have hp : 0 < (Lib.decDigits n.toNat).length := List.length_pos_iff.2 h.num.1.1
  rcases Nat.lt_trichotomy c.size k with h1 | h1 | h1
  · have := h.dig k h1 hk; omega
  · exact h1
  · exact absurd hd2 (hl c.size h1 (by omega))
theorem extract_list (s : ByteArray) (a b : Nat) : (s.extract a b).data.toList = (s.data.toList.drop a).take (b - a) := by
  rw [ByteArray.data_extract]
  simp
theorem IsRev.left {s c : ByteArray} {n : Int} (h : IsRev s c n) : s.extract 0 c.size = c := by
  apply ByteArray.ext
  apply Array.toList_inj.1
  rw [extract_list, h.data]
  have hcs : c.data.toList.length = c.size := rfl
  simp
theorem IsRev.right {s c : ByteArray} {n : Int} (h : IsRev s c n) : s.extract (c.size + 1) s.size = digS n.toNat := by
  apply ByteArray.ext
  apply Array.toList_inj.1
  have hz := h.size
  rw [extract_list, h.data, digS_list]
  have hcs : c.data.toList.length = c.size := rfl
  have e : s.size - (c.size + 1) = (Lib.decDigits n.toNat).length := by omega
  rw [e, ← hcs, ← List.drop_drop, List.drop_left]
  simp
/-- made of its parts -/
theorem isRev_of {s : ByteArray} {n : Int} (k : Nat) (hk : k < s.size) (hd : byteAt s k = 45) (hc : nameB 16 (s.extract 0 k) = true) (hn : IsNum (s.extract (k + 1) s.size) n) : IsRev s (s.extract 0 k) n := by
  refine ⟨hc, hn.1, hn.2.1, ?_⟩
  rw [← hn.2.2]
  apply ByteArray.ext
  apply Array.toList_inj.1
  simp only [ByteArray.data_append, Array.toList_append, extract_list]
  have hl : s.data.toList.length = s.size := rfl
  have h1 : (s.data.toList[k]'(by omega)) = 45 := by
    have := byteAt_list s k hk
    rw [hd] at this
    exact UInt8.toNat_inj.1 this.symm
  have h2 : s.data.toList.drop k = 45 :: s.data.toList.drop (k + 1) := by
    rw [List.drop_eq_getElem_cons (by omega), h1]
  rw [List.take_of_length_le (l := s.data.toList.drop (k + 1)) (by simp)]
  conv => lhs; rw [← List.take_append_drop k s.data.toList, h2]
  simp

theorem clone_any (s : ByteArray) (w : World) (hs : s.size ≤ 281474976710655) :
    Calls Try.prog 48 #[.string s] w fun e w' => e = .returned (.string s) ∧ Below w.heap.size w w' := by
  have C := Lib.hid (fun w => Try.stringslite_Clone s w (by omega))
  go_enter Try.func48, Try.ntmps48
  go_wp2_with (go_at_call 62; refine (C.out _).mono ?_; rintro e w' ⟨rfl, hb⟩)
  go_ret
  exact ⟨rfl, hb⟩
theorem extract_size_le (s : ByteArray) (a b : Nat) (h : b ≤ s.size) : (s.extract a b).size ≤ s.size := by
  rw [ByteArray.size_extract]; omega

set_option maxHeartbeats 1000000 in
theorem split_any (s : ByteArray) (w : World) (hs : s.size ≤ 281474976710655) :
    Calls Try.prog 64 #[.string s] w fun e w' => splitAns s e ∧ Below w.heap.size w w' := by
  have LI := Lib.hid (fun w' => (Try.strings_LastIndexByte s 45 (by omega) w').mono fun e w'' ⟨he, hw⟩ => (⟨he, hw.symm⟩ : e = Ending.returned (.int .i64 (Lib.lastIndexByte s 45)) ∧ w' = w''))
  rcases Lib.lastIndexByte_spec s 45 with ⟨e1, hn⟩ | ⟨i, hi, e1, hc, hn⟩
  · rw [e1] at LI
    clear e1
    have F : Hid (∀ c n, ¬ IsRev s c n) := Lib.hid (fun c n h => by
      have := h.size
      have h1 := h.dash
      exact hn c.size (by omega) (by show ((byteAt s c.size : Nat) : Int) = 45; omega))
    clear hn
    go_enter Try.func64, Try.ntmps64
    go_wp2_with (go_at_call 71; refine (LI.out _).mono ?_; rintro e w' ⟨rfl, rfl⟩)
    go_ret3
    exact ⟨splitAns.no F.out, Below.refl _ _⟩
  · rw [e1] at LI
    clear e1
    have hd : byteAt s i = 45 := by have : ((byteAt s i : Nat) : Int) = 45 := hc; omega
    have hl : ∀ j, i < j → j < s.size → byteAt s j ≠ 45 := fun j h1 h2 e => hn j h1 h2 (by show ((byteAt s j : Nat) : Int) = 45; omega)
    clear hc hn
    have AT : Hid (∀ c n, IsRev s c n → c.size = i) := Lib.hid (fun c n h => h.at i hi hd hl)
    have MK := Lib.hid (fun n => isRev_of (s := s) (n := n) i hi hd)
    clear hd hl
    have sz1 := extract_size_le s 0 i (by omega)
    have sz2 := extract_size_le s (i + 1) s.size (by omega)
    have NM := Lib.hid (fun w => name_any (s.extract 0 i) w (by unfold maxLen; omega))
    have NB := Lib.hid (fun w => number_any (s.extract (i + 1) s.size) w (by unfold maxLen; omega))
    have CL := Lib.hid (fun w => clone_any (s.extract 0 i) w (by omega))
    by_cases hnm : nameB 16 (s.extract 0 i) = true
    · have MK' := Lib.hid (fun n => MK.out n hnm)
      clear sz1 sz2 MK
      go_enter Try.func64, Try.ntmps64
      go_wp2_with (first | (go_at_call 71; refine (LI.out _).mono ?_; rintro e w' ⟨rfl, rfl⟩) | (go_at_call 72; refine (NM.out _).mono ?_; rintro e w1 ⟨rfl, hb1⟩))
      refine (NB.out _).mono ?_
      rintro e w2 ⟨ha, hb2⟩
      have A := Lib.hid (AT.out)
      rcases ha with ⟨n, hn, rfl⟩ | ⟨hno, rfl⟩
      · have R := Lib.hid (MK'.out n hn)
        clear hn
        go_wp2_with (go_at_call 48; refine (CL.out _).mono ?_; rintro e w3 ⟨rfl, hb3⟩)
        go_ret3
        exact ⟨splitAns.yes R.out, (hb1.trans (hb2.mono hb1.size)).trans (hb3.mono (Nat.le_trans hb1.size hb2.size))⟩
      · have F : Hid (∀ c n, ¬ IsRev s c n) := Lib.hid (fun c n h => hno n ⟨h.2.1, h.2.2.1, by rw [← AT.out c n h]; exact h.right⟩)
        clear hno
        go_wp2
        go_ret3
        exact ⟨splitAns.no F.out, hb1.trans (hb2.mono hb1.size)⟩
    · have F : Hid (∀ c n, ¬ IsRev s c n) := Lib.hid (fun c n h => hnm (by rw [← AT.out c n h, h.left]; exact h.1))
      have hnm' : nameB 16 (s.extract 0 i) = false := by simpa using hnm
      clear hnm sz1 sz2 MK
      go_enter Try.func64, Try.ntmps64
      go_wp2_with (first | (go_at_call 71; refine (LI.out _).mono ?_; rintro e w' ⟨rfl, rfl⟩) | (go_at_call 72; refine (NM.out _).mono ?_; rintro e w1 ⟨rfl, hb1⟩))
      go_ret3
      exact ⟨splitAns.no F.out, hb1⟩

def tl (s : ByteArray) (p : Nat) : List UInt8 := s.data.toList.drop p

end Go.Proofs.Ytjhfjjkfnmnkgaa

/- The parts of a revision's name, as a function that can be run. -/
namespace Go.Proofs.Ytjhfjjkfnmnkgaa
set_option maxRecDepth 100000
set_option linter.unusedVariables false
set_option linter.unusedSimpArgs false
open Go.RowKit

def numLB (l : List UInt8) : Bool := !l.isEmpty && (l.head? != some 48) && l.all fun c => decide (48 ≤ c.toNat) && decide (c.toNat ≤ 57)
theorem numLB_iff (l : List UInt8) : numLB l = true ↔ numL l := by
  unfold numLB numL dgU
  simp only [Bool.and_eq_true, Bool.not_eq_true', List.isEmpty_eq_false_iff, bne_iff_ne, List.all_eq_true, decide_eq_true_eq, ne_eq, and_assoc]
def parse (s : ByteArray) : Option (ByteArray × Nat) :=
  if Lib.lastIndexByte s 45 < 0 then none else
  if nameB 16 (s.extract 0 (Lib.lastIndexByte s 45).toNat) && numLB (s.extract ((Lib.lastIndexByte s 45).toNat + 1) s.size).data.toList && decide (valL (s.extract ((Lib.lastIndexByte s 45).toNat + 1) s.size).data.toList ≤ 999999)
  then some (s.extract 0 (Lib.lastIndexByte s 45).toNat, valL (s.extract ((Lib.lastIndexByte s 45).toNat + 1) s.size).data.toList) else none
theorem parse_spec (s : ByteArray) : (∃ c n, parse s = some (c, n) ∧ IsRev s c n) ∨ (parse s = none ∧ ∀ c n, ¬ IsRev s c n) := by
  unfold parse
  rcases Lib.lastIndexByte_spec s 45 with ⟨e1, hn⟩ | ⟨i, hi, e1, hc, hn⟩
  · rw [e1, if_pos (by decide)]
    refine .inr ⟨rfl, fun c n h => ?_⟩
    have := h.size
    have h1 := h.dash
    exact hn c.size (by omega) (by show ((byteAt s c.size : Nat) : Int) = 45; omega)
  · rw [e1, if_neg (by omega), Int.toNat_natCast]
    have hd : byteAt s i = 45 := by have : ((byteAt s i : Nat) : Int) = 45 := hc; omega
    have hl : ∀ j, i < j → j < s.size → byteAt s j ≠ 45 := fun j h1 h2 e => hn j h1 h2 (by show ((byteAt s j : Nat) : Int) = 45; omega)
    split
    · rename_i h
      simp only [Bool.and_eq_true, decide_eq_true_eq, numLB_iff] at h
      exact .inl ⟨_, _, rfl, isRev_of i hi hd h.1.1 (isNum_of h.1.2 h.2)⟩
    · rename_i h
      refine .inr ⟨rfl, fun c n hr => h ?_⟩
      have e := hr.at i hi hd hl
      simp only [Bool.and_eq_true, decide_eq_true_eq, numLB_iff]
      have hx : s.extract (i + 1) s.size = digS n.toNat := by rw [← e]; exact hr.right
      rw [hx, digS_list]
      have h3 := hr.num
      have := hr.2.2.1
      exact ⟨⟨by rw [← e, hr.left]; exact hr.1, h3.1⟩, by rw [h3.2]; omega⟩
theorem parse_yes {s c : ByteArray} {n : Nat} (h : parse s = some (c, n)) : IsRev s c n := by
  rcases parse_spec s with ⟨c', n', e, hr⟩ | ⟨e, _⟩
  · rw [h] at e; cases e; exact hr
  · rw [h] at e; cases e
theorem parse_no {s : ByteArray} (h : parse s = none) : ∀ c n, ¬ IsRev s c n := by
  rcases parse_spec s with ⟨c', n', e, hr⟩ | ⟨_, hr⟩
  · rw [h] at e; cases e
  · exact hr
end Go.Proofs.Ytjhfjjkfnmnkgaa

/- A row of numbers as values; a pointer to a block's first cell. -/
namespace Go.Proofs.Ytjhfjjkfnmnkgaa
abbrev pz (b : Nat) : Value := .pointer (some ⟨b, 0, none⟩)
end Go.Proofs.Ytjhfjjkfnmnkgaa

/- Numerals and revisions' names: plain facts about bytes. -/
import Derived.Test.YtpmhmegjckhbmaaText
namespace Go.Proofs.Ytpmhmegjckhbmaa
set_option linter.unusedVariables false
set_option linter.unusedSimpArgs false
set_option linter.unnecessarySimpa false
open Go.RowKit

def valL (l : List UInt8) : Nat := l.foldl (fun v c => v * 10 + (c.toNat - 48)) 0
theorem valL_snoc (l : List UInt8) (c : UInt8) : valL (l ++ [c]) = valL l * 10 + (c.toNat - 48) := by
  simp [valL, List.foldl_append]
def dgU (c : UInt8) : Prop := 48 ≤ c.toNat ∧ c.toNat ≤ 57
def numL (l : List UInt8) : Prop := l ≠ [] ∧ l.head? ≠ some 48 ∧ ∀ c, c ∈ l → dgU c

theorem toNat_ofNat_dig {d : Nat} (h : d < 10) : (UInt8.ofNat (48 + d)).toNat = 48 + d := by
  simp only [UInt8.toNat_ofNat']
  omega
theorem ofNat_dig {c : UInt8} (h : dgU c) : UInt8.ofNat (48 + (c.toNat - 48)) = c := by
  apply UInt8.toNat_inj.1
  have := h.1; have := h.2
  rw [toNat_ofNat_dig (by omega)]; omega

theorem dec_num (n : Nat) : 1 ≤ n → numL (Lib.decDigits n) ∧ valL (Lib.decDigits n) = n := by
  induction n using Nat.strongRecOn with
  | _ n ih =>
    intro h
    by_cases hs : n < 10
    · rw [Lib.decDigits_one hs]
      have e := toNat_ofNat_dig hs
      refine ⟨⟨by simp, ?_, ?_⟩, ?_⟩
      · intro hc
        have : UInt8.ofNat (48 + n) = 48 := by simpa only [List.head?_cons, Option.some.injEq] using hc
        rw [this] at e
        have : (48 : UInt8).toNat = 48 := rfl
        omega
      · intro c hc
        rw [List.mem_singleton] at hc; subst hc; unfold dgU; omega
      · have := valL_snoc [] (UInt8.ofNat (48 + n))
        simp only [List.nil_append] at this
        rw [this, e]; simp [valL]
    · rw [Lib.decDigits, dif_neg hs]
      obtain ⟨⟨h1, h2, h3⟩, h4⟩ := ih (n / 10) (by omega) (by omega)
      have e := toNat_ofNat_dig (show n % 10 < 10 by omega)
      refine ⟨⟨by simp, ?_, ?_⟩, ?_⟩
      · cases hl : Lib.decDigits (n / 10) with
        | nil => exact absurd hl h1
        | cons a t => rw [hl] at h2; simpa using h2
      · intro c hc
        rcases List.mem_append.1 hc with hc | hc
        · exact h3 c hc
        · rw [List.mem_singleton] at hc; subst hc; unfold dgU; omega
      · rw [valL_snoc, h4, e]; omega

theorem valL_pos (l : List UInt8) : numL l → 1 ≤ valL l := by
  intro h
  have : ∀ (l : List UInt8) (v : Nat), 1 ≤ v → 1 ≤ l.foldl (fun v c => v * 10 + (c.toNat - 48)) v := by
    intro l
    induction l with
    | nil => intro v h; exact h
    | cons a t ih => intro v h; simp only [List.foldl_cons]; exact ih _ (by omega)
  cases l with
  | nil => exact absurd rfl h.1
  | cons a t =>
    unfold valL
    simp only [List.foldl_cons]
    apply this
    have h1 := h.2.2 a (by simp)
    have h2 : a ≠ 48 := fun e => h.2.1 (by rw [e]; rfl)
    have h3 : a.toNat ≠ 48 := fun e => h2 (UInt8.toNat_inj.1 e)
    unfold dgU at h1; omega

theorem num_dec : ∀ (k : Nat) (l : List UInt8), l.length = k + 1 → numL l → Lib.decDigits (valL l) = l
  | 0, l, hl, h => by
    match l, hl with
    | [a], _ =>
      have h1 := h.2.2 a (by simp)
      have := valL_snoc [] a
      simp only [List.nil_append] at this
      rw [this]
      have h0 : valL [] = 0 := rfl
      rw [h0]
      have := h1.1; have := h1.2
      rw [Nat.zero_mul, Nat.zero_add, Lib.decDigits_one (by omega), ofNat_dig h1]
  | k + 1, l, hl, h => by
    rcases List.eq_nil_or_concat l with e | ⟨t, c, e⟩
    · rw [e] at hl; simp at hl
    · rw [List.concat_eq_append] at e
      subst e
      have ht : t.length = k + 1 := by simp at hl; omega
      have hn : numL t := by
        refine ⟨by intro e; rw [e] at ht; simp at ht, ?_, fun c hc => h.2.2 c (List.mem_append.2 (.inl hc))⟩
        cases t with
        | nil => simp at ht
        | cons a t => simpa using h.2.1
      have h1 := h.2.2 c (by simp)
      have hp := valL_pos t hn
      have := h1.1; have := h1.2
      rw [valL_snoc, Lib.decDigits, dif_neg (by omega)]
      have e1 : (valL t * 10 + (c.toNat - 48)) / 10 = valL t := by omega
      have e2 : (valL t * 10 + (c.toNat - 48)) % 10 = c.toNat - 48 := by omega
      rw [e1, e2, num_dec k t ht hn, ofNat_dig h1]

theorem valL_lt : ∀ (k : Nat) (l : List UInt8), l.length = k → (∀ c, c ∈ l → dgU c) → valL l < 10 ^ k
  | 0, l, hl, _ => by rw [List.eq_nil_of_length_eq_zero hl]; decide
  | k + 1, l, hl, h => by
    rcases List.eq_nil_or_concat l with e | ⟨t, c, e⟩
    · rw [e] at hl; simp at hl
    · rw [List.concat_eq_append] at e
      subst e
      have := valL_lt k t (by simp at hl; omega) (fun c hc => h c (List.mem_append.2 (.inl hc)))
      have h1 := h c (by simp)
      have := h1.1; have := h1.2
      rw [valL_snoc, Nat.pow_succ]; omega
theorem valL_front (a b : List UInt8) : valL a ≤ valL (a ++ b) := by
  have : ∀ (l : List UInt8) (v : Nat), v ≤ l.foldl (fun v c => v * 10 + (c.toNat - 48)) v := by
    intro l
    induction l with
    | nil => intro v; exact Nat.le_refl _
    | cons a t ih => intro v; simp only [List.foldl_cons]; exact Nat.le_trans (by omega) (ih _)
  unfold valL
  rw [List.foldl_append]
  exact this _ _

/-- A revision's name, and its parts. -/
def IsRev (s c : ByteArray) (n : Int) : Prop := nameB 16 c = true ∧ 1 ≤ n ∧ n ≤ 999999 ∧ s = c ++ ⟨#[45]⟩ ++ digS n.toNat

def IsNum (t : ByteArray) (n : Int) : Prop := 1 ≤ n ∧ n ≤ 999999 ∧ t = digS n.toNat
theorem digS_list (n : Nat) : (digS n).data.toList = Lib.decDigits n := rfl
theorem isNum_of {t : ByteArray} (h : numL t.data.toList) (h2 : valL t.data.toList ≤ 999999) : IsNum t (valL t.data.toList) := by
  have h1 := valL_pos _ h
  refine ⟨by omega, by omega, ?_⟩
  rw [Int.toNat_natCast]
  have hl : t.data.toList.length = (t.data.toList.length - 1) + 1 := by
    have := List.length_pos_iff.2 h.1; omega
  have := num_dec _ _ hl h
  unfold digS; rw [this]
theorem IsNum.num {t : ByteArray} {n : Int} (h : IsNum t n) : numL t.data.toList ∧ (valL t.data.toList : Int) = n := by
  have := dec_num n.toNat (by have := h.1; omega)
  rw [h.2.2, digS_list]
  exact ⟨this.1, by rw [this.2]; have := h.1; omega⟩
end Go.Proofs.Ytpmhmegjckhbmaa

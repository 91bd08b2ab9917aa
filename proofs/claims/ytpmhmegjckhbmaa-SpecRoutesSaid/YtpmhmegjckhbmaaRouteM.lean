/- The route that damperlaw2.Route makes of numbers: plain facts. -/
import Derived.Test.YtpmhmegjckhbmaaSpecKnown
namespace Go.Proofs.Ytpmhmegjckhbmaa
set_option linter.unusedVariables false
set_option linter.unusedSimpArgs false
set_option linter.unnecessarySimpa false
open Go.RowKit

def frontN : List ByteArray := [⟨#[102, 114, 111, 110, 116]⟩, ⟨#[98, 97, 99, 107]⟩, ⟨#[114, 45, 49]⟩]
def rtName (n : Int) : ByteArray := frontN.getD (withinI n 3).toNat ⟨#[]⟩
def rtCf (n : Int) : ByteArray := name3 (n.tdiv 3)
def kAt (zs : List Int) (i : Nat) : Int := if i + 1 < zs.length then zs.getD (i + 1) 0 else i
def byte1 (n : Nat) : ByteArray := ⟨#[UInt8.ofNat n]⟩
def rvOf (cf : ByteArray) (k : Int) : ByteArray := if 0 < withinI (k.tdiv 101) 3 then cf ++ ⟨#[45]⟩ ++ byte1 (49 + (withinI (k.tdiv 303) 4).toNat) else ⟨#[]⟩
def tgOf (k : Int) (i : Nat) : ByteArray := if withinI (k.tdiv 1212) 3 = 0 then ⟨#[116]⟩ ++ byte1 (48 + i) else ⟨#[]⟩
def pcOf (k : Int) (i n : Nat) (left : Int) : Int := if i + 1 = n then left else withinI k (left + 1)
def gRun (cf : ByteArray) (zs : List Int) (n : Nat) : Nat → Int × List Tgt
  | 0 => (100, [])
  | i + 1 => ((gRun cf zs n i).1 - pcOf (kAt zs i) i n (gRun cf zs n i).1, (gRun cf zs n i).2 ++ [⟨rvOf cf (kAt zs i), tgOf (kAt zs i) i, pcOf (kAt zs i) i n (gRun cf zs n i).1⟩])
theorem gRun_s (cf : ByteArray) (zs : List Int) (n i : Nat) : gRun cf zs n (i + 1) = ((gRun cf zs n i).1 - pcOf (kAt zs i) i n (gRun cf zs n i).1, (gRun cf zs n i).2 ++ [⟨rvOf cf (kAt zs i), tgOf (kAt zs i) i, pcOf (kAt zs i) i n (gRun cf zs n i).1⟩]) := rfl
theorem strE_nil : strE ⟨#[]⟩ = true := by decide +kernel
def nT (zs : List Int) : Nat := if zs.length = 0 then 1 else 1 + (withinI (zs.getD 0 0) 6).toNat
def gTs (cf : ByteArray) (zs : List Int) : List Tgt := (gRun cf zs (nT zs) (nT zs)).2

theorem nT_range (zs : List Int) : 1 ≤ nT zs ∧ nT zs ≤ 6 := by
  unfold nT
  have := withinI_range (zs.getD 0 0) 6 (by omega)
  split <;> omega
theorem gRun_left (cf : ByteArray) (zs : List Int) (n : Nat) : ∀ i, 0 ≤ (gRun cf zs n i).1 ∧ (gRun cf zs n i).1 ≤ 100
  | 0 => by simp [gRun]
  | i + 1 => by
    have h := gRun_left cf zs n i
    have h2 := withinI_range (kAt zs i) ((gRun cf zs n i).1 + 1) (by omega)
    rw [gRun_s]
    unfold pcOf
    simp only
    split <;> omega
theorem gRun_pc (cf : ByteArray) (zs : List Int) (n i : Nat) : 0 ≤ pcOf (kAt zs i) i n (gRun cf zs n i).1 ∧ pcOf (kAt zs i) i n (gRun cf zs n i).1 ≤ (gRun cf zs n i).1 := by
  have h := gRun_left cf zs n i
  have h2 := withinI_range (kAt zs i) ((gRun cf zs n i).1 + 1) (by omega)
  unfold pcOf
  split <;> omega
theorem gRun_len (cf : ByteArray) (zs : List Int) (n : Nat) : ∀ i, (gRun cf zs n i).2.length = i
  | 0 => rfl
  | i + 1 => by rw [gRun_s]; simp [gRun_len cf zs n i]
theorem gRun_sum (cf : ByteArray) (zs : List Int) (n : Nat) : ∀ i, sumT (gRun cf zs n i).2 + (gRun cf zs n i).1 = 100
  | 0 => by simp [gRun, sumT]
  | i + 1 => by
    have h := gRun_sum cf zs n i
    rw [gRun_s]
    unfold sumT at *
    simp only [List.map_append, List.map_singleton, List.sum_append, List.sum_singleton]
    omega
theorem gRun_getD (cf : ByteArray) (zs : List Int) (n : Nat) : ∀ i j, j < i → (gRun cf zs n i).2.getD j tg0 = ⟨rvOf cf (kAt zs j), tgOf (kAt zs j) j, pcOf (kAt zs j) j n (gRun cf zs n j).1⟩
  | 0, j, h => by omega
  | i + 1, j, h => by
    have hl := gRun_len cf zs n i
    rw [gRun_s]
    simp only
    by_cases e : j = i
    · subst e
      rw [List.getD_eq_getElem?_getD, List.getElem?_append_right (by omega), hl]
      simp
    · rw [List.getD_eq_getElem?_getD, List.getElem?_append_left (by omega), ← List.getD_eq_getElem?_getD]
      exact gRun_getD cf zs n i j (by omega)
theorem gTs_len (cf : ByteArray) (zs : List Int) : (gTs cf zs).length = nT zs := gRun_len cf zs _ _
theorem gTs_sum (cf : ByteArray) (zs : List Int) : sumT (gTs cf zs) = 100 := by
  have h := gRun_sum cf zs (nT zs) (nT zs)
  have h1 := nT_range zs
  obtain ⟨m, hm⟩ : ∃ m, nT zs = m + 1 := ⟨nT zs - 1, by omega⟩
  have h2 : (gRun cf zs (nT zs) (m + 1)).1 = 0 := by
    rw [gRun_s]
    unfold pcOf
    simp only
    rw [if_pos hm.symm]; omega
  rw [← hm] at h2
  unfold gTs
  omega

theorem name3_at (n : Int) : name3 n = ⟨#[119, 101, 98]⟩ ∨ name3 n = ⟨#[97, 112, 105]⟩ ∨ name3 n = ⟨#[97, 45, 98]⟩ := by
  unfold name3
  rcases w3_cases n with h | h | h <;> rw [h]
  · exact .inl rfl
  · exact .inr (.inl rfl)
  · exact .inr (.inr rfl)
theorem rev3 : ∀ q, q < 4 → revB ((⟨#[119, 101, 98]⟩ : ByteArray) ++ ⟨#[45]⟩ ++ byte1 (49 + q)) = true ∧ revB ((⟨#[97, 112, 105]⟩ : ByteArray) ++ ⟨#[45]⟩ ++ byte1 (49 + q)) = true ∧ revB ((⟨#[97, 45, 98]⟩ : ByteArray) ++ ⟨#[45]⟩ ++ byte1 (49 + q)) = true := by decide +kernel
theorem tag6 : ∀ i, i < 6 → nameB 8 ((⟨#[116]⟩ : ByteArray) ++ byte1 (48 + i)) = true := by decide +kernel
theorem byte1_size (n : Nat) : (byte1 n).size = 1 := rfl
theorem rvOf_ok (n k : Int) : (strE (rvOf (rtCf n) k) || revB (rvOf (rtCf n) k)) = true ∧ (rvOf (rtCf n) k).size ≤ 5 := by
  have hq := withinI_range (k.tdiv 303) 4 (by omega)
  unfold rvOf
  split
  · have h := rev3 (withinI (k.tdiv 303) 4).toNat (by omega)
    refine ⟨?_, ?_⟩
    · unfold rtCf
      rcases name3_at (n.tdiv 3) with e | e | e <;> rw [e]
      · rw [h.1, Bool.or_true]
      · rw [h.2.1, Bool.or_true]
      · rw [h.2.2, Bool.or_true]
    · have := (name3_ok (n.tdiv 3)).2
      rw [ByteArray.size_append, ByteArray.size_append, byte1_size]
      show (name3 (n.tdiv 3)).size + 1 + 1 ≤ 5; omega
  · exact ⟨by rw [strE_nil]; rfl, by decide⟩
theorem tgOf_ok (k : Int) (i : Nat) (hi : i < 6) : (strE (tgOf k i) || nameB 8 (tgOf k i)) = true ∧ (tgOf k i).size ≤ 2 := by
  unfold tgOf
  split
  · exact ⟨by rw [tag6 i hi, Bool.or_true], by rw [ByteArray.size_append, byte1_size]; decide⟩
  · exact ⟨by rw [strE_nil]; rfl, by decide⟩
theorem tag_ne : ∀ i, i < 6 → ∀ j, j < 6 → i ≠ j → ((⟨#[116]⟩ : ByteArray) ++ byte1 (48 + i)).toList ≠ ((⟨#[116]⟩ : ByteArray) ++ byte1 (48 + j)).toList := by decide +kernel
theorem gRun_at (n : Int) (zs : List Int) (j : Nat) (hj : j < nT zs) : ((gTs (rtCf n) zs).getD j tg0).err = 0 ∧ ((gTs (rtCf n) zs).getD j tg0).ok := by
  have h6 := nT_range zs
  unfold gTs
  rw [gRun_getD _ _ _ _ j hj]
  have h1 := rvOf_ok n (kAt zs j)
  have h2 := tgOf_ok (kAt zs j) j (by omega)
  have h3 := gRun_pc (rtCf n) zs (nT zs) j
  have h4 := gRun_left (rtCf n) zs (nT zs) j
  generalize pcOf (kAt zs j) j (nT zs) (gRun (rtCf n) zs (nT zs) j).1 = p at *
  refine ⟨?_, ?_⟩
  · unfold Tgt.err Tgt.nmd
    simp only
    rw [h1.1, h2.1, inB_iff.2 ⟨by omega, by omega⟩]; rfl
  · refine ⟨?_, ?_, ?_⟩
    · simp only; omega
    · simp only; omega
    · simp only; exact ⟨by omega, by omega⟩
theorem gTs_each (n : Int) (zs : List Int) : eachE (gTs (rtCf n) zs) = 0 := eachE_none fun j hj => (gRun_at n zs j (by rw [gTs_len] at hj; exact hj)).1
theorem dup_none : ∀ (L : List ByteArray) (seen : List ByteArray), (∀ i, i < L.length → strE (L.getD i ⟨#[]⟩) = false → L.getD i ⟨#[]⟩ ∉ seen ∧ ∀ j, j < i → L.getD j ⟨#[]⟩ ≠ L.getD i ⟨#[]⟩) → dupF seen L = false
  | [], _, _ => rfl
  | t :: l, seen, h => by
    unfold dupF
    rw [Bool.or_eq_false_iff]
    refine ⟨?_, dup_none l _ fun i hi he => ?_⟩
    · cases he : strE t with
      | true => rfl
      | false =>
        have := (h 0 (by simp) (by simpa using he)).1
        rw [Bool.not_false, Bool.true_and, Bool.eq_false_iff]
        intro hc
        exact this (by simpa using (Lib.containsS_iff _ _).1 hc)
    · have h1 := h (i + 1) (by simpa using hi) (by simpa using he)
      refine ⟨?_, fun j hj => by simpa using h1.2 (j + 1) (by omega)⟩
      rw [List.mem_append, List.mem_singleton, not_or]
      exact ⟨by simpa using h1.1, fun e => h1.2 0 (by omega) (by simpa using e.symm)⟩
theorem gTs_dup (n : Int) (zs : List Int) : dupT (gTs (rtCf n) zs) = false := by
  unfold dupT
  refine dup_none _ _ fun i hi he => ⟨by simp, fun j hj e => ?_⟩
  rw [List.length_map, gTs_len] at hi
  have h6 := nT_range zs
  have ei : ((gTs (rtCf n) zs).map Tgt.tg).getD i ⟨#[]⟩ = tgOf (kAt zs i) i := by
    rw [getD_map Tgt.tg _ i tg0 ⟨#[]⟩ (by rw [gTs_len]; omega)]; unfold gTs; rw [gRun_getD _ _ _ _ i hi]
  have ej : ((gTs (rtCf n) zs).map Tgt.tg).getD j ⟨#[]⟩ = tgOf (kAt zs j) j := by
    rw [getD_map Tgt.tg _ j tg0 ⟨#[]⟩ (by rw [gTs_len]; omega)]; unfold gTs; rw [gRun_getD _ _ _ _ j (by omega)]
  rw [ei] at he e
  rw [ej] at e
  unfold tgOf at he e
  by_cases h1 : withinI ((kAt zs i).tdiv 1212) 3 = 0
  · rw [if_pos h1] at he e
    by_cases h2 : withinI ((kAt zs j).tdiv 1212) 3 = 0
    · rw [if_pos h2] at e
      exact tag_ne j (by omega) i (by omega) (by omega) (by rw [e])
    · rw [if_neg h2] at e
      have := congrArg ByteArray.size e
      rw [ByteArray.size_append, byte1_size] at this
      have h0 : (⟨#[]⟩ : ByteArray).size = 0 := rfl
      omega
  · rw [if_neg h1, strE_nil] at he; cases he
theorem gRoute_ok (n : Int) (zs : List Int) (roll : Int) (hr : 0 ≤ roll ∧ roll ≤ 60) : routeE (rtName n) (rtCf n) (gTs (rtCf n) zs) roll = 0 := by
  have h1 : nameB 16 (rtName n) = true := by
    unfold rtName
    rcases w3_cases n with h | h | h <;> rw [h] <;> decide +kernel
  have h6 := nT_range zs
  rw [routeE_each h1 (show nameB 16 (rtCf n) = true from (name3_ok _).1) (inB_iff.2 hr) (inB_iff.2 (by rw [gTs_len]; omega)), if_pos (gTs_each n zs), gTs_dup, gTs_sum]
  rfl
theorem rtName_size (n : Int) : (rtName n).size ≤ 5 := by
  unfold rtName
  rcases w3_cases n with h | h | h <;> rw [h] <;> decide
end Go.Proofs.Ytpmhmegjckhbmaa

/- damperlaw1's helpers: within, Text. -/
import Derived.Test.YtpmhmegjckhbmaaRev
namespace Go.Proofs.Ytpmhmegjckhbmaa
set_option linter.unusedVariables false
set_option linter.unusedSimpArgs false
set_option linter.unnecessarySimpa false
open Go.RowKit

def pieces : List ByteArray := [⟨#[97]⟩, ⟨#[122]⟩, ⟨#[48]⟩, ⟨#[57]⟩, ⟨#[45]⟩, ⟨#[98]⟩, ⟨#[49]⟩, ⟨#[65]⟩, ⟨#[95]⟩, ⟨#[195, 169]⟩, ⟨#[97]⟩, ⟨#[55]⟩]
def piece (k : Int) : ByteArray := pieces.getD (withinI k 12).toNat ⟨#[]⟩
def textN (zs : List Int) : Nat → ByteArray
  | 0 => ⟨#[]⟩
  | k + 1 => textN zs k ++ piece (zs.getD k 0)
def textS (zs : List Int) : ByteArray := textN zs (min zs.length 24)
theorem piece_size (k : Int) : (piece k).size ≤ 2 := by
  unfold piece
  have := withinI_range k 12 (by omega)
  generalize (withinI k 12) = q at *
  obtain ⟨m, rfl⟩ := Int.eq_ofNat_of_zero_le this.1
  have hm : m < 12 := by omega
  simp only [Int.toNat_natCast]
  match m, hm with
  | 0, _ | 1, _ | 2, _ | 3, _ | 4, _ | 5, _ | 6, _ | 7, _ | 8, _ | 9, _ | 10, _ | 11, _ => decide
theorem textN_size (zs : List Int) : ∀ k, (textN zs k).size ≤ 2 * k
  | 0 => Nat.le_refl _
  | k + 1 => by
    have := textN_size zs k
    have := piece_size (zs.getD k 0)
    simp only [textN, ByteArray.size_append]; omega
theorem textS_size (zs : List Int) : (textS zs).size ≤ 48 := by
  have := textN_size zs (min zs.length 24)
  unfold textS; omega

theorem piece_at : ∀ (m : Nat) (h : m < 12), ([.string ⟨#[97]⟩, .string ⟨#[122]⟩, .string ⟨#[48]⟩, .string ⟨#[57]⟩, .string ⟨#[45]⟩, .string ⟨#[98]⟩, .string ⟨#[49]⟩, .string ⟨#[65]⟩, .string ⟨#[95]⟩, .string ⟨#[195, 169]⟩, .string ⟨#[97]⟩, .string ⟨#[55]⟩] : List Value)[m]'(by simpa using h) = .string (pieces.getD m ⟨#[]⟩)
  | 0, _ | 1, _ | 2, _ | 3, _ | 4, _ | 5, _ | 6, _ | 7, _ | 8, _ | 9, _ | 10, _ | 11, _ => rfl
theorem piece_cell (z : Int) (h : (withinI z 12).toNat < 12) : ([.string ⟨#[97]⟩, .string ⟨#[122]⟩, .string ⟨#[48]⟩, .string ⟨#[57]⟩, .string ⟨#[45]⟩, .string ⟨#[98]⟩, .string ⟨#[49]⟩, .string ⟨#[65]⟩, .string ⟨#[95]⟩, .string ⟨#[195, 169]⟩, .string ⟨#[97]⟩, .string ⟨#[55]⟩] : List Value)[(withinI z 12).toNat]'(by simpa using h) = .string (piece z) := piece_at _ h

set_option maxRecDepth 100000 in
set_option maxHeartbeats 1000000 in
theorem text_some (b off cap : Nat) (zs : List Int) (w : World) (h : IntCells w b off zs) :
    Calls Try.prog 16 #[.slice (some ⟨b, off, none⟩) zs.length cap] w fun e w' => e = .returned (.string (textS zs)) ∧ Below w.heap.size w w' := by
  have H := Lib.hid h
  have hl := h.len
  unfold maxLen at hl
  clear h
  go_enter Try.func16, Try.ntmps16
  go_wp2
  go_loopw [3, 4] (fun s i wr => ∃ k : Nat, k ≤ zs.length ∧ k ≤ 24 ∧ i = .int .i64 k ∧ s = .string (textN zs k) ∧ Below w.heap.size w wr) (fun _ i _ => zs.length - (intOf i).toNat)
  case atStart => exact ⟨0, by omega, by omega, rfl, rfl, Below.refl _ _⟩
  case round =>
    obtain ⟨k, hk, hk24, rfl, rfl, hb⟩ := hrel
    by_cases h1 : k < zs.length
    · by_cases h2 : k < 24
      · have hc : wr.cell? ⟨b, off + k, none⟩ = some (.int .i64 (zs.getD k 0)) := cell_later hb (H.out.cell k h1)
        have hwf := H.out.wf k
        have hwi := withinI_range (zs.getD k 0) 12 (by omega)
        have hts := textN_size zs k
        have hcA : ∀ o, (wr.alloc o).cell? ⟨b, off + k, none⟩ = some (.int .i64 (zs.getD k 0)) := fun o => (World.cell?_alloc_some wr _ o (by rw [hc]; rfl)).trans hc
        have E : Hid (textN zs (k + 1) = textN zs k ++ piece (zs.getD k 0)) := Lib.hid rfl
        have hps := piece_size (zs.getD k 0)
        clear hc
        generalize zs.getD k 0 = z at *
        have hpc := piece_cell z (by omega)
        go_wp2_with (go_at_call 28; refine (within_any _ _ _ (by omega) (by omega) hwf.1 hwf.2).mono ?_; rintro e w' ⟨rfl, rfl⟩)
        go_roundw
        case rel => exact ⟨k + 1, by omega, by omega, by go_num, by rw [E.out], hb.alloc hb.size _⟩
        case measure => simp [intOf]; omega
      · have E : Hid (textS zs = textN zs k) := Lib.hid (by unfold textS; congr 1; omega)
        go_wp2
        go_ret
        exact ⟨ret_str E.out.symm, hb⟩
    · have E : Hid (textS zs = textN zs k) := Lib.hid (by unfold textS; congr 1; omega)
      go_wp2
      go_ret
      exact ⟨ret_str E.out.symm, hb⟩

set_option maxHeartbeats 1000000 in
theorem text_empty (a : Option Addr) (cap : Nat) (w : World) :
    Calls Try.prog 16 #[.slice a 0 cap] w fun e w' => e = .returned (.string (textS [])) ∧ Below w.heap.size w w' := by
  go_enter Try.func16, Try.ntmps16
  go_wp2
  refine wp_loop_rounds 1 ?_
  rw [rounds_succ]
  go_wp2
  go_ret
  exact ⟨rfl, Below.refl _ _⟩
theorem text_any (v : Value) (zs : List Int) (w : World) (h : IntSlice w v zs) :
    Calls Try.prog 16 #[v] w fun e w' => e = .returned (.string (textS zs)) ∧ Below w.heap.size w w' := by
  rcases h with ⟨b, off, cap, rfl, h⟩ | ⟨rfl, a, cap, rfl⟩
  · exact text_some b off cap zs w h
  · exact text_empty a cap w
end Go.Proofs.Ytpmhmegjckhbmaa

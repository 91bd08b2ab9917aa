/- The walk of LabelNames. -/
import Derived.Test.YtcffmjmbkhkmgaaDoorLabelKnown
namespace Go.Proofs.YtcffmjmbkhkmgaaDoor
set_option linter.unusedVariables false
set_option linter.unusedSimpArgs false
open Go.RowKit

def lnA : ByteArray := ⟨#[97, 98, 99, 100, 101, 102, 103, 104, 105, 106, 107, 108, 109, 110, 111, 112, 113, 114, 115, 116]⟩
def lnL (t raw : ByteArray) (q : Nat) : List ByteArray := [t, raw, ⟨#[97]⟩ ++ t, lnA.extract 0 q, ⟨#[97, 45]⟩, ⟨#[45, 97]⟩, ⟨#[97, 45, 45, 98]⟩, ⟨#[]⟩]
theorem lnL_size (t raw : ByteArray) (q : Nat) (ht : t.size ≤ 48) (hr : raw.size ≤ 100) : ∀ k, ((lnL t raw q).getD k ⟨#[]⟩).size ≤ 100 := by
  intro k
  have h3 : (lnA.extract 0 q).size ≤ 20 := by rw [ByteArray.size_extract]; have : lnA.size = 20 := rfl; omega
  have h2 : ((⟨#[97]⟩ : ByteArray) ++ t).size ≤ 49 := by rw [ByteArray.size_append]; show 1 + t.size ≤ 49; omega
  match k with
  | 0 => exact Nat.le_trans ht (by omega)
  | 1 => exact hr
  | 2 => exact Nat.le_trans h2 (by omega)
  | 3 => exact Nat.le_trans h3 (by omega)
  | 4 => exact (by decide : (2 : Nat) ≤ 100)
  | 5 => exact (by decide : (2 : Nat) ≤ 100)
  | 6 => exact (by decide : (4 : Nat) ≤ 100)
  | 7 => exact (by decide : (0 : Nat) ≤ 100)
  | k + 8 => show (0 : Nat) ≤ 100; omega

set_option maxRecDepth 100000 in
set_option maxHeartbeats 1000000 in
theorem walkLabelNames (w : World) (v : Value) (zs : List Int) (hz : IntSlice w v zs) (raw : ByteArray) (hr : raw.size ≤ 140737488351232) (n : Int) (hn : wf64 n) (ht : Tab w) :
    Calls Tryd.prog 3 #[v, .string raw, .int .i64 n] w fun e w' => e = .returned (.bool true) ∧ Below w.heap.size w w' := by
  have HT := Lib.hid ht
  have HZ := Lib.hid hz
  clear ht hz
  by_cases h100 : 100 < raw.size
  · go_enter Tryd.func3, Tryd.ntmps3
    go_wp2_with (go_at_call 10; refine (known_any _ HT.out).mono ?_; rintro e w1 ⟨rfl, hb1⟩)
    go_ret
    exact ⟨rfl, hb1⟩
  · have hq := withinI_range n 20 (by omega)
    have WK := Lib.hid (fun w => within_any n 20 w (by omega) (by omega) hn.1 hn.2)
    generalize withinI n 20 = q at *
    obtain ⟨q, rfl⟩ := Int.eq_ofNat_of_zero_le hq.1
    have htz := textS_size zs
    have LS := Lib.hid (lnL_size (textS zs) raw q htz (by omega))
    have TX := Lib.hid (fun w h => text_any v zs w h)
    have K1 := Lib.hid (fun k h => cellsMap Value.string (lnL (textS zs) raw q) ⟨#[]⟩ k h)
    have LL : Hid ((lnL (textS zs) raw q).length = 8) := Lib.hid rfl
    unfold lnL lnA at K1
    generalize hts : textS zs = t at *
    clear hts
    go_enter Tryd.func3, Tryd.ntmps3
    go_wp2_with (go_at_call 10; refine (known_any _ HT.out).mono ?_; rintro e w1 ⟨rfl, hb1⟩)
    refine (TX.out _ (HZ.out.below hb1)).mono ?_
    rintro e w2 ⟨rfl, hb2⟩
    have B2 := Lib.hid (Grow.G.trans hb1 hb2)
    clear hb1 hb2
    go_wp2_with fail
    refine (TX.out _ (HZ.out.below B2.out)).mono ?_
    rintro e w3 ⟨rfl, hb3⟩
    have B3 := Lib.hid (Grow.G.trans B2.out hb3)
    clear hb3 B2
    go_wp2_with (go_at_call 12; refine (WK.out _).mono ?_; rintro e w2 ⟨rfl, rfl⟩)
    clear h100 hr
    go_loopw [8] (fun i wr => ∃ k : Nat, k ≤ 8 ∧ i = .int .i64 k ∧ Hid (∀ k, k < 8 → wr.cell? ⟨w3.heap.size, k, none⟩ = some (.string ((lnL t raw q).getD k ⟨#[]⟩))) ∧ Hid (Grow.G w3 wr)) (fun i _ => 8 - (intOf i).toNat)
    case atStart => exact ⟨0, by omega, rfl, (fun k hk => cell_new (K1.out k hk) rfl), Grow.G.alloc (Grow.G.refl _) _⟩
    case round =>
      obtain ⟨k, hk, rfl, CE, GE⟩ := hrel
      by_cases hlt : k < 8
      · have c1 := CE.out k hlt
        have sz := LS.out k
        generalize (lnL t raw q).getD k ⟨#[]⟩ = x at *
        have C1 : ∀ w', Grow.G wr w' → w'.cell? ⟨w3.heap.size, k, none⟩ = some (.string x) := fun w' g => cell_later g c1
        have NM := Lib.hid (fun w => name_any x w (by unfold maxLen; omega))
        have TG := Lib.hid (fun w => tag_any x w (by unfold maxLen; omega))
        have RN := Lib.hid (fun w => (rname_any x w (by unfold maxLen; omega)).mono (fun e w' (h : _ ∧ w = w') => (⟨h.1, h.2 ▸ Grow.G.refl w⟩ : e = _ ∧ Grow.G w w')))
        have RT := Lib.hid (fun w => (rtag_any x w (by unfold maxLen; omega)).mono (fun e w' (h : _ ∧ w = w') => (⟨h.1, h.2 ▸ Grow.G.refl w⟩ : e = _ ∧ Grow.G w w')))
        have hk0 : (0 : Int) ≤ (k : Int) := by omega
        have hk8 : (k : Int) < 8 := by omega
        clear c1 sz htz
        generalize nameB 16 x = b at *
        generalize nameB 8 x = b' at *
        go_wp2_with fail
        refine Grow.region_seqT (by kernel_rfl) (by kernel_rfl) (by intro c a d v w h; cases d <;> exact h) (by kernel_rfl) ?_
        repeat (first
          | (refine Grow.seqT.value ?_ (by rfl) ?_ ?_; rotate_left; (intro w' hg; go_simp <;> with_reducible rfl); simp only [Act.put, List.setIfInBounds_toArray, List.set_cons_zero, List.set_cons_succ])
          | (refine Grow.seqT.call (.bool b) 13 _ (by rfl) ?_ (fun w' _ => (NM.out w')) ?_; (focus (intro w'; go_simp)); simp only [Act.put, List.setIfInBounds_toArray, List.set_cons_zero, List.set_cons_succ])
          | (refine Grow.seqT.call (.bool b) 14 _ (by rfl) ?_ (fun w' _ => (RN.out w')) ?_; (focus (intro w'; go_simp)); simp only [Act.put, List.setIfInBounds_toArray, List.set_cons_zero, List.set_cons_succ])
          | (refine Grow.seqT.call (.bool b') 15 _ (by rfl) ?_ (fun w' _ => (TG.out w')) ?_; (focus (intro w'; go_simp)); simp only [Act.put, List.setIfInBounds_toArray, List.set_cons_zero, List.set_cons_succ])
          | (refine Grow.seqT.call (.bool b') 16 _ (by rfl) ?_ (fun w' _ => (RT.out w')) ?_; (focus (intro w'; go_simp)); simp only [Act.put, List.setIfInBounds_toArray, List.set_cons_zero, List.set_cons_succ])
          )
        refine Grow.seqT.done (fun w4 g4 => ?_)
        go_wp2
        go_roundw
        case rel => exact ⟨k + 1, by omega, by go_num, (fun j hj => cell_later g4 (CE.out j hj)), Grow.G.trans GE.out g4⟩
        case measure => simp [intOf]; omega
      · go_wp2
        go_ret
        exact ⟨rfl, Grow.G.trans B3.out GE.out⟩
end Go.Proofs.YtcffmjmbkhkmgaaDoor

/- The walk of LabelBack. -/
import Derived.Test.YtcffmjmbkhkmgaaDoorLabelRevs
namespace Go.Proofs.YtcffmjmbkhkmgaaDoor
set_option linter.unusedVariables false
set_option linter.unusedSimpArgs false
open Go.RowKit

theorem isRev_revS {t : ByteArray} {g : Int} (h : revP t g) : IsRev (revS t g) t g := ⟨h.1, h.2.1, h.2.2, revS_yes h⟩
theorem parse_empty : ∀ c n, ¬ IsRev ⟨#[]⟩ c n := parse_no (by decide +kernel)

def lbS (t raw : ByteArray) : List ByteArray := [raw, ⟨#[97, 45]⟩ ++ raw, t ++ ⟨#[45]⟩ ++ raw]
theorem lbS_size (t raw : ByteArray) (ht : t.size ≤ 48) (hr : raw.size ≤ 100) (k : Nat) : ((lbS t raw).getD k ⟨#[]⟩).size ≤ 200 := by
  match k with
  | 0 => exact Nat.le_trans hr (by omega)
  | 1 => show ((⟨#[97, 45]⟩ : ByteArray) ++ raw).size ≤ 200; rw [ByteArray.size_append]; show 2 + raw.size ≤ 200; omega
  | 2 =>
    show (t ++ ⟨#[45]⟩ ++ raw).size ≤ 200
    rw [ByteArray.size_append, ByteArray.size_append]; show t.size + 1 + _ ≤ 200; omega
  | k + 3 => show (0 : Nat) ≤ 200; omega

/-- what follows behind the loop's beginning -/
theorem rev_back {s c : ByteArray} {n : Int} (w : World) (h : IsRev s c n) (ht : Tab w) :
    Calls Tryd.prog 17 #[.string c, .int .i64 n] w fun e w' => e = .returned (.string s) ∧ Below w.heap.size w w' := by
  have := nameB_size h.1
  have := h.2.1; have := h.2.2.1
  exact rev_eq c n s w (by unfold maxLen; omega) (by omega) (by omega) ht (rev_of h)

set_option maxRecDepth 100000 in
set_option maxHeartbeats 2000000 in
theorem walkLabelBack (w : World) (v : Value) (zs : List Int) (hz : IntSlice w v zs) (gen : Int) (hgen : wf64 gen) (raw : ByteArray) (hr : raw.size ≤ 140737488351232) (ht : Tab w) :
    Calls Tryd.prog 5 #[v, .int .i64 gen, .string raw] w fun e w' => e = .returned (.bool true) ∧ Below w.heap.size w w' := by
  have HT := Lib.hid ht
  have HZ := Lib.hid hz
  clear ht hz
  by_cases h100 : 100 < raw.size
  · go_enter Tryd.func5, Tryd.ntmps5
    go_wp2_with (go_at_call 10; refine (known_any _ HT.out).mono ?_; rintro e w1 ⟨rfl, hb1⟩)
    go_ret
    exact ⟨rfl, hb1⟩
  · have hq := withinI_range gen 999999 (by omega)
    have WQ := Lib.hid (fun w => within_any gen 999999 w (by omega) (by omega) hgen.1 hgen.2)
    generalize withinI gen 999999 = q at *
    have htz := textS_size zs
    have LS := Lib.hid (lbS_size (textS zs) raw htz (by omega))
    have TX := Lib.hid (fun w h => text_any v zs w h)
    have K2 := Lib.hid (fun k h => cellsMap Value.string (lbS (textS zs) raw) ⟨#[]⟩ k h)
    unfold lbS at K2
    generalize hts : textS zs = t at *
    clear hts
    have hr100 : raw.size ≤ 100 := by omega
    have RV := Lib.hid (fun w h => rev_any t (1 + q) w (by unfold maxLen; omega) (by omega) (by omega) h)
    have NM := Lib.hid (fun w => name_any t w (by unfold maxLen; omega))
    by_cases hnm : nameB 16 t = true
    · have RP : revP t (1 + q) := ⟨hnm, by omega, by omega⟩
      have RZ := revS_size RP
      have re := toList_isEmpty _ RZ
      have rn := toList_ne _ RZ
      have zq := digS_ten (n := (1 + q).toNat) (by omega)
      have zr : (revS t (1 + q)).size ≤ 100 := by
        rw [revS_yes RP, ByteArray.size_append, ByteArray.size_append]; show t.size + 1 + _ ≤ 100; omega
      have SY := Lib.hid (fun w => split_yes (revS t (1 + q)) t (1 + q) w (by omega) (isRev_revS RP))
      generalize revS t (1 + q) = r at *
      clear RZ RP zq zr h100 hr
      go_enter Tryd.func5, Tryd.ntmps5
      go_wp2_with (first | (go_at_call 10; refine (known_any _ HT.out).mono ?_; rintro e w1 ⟨rfl, hb1⟩) | (go_at_call 12; refine (WQ.out _).mono ?_; rintro e w2 ⟨rfl, rfl⟩) | (go_at_call 11; refine (TX.out _ (HZ.out.below hb1)).mono ?_; rintro e w2 ⟨rfl, hb2⟩; have B2 := Lib.hid (Grow.G.trans hb1 hb2); clear hb1 hb2))
      refine (RV.out _ (HT.out.below B2.out)).mono ?_
      rintro e w3 ⟨he, hb3⟩
      subst he
      have B3 := Lib.hid (Grow.G.trans B2.out hb3)
      clear hb3 B2
      go_wp2_with fail
      refine (SY.out _).mono ?_
      rintro e w4 ⟨rfl, hb4⟩
      have B4 := Lib.hid (Grow.G.trans B3.out hb4)
      clear hb4 B3
      go_wp2_with (go_at_call 13; refine (NM.out _).mono ?_; rintro e w5 ⟨rfl, hb5⟩)
      have B5 := Lib.hid (Grow.G.trans B4.out hb5)
      clear hb5 B4
      go_loopw [14] (fun i wq => ∃ k : Nat, k ≤ 3 ∧ i = .int .i64 k ∧ Hid (∀ k, k < 3 → wq.cell? ⟨w5.heap.size, k, none⟩ = some (.string ((lbS t raw).getD k ⟨#[]⟩))) ∧ Hid (Grow.G w5 wq)) (fun i _ => 3 - (intOf i).toNat)
      case atStart => exact ⟨0, by omega, rfl, (fun k hk => cell_new (K2.out k hk) rfl), Grow.G.alloc (Grow.G.refl _) _⟩
      case round =>
        obtain ⟨j, hj, rfl, CF, GF⟩ := hrel
        by_cases hl2 : j < 3
        · have c1 := CF.out j hl2
          have sz := LS.out j
          generalize (lbS t raw).getD j ⟨#[]⟩ = x at *
          have hk0 : (0 : Int) ≤ (j : Int) := by omega
          have hk8 : (j : Int) < 3 := by omega
          have PS := parse_spec x
          have SY2 := Lib.hid (fun c n w h => split_yes x c n w (by omega) h)
          have SN2 := Lib.hid (fun w h => split_no x w (by omega) h)
          clear htz sz
          rcases PS with ⟨c, n, _, hr⟩ | ⟨_, hr⟩
          · have HR := Lib.hid hr
            clear hr
            go_wp2_with (first | (go_at_call 20; refine (SY2.out c n _ HR.out).mono ?_; rintro e w8 ⟨rfl, hb8⟩; have c2 := cell_later hb8 c1))
            have GT := Lib.hid (fun w' (h : Grow.G w8 w') => HT.out.below (Grow.G.trans (Grow.G.trans B5.out GF.out) (Grow.G.trans hb8 h)))
            have C2 : ∀ w', Grow.G w8 w' → w'.cell? ⟨w5.heap.size, j, none⟩ = some (.string x) := fun w' g => cell_later g c2
            have BK := Lib.hid (fun w h => rev_back w HR.out h)
            clear c1 c2
            refine Grow.region_seqT (by kernel_rfl) (by kernel_rfl) (by intro c a d v w h; cases d <;> exact h) (by kernel_rfl) ?_
            repeat (first
              | (refine Grow.seqT.value ?_ (by rfl) ?_ ?_; rotate_left; (intro w' hg; go_simp <;> with_reducible rfl); simp only [Act.put, List.setIfInBounds_toArray, List.set_cons_zero, List.set_cons_succ])
              | (refine Grow.seqT.call (.string x) 17 _ (by rfl) ?_ (fun w' g' => (BK.out w' (GT.out w' g'))) ?_; (focus (intro w'; go_simp)); simp only [Act.put, List.setIfInBounds_toArray, List.set_cons_zero, List.set_cons_succ])
              | (refine Grow.seqT.idle (by rfl) ?_; simp only [Act.put, List.setIfInBounds_toArray, List.set_cons_zero, List.set_cons_succ])
              )
            refine Grow.seqT.done (fun w4 g4 => ?_)
            go_wp2
            go_roundw
            case rel => exact ⟨j + 1, by omega, by go_num, (fun i hi => cell_later (Grow.G.trans hb8 g4) (CF.out i hi)), Grow.G.trans GF.out (Grow.G.trans hb8 g4)⟩
            case measure => simp [intOf]; omega
          · have HR := Lib.hid hr
            clear hr
            go_wp2_with (first | (go_at_call 20; refine (SN2.out _ HR.out).mono ?_; rintro e w8 ⟨rfl, hb8⟩; have c2 := cell_later hb8 c1))
            clear c1 c2
            refine Grow.region_seqT (by kernel_rfl) (by kernel_rfl) (by intro c a d v w h; cases d <;> exact h) (by kernel_rfl) ?_
            repeat (first
              | (refine Grow.seqT.value ?_ (by rfl) ?_ ?_; rotate_left; (intro w' hg; go_simp <;> with_reducible rfl); simp only [Act.put, List.setIfInBounds_toArray, List.set_cons_zero, List.set_cons_succ])
              | (refine Grow.seqT.idle (by rfl) ?_; simp only [Act.put, List.setIfInBounds_toArray, List.set_cons_zero, List.set_cons_succ])
              )
            refine Grow.seqT.done (fun w4 g4 => ?_)
            go_wp2
            go_roundw
            case rel => exact ⟨j + 1, by omega, by go_num, (fun i hi => cell_later (Grow.G.trans hb8 g4) (CF.out i hi)), Grow.G.trans GF.out (Grow.G.trans hb8 g4)⟩
            case measure => simp [intOf]; omega
        · go_wp2
          go_ret
          exact ⟨rfl, Grow.G.trans B5.out GF.out⟩
    · have RE := revS_no (s := t) (n := 1 + q) (by unfold revP; simp [hnm])
      rw [RE] at RV
      have hnm' : nameB 16 t = false := by simpa using hnm
      clear RE h100 hr hnm
      go_enter Tryd.func5, Tryd.ntmps5
      go_wp2_with (first | (go_at_call 10; refine (known_any _ HT.out).mono ?_; rintro e w1 ⟨rfl, hb1⟩) | (go_at_call 12; refine (WQ.out _).mono ?_; rintro e w2 ⟨rfl, rfl⟩) | (go_at_call 11; refine (TX.out _ (HZ.out.below hb1)).mono ?_; rintro e w2 ⟨rfl, hb2⟩; have B2 := Lib.hid (Grow.G.trans hb1 hb2); clear hb1 hb2))
      refine (RV.out _ (HT.out.below B2.out)).mono ?_
      rintro e w3 ⟨he, hb3⟩
      subst he
      have B3 := Lib.hid (Grow.G.trans B2.out hb3)
      clear hb3 B2
      go_wp2_with fail
      refine (split_no _ _ (by decide) parse_empty).mono ?_
      rintro e w4 ⟨rfl, hb4⟩
      have B4 := Lib.hid (Grow.G.trans B3.out hb4)
      clear hb4 B3
      go_wp2_with (go_at_call 13; refine (NM.out _).mono ?_; rintro e w5 ⟨rfl, hb5⟩)
      have B5 := Lib.hid (Grow.G.trans B4.out hb5)
      clear hb5 B4
      go_loopw [14] (fun i wq => ∃ k : Nat, k ≤ 3 ∧ i = .int .i64 k ∧ Hid (∀ k, k < 3 → wq.cell? ⟨w5.heap.size, k, none⟩ = some (.string ((lbS t raw).getD k ⟨#[]⟩))) ∧ Hid (Grow.G w5 wq)) (fun i _ => 3 - (intOf i).toNat)
      case atStart => exact ⟨0, by omega, rfl, (fun k hk => cell_new (K2.out k hk) rfl), Grow.G.alloc (Grow.G.refl _) _⟩
      case round =>
        obtain ⟨j, hj, rfl, CF, GF⟩ := hrel
        by_cases hl2 : j < 3
        · have c1 := CF.out j hl2
          have sz := LS.out j
          generalize (lbS t raw).getD j ⟨#[]⟩ = x at *
          have hk0 : (0 : Int) ≤ (j : Int) := by omega
          have hk8 : (j : Int) < 3 := by omega
          have PS := parse_spec x
          have SY2 := Lib.hid (fun c n w h => split_yes x c n w (by omega) h)
          have SN2 := Lib.hid (fun w h => split_no x w (by omega) h)
          clear htz sz
          rcases PS with ⟨c, n, _, hr⟩ | ⟨_, hr⟩
          · have HR := Lib.hid hr
            clear hr
            go_wp2_with (first | (go_at_call 20; refine (SY2.out c n _ HR.out).mono ?_; rintro e w8 ⟨rfl, hb8⟩; have c2 := cell_later hb8 c1))
            have GT := Lib.hid (fun w' (h : Grow.G w8 w') => HT.out.below (Grow.G.trans (Grow.G.trans B5.out GF.out) (Grow.G.trans hb8 h)))
            have C2 : ∀ w', Grow.G w8 w' → w'.cell? ⟨w5.heap.size, j, none⟩ = some (.string x) := fun w' g => cell_later g c2
            have BK := Lib.hid (fun w h => rev_back w HR.out h)
            clear c1 c2
            refine Grow.region_seqT (by kernel_rfl) (by kernel_rfl) (by intro c a d v w h; cases d <;> exact h) (by kernel_rfl) ?_
            repeat (first
              | (refine Grow.seqT.value ?_ (by rfl) ?_ ?_; rotate_left; (intro w' hg; go_simp <;> with_reducible rfl); simp only [Act.put, List.setIfInBounds_toArray, List.set_cons_zero, List.set_cons_succ])
              | (refine Grow.seqT.call (.string x) 17 _ (by rfl) ?_ (fun w' g' => (BK.out w' (GT.out w' g'))) ?_; (focus (intro w'; go_simp)); simp only [Act.put, List.setIfInBounds_toArray, List.set_cons_zero, List.set_cons_succ])
              | (refine Grow.seqT.idle (by rfl) ?_; simp only [Act.put, List.setIfInBounds_toArray, List.set_cons_zero, List.set_cons_succ])
              )
            refine Grow.seqT.done (fun w4 g4 => ?_)
            go_wp2
            go_roundw
            case rel => exact ⟨j + 1, by omega, by go_num, (fun i hi => cell_later (Grow.G.trans hb8 g4) (CF.out i hi)), Grow.G.trans GF.out (Grow.G.trans hb8 g4)⟩
            case measure => simp [intOf]; omega
          · have HR := Lib.hid hr
            clear hr
            go_wp2_with (first | (go_at_call 20; refine (SN2.out _ HR.out).mono ?_; rintro e w8 ⟨rfl, hb8⟩; have c2 := cell_later hb8 c1))
            clear c1 c2
            refine Grow.region_seqT (by kernel_rfl) (by kernel_rfl) (by intro c a d v w h; cases d <;> exact h) (by kernel_rfl) ?_
            repeat (first
              | (refine Grow.seqT.value ?_ (by rfl) ?_ ?_; rotate_left; (intro w' hg; go_simp <;> with_reducible rfl); simp only [Act.put, List.setIfInBounds_toArray, List.set_cons_zero, List.set_cons_succ])
              | (refine Grow.seqT.idle (by rfl) ?_; simp only [Act.put, List.setIfInBounds_toArray, List.set_cons_zero, List.set_cons_succ])
              )
            refine Grow.seqT.done (fun w4 g4 => ?_)
            go_wp2
            go_roundw
            case rel => exact ⟨j + 1, by omega, by go_num, (fun i hi => cell_later (Grow.G.trans hb8 g4) (CF.out i hi)), Grow.G.trans GF.out (Grow.G.trans hb8 g4)⟩
            case measure => simp [intOf]; omega
        · go_wp2
          go_ret
          exact ⟨rfl, Grow.G.trans B5.out GF.out⟩
end Go.Proofs.YtcffmjmbkhkmgaaDoor

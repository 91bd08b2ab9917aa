/- The walk of LabelRevs. -/
import Derived.Test.YtcffmjmbkhkmgaaDoorLabelNames
namespace Go.Proofs.YtcffmjmbkhkmgaaDoor
set_option linter.unusedVariables false
set_option linter.unusedSimpArgs false
open Go.RowKit

theorem rrev_G (s : ByteArray) (n : Int) (w : World) (hs : s.size ≤ maxLen) :
    Calls Tryd.prog 18 #[.string s, .int .i64 n] w fun e w' => e = .returned (.string (revS s n)) ∧ Grow.G w w' := rrev_any s n w hs
theorem neq_self_str (r : ByteArray) (w : World) : (binOp .neq 9 (.string r) (.string r)).run Tryd.prog w = .ok (.bool false) w := by
  simp [binOp, Op.stringOp, Sem.run_pure]

def lrG (gen q : Int) : List Int := [gen, q - 1, 999999, 1]
theorem lrG_wf (gen q : Int) (h : wf64 gen) (h1 : 0 ≤ q) (h2 : q < 1000002) (k : Nat) : wf64 ((lrG gen q).getD k 0) := by
  unfold wf64 at *
  match k with
  | 0 => exact h
  | 1 => show -9223372036854775808 ≤ q - 1 ∧ q - 1 ≤ 9223372036854775807; omega
  | 2 => show (-9223372036854775808 : Int) ≤ 999999 ∧ (999999 : Int) ≤ 9223372036854775807; omega
  | 3 => show (-9223372036854775808 : Int) ≤ 1 ∧ (1 : Int) ≤ 9223372036854775807; omega
  | k + 4 => show (-9223372036854775808 : Int) ≤ 0 ∧ (0 : Int) ≤ 9223372036854775807; omega

def lrS (t raw : ByteArray) (q : Nat) : List ByteArray := [t, raw, ⟨#[119, 101, 98, 45]⟩ ++ raw, t ++ ⟨#[45]⟩ ++ digS q, ⟨#[97, 45, 48]⟩, ⟨#[97, 45, 48, 49]⟩, ⟨#[97, 45, 49, 45, 50]⟩, ⟨#[97, 45, 45, 49]⟩, ⟨#[45, 49]⟩, ⟨#[97, 45]⟩, ⟨#[49, 45, 49]⟩, ⟨#[97, 45, 49, 50, 51, 52, 53, 54, 55]⟩, ⟨#[97, 45, 49, 50, 51, 52, 53, 54, 55, 56, 57, 48, 49, 50, 51, 52, 53, 54, 55, 56, 57, 48]⟩]
theorem lrS_size (t raw : ByteArray) (q : Nat) (ht : t.size ≤ 48) (hr : raw.size ≤ 100) (hq : q < 20000000) (k : Nat) : ((lrS t raw q).getD k ⟨#[]⟩).size ≤ 200 := by
  match k with
  | 0 => exact Nat.le_trans ht (by omega)
  | 1 => exact Nat.le_trans hr (by omega)
  | 2 => show ((⟨#[119, 101, 98, 45]⟩ : ByteArray) ++ raw).size ≤ 200; rw [ByteArray.size_append]; show 4 + raw.size ≤ 200; omega
  | 3 =>
    show (t ++ ⟨#[45]⟩ ++ digS q).size ≤ 200
    have := digS_ten (n := q) (by omega)
    rw [ByteArray.size_append, ByteArray.size_append]; show t.size + 1 + _ ≤ 200; omega
  | 4 => exact (by decide : (3 : Nat) ≤ 200)
  | 5 => exact (by decide : (4 : Nat) ≤ 200)
  | 6 => exact (by decide : (5 : Nat) ≤ 200)
  | 7 => exact (by decide : (4 : Nat) ≤ 200)
  | 8 => exact (by decide : (2 : Nat) ≤ 200)
  | 9 => exact (by decide : (2 : Nat) ≤ 200)
  | 10 => exact (by decide : (3 : Nat) ≤ 200)
  | 11 => exact (by decide : (9 : Nat) ≤ 200)
  | 12 => exact (by decide : (22 : Nat) ≤ 200)
  | k + 13 => show (0 : Nat) ≤ 200; omega

theorem rsplit_yes (s c : ByteArray) (n : Int) (w : World) (hs : s.size ≤ 281474976710655) (hr : IsRev s c n) :
    Calls Tryd.prog 21 #[.string s] w fun e w' => e = .returned (.tuple #[.string c, .int .i64 n, .bool true]) ∧ w = w' :=
  (rsplit_any s w hs).mono fun e w' ⟨ha, hb⟩ => ⟨ha.get hr, hb⟩
theorem rsplit_no (s : ByteArray) (w : World) (hs : s.size ≤ 281474976710655) (hr : ∀ c n, ¬ IsRev s c n) :
    Calls Tryd.prog 21 #[.string s] w fun e w' => e = .returned (.tuple #[.string ⟨#[]⟩, .int .i64 0, .bool false]) ∧ w = w' :=
  (rsplit_any s w hs).mono fun e w' ⟨ha, hb⟩ => by
    rcases ha with ⟨c', n', h', he⟩ | ⟨_, he⟩
    · exact absurd h' (hr c' n')
    · exact ⟨he, hb⟩

set_option maxRecDepth 100000 in
set_option maxHeartbeats 2000000 in
theorem walkLabelRevs (w : World) (v : Value) (zs : List Int) (hz : IntSlice w v zs) (gen : Int) (hgen : wf64 gen) (raw : ByteArray) (hr : raw.size ≤ 140737488351232) (n : Int) (hn : wf64 n) (ht : Tab w) :
    Calls Tryd.prog 4 #[v, .int .i64 gen, .string raw, .int .i64 n] w fun e w' => e = .returned (.bool true) ∧ Below w.heap.size w w' := by
  have HT := Lib.hid ht
  have HZ := Lib.hid hz
  clear ht hz
  by_cases h100 : 100 < raw.size
  · go_enter Tryd.func4, Tryd.ntmps4
    go_wp2_with (go_at_call 10; refine (known_any _ HT.out).mono ?_; rintro e w1 ⟨rfl, hb1⟩)
    go_ret
    exact ⟨rfl, hb1⟩
  · have hq := withinI_range n 1000002 (by omega)
    have hp := withinI_range n 20000000 (by omega)
    have WQ := Lib.hid (fun w => within_any n 1000002 w (by omega) (by omega) hn.1 hn.2)
    have WP := Lib.hid (fun w => within_any n 20000000 w (by omega) (by omega) hn.1 hn.2)
    generalize withinI n 1000002 = q at *
    generalize withinI n 20000000 = p at *
    have htz := textS_size zs
    have GW := Lib.hid (lrG_wf gen q hgen hq.1 hq.2)
    have LS := Lib.hid (lrS_size (textS zs) raw p.toNat htz (by omega) (by omega))
    have DG := Lib.hid (fun w => digits_any p w (by omega) (by omega))
    have DZ := digS_ten (n := p.toNat) (by omega)
    have TX := Lib.hid (fun w h => text_any v zs w h)
    have K1 := Lib.hid (fun k h => cellsMap (Value.int .i64) (lrG gen q) 0 k h)
    have K2 := Lib.hid (fun k h => cellsMap Value.string (lrS (textS zs) raw p.toNat) ⟨#[]⟩ k h)
    unfold lrG at K1
    unfold lrS at K2
    generalize hts : textS zs = t at *
    clear hts
    have hr100 : raw.size ≤ 100 := by omega
    go_enter Tryd.func4, Tryd.ntmps4
    go_wp2_with (first | (go_at_call 10; refine (known_any _ HT.out).mono ?_; rintro e w3 ⟨rfl, hb1⟩) | (go_at_call 12; refine (WQ.out _).mono ?_; rintro e w2 ⟨rfl, rfl⟩))
    have B3 : Hid (Grow.G w w3) := Lib.hid hb1
    clear h100 hr hb1
    go_loopw [10] (fun i wr => ∃ k : Nat, k ≤ 4 ∧ i = .int .i64 k ∧ Hid (∀ k, k < 4 → wr.cell? ⟨w3.heap.size, k, none⟩ = some (.int .i64 ((lrG gen q).getD k 0))) ∧ Hid (Grow.G w3 wr)) (fun i _ => 4 - (intOf i).toNat)
    case atStart => exact ⟨0, by omega, rfl, (fun k hk => cell_new (K1.out k hk) rfl), Grow.G.alloc (Grow.G.refl _) _⟩
    case round =>
      obtain ⟨k, hk, rfl, CE, GE⟩ := hrel
      by_cases hlt : k < 4
      · have c1 := CE.out k hlt
        have gw := GW.out k
        generalize (lrG gen q).getD k 0 = g at *
        have C1 : ∀ w', Grow.G wr w' → w'.cell? ⟨w3.heap.size, k, none⟩ = some (.int .i64 g) := fun w' g => cell_later g c1
        have sz2 : ((⟨#[97]⟩ : ByteArray) ++ raw).size ≤ 101 := by rw [ByteArray.size_append]; show 1 + raw.size ≤ 101; omega
        have GT := Lib.hid (fun w' (h : Grow.G wr w') => HT.out.below (Grow.G.trans B3.out (Grow.G.trans GE.out h)))
        have GZ := Lib.hid (fun w' (h : Grow.G wr w') => HZ.out.below (Grow.G.trans B3.out (Grow.G.trans GE.out h)))
        have R1 := Lib.hid (fun w h => rev_any t g w (by unfold maxLen; omega) gw.1 gw.2 h)
        have R2 := Lib.hid (fun w => rrev_G t g w (by unfold maxLen; omega))
        have R3 := Lib.hid (fun w h => rev_any (⟨#[97]⟩ ++ raw) g w (by unfold maxLen; omega) gw.1 gw.2 h)
        have R4 := Lib.hid (fun w => rrev_G (⟨#[97]⟩ ++ raw) g w (by unfold maxLen; omega))
        have hk0 : (0 : Int) ≤ (k : Int) := by omega
        have hk8 : (k : Int) < 4 := by omega
        have AD : ¬ 9223372036854775807 < 1 + raw.size := by omega
        clear c1 sz2 htz gw
        generalize revS t g = r1 at *
        generalize revS (⟨#[97]⟩ ++ raw) g = r2 at *
        go_wp2_with fail
        refine Grow.region_seqT (by kernel_rfl) (by kernel_rfl) (by intro c a d v w h; cases d <;> exact h) (by kernel_rfl) ?_
        repeat (first
          | (refine Grow.seqT.value ?_ (by rfl) ?_ ?_; rotate_left; (intro w' hg; go_simp <;> with_reducible rfl); simp only [Act.put, List.setIfInBounds_toArray, List.set_cons_zero, List.set_cons_succ])
          | (refine Grow.seqT.call (.string t) 11 _ (by rfl) ?_ (fun w' g' => (TX.out w' (GZ.out w' g'))) ?_; (focus (intro w'; go_simp)); simp only [Act.put, List.setIfInBounds_toArray, List.set_cons_zero, List.set_cons_succ])
          | (refine Grow.seqT.call (.string r1) 17 _ (by rfl) ?_ (fun w' g' => (R1.out w' (GT.out w' g'))) ?_; (focus (intro w'; go_simp)); simp only [Act.put, List.setIfInBounds_toArray, List.set_cons_zero, List.set_cons_succ])
          | (refine Grow.seqT.call (.string r1) 18 _ (by rfl) ?_ (fun w' g' => (R2.out w')) ?_; (focus (intro w'; go_simp)); simp only [Act.put, List.setIfInBounds_toArray, List.set_cons_zero, List.set_cons_succ])
          | (refine Grow.seqT.call (.string r2) 17 _ (by rfl) ?_ (fun w' g' => (R3.out w' (GT.out w' g'))) ?_; (focus (intro w'; go_simp)); simp only [Act.put, List.setIfInBounds_toArray, List.set_cons_zero, List.set_cons_succ])
          | (refine Grow.seqT.call (.string r2) 18 _ (by rfl) ?_ (fun w' g' => (R4.out w')) ?_; (focus (intro w'; go_simp)); simp only [Act.put, List.setIfInBounds_toArray, List.set_cons_zero, List.set_cons_succ])
          | (refine Grow.seqT.idle (by rfl) ?_; simp only [Act.put, List.setIfInBounds_toArray, List.set_cons_zero, List.set_cons_succ])
          )
        refine Grow.seqT.done (fun w4 g4 => ?_)
        go_wp2
        go_roundw
        case rel => exact ⟨k + 1, by omega, by go_num, (fun j hj => cell_later g4 (CE.out j hj)), Grow.G.trans GE.out g4⟩
        case measure => simp [intOf]; omega
      · have B4 := Lib.hid (Grow.G.trans B3.out GE.out)
        clear GE CE
        go_wp2_with fail
        refine (TX.out _ (HZ.out.below B4.out)).mono ?_
        rintro e w5 ⟨rfl, hb5⟩
        have B5 := Lib.hid (Grow.G.trans B4.out hb5)
        clear hb5 B4
        go_wp2_with fail
        refine (TX.out _ (HZ.out.below B5.out)).mono ?_
        rintro e w6 ⟨rfl, hb6⟩
        have B6 := Lib.hid (Grow.G.trans B5.out hb6)
        clear hb6 B5
        go_wp2_with (go_at_call 12; refine (WP.out _).mono ?_; rintro e w2 ⟨rfl, rfl⟩)
        refine (DG.out _).mono ?_
        rintro e w7 ⟨rfl, hb7⟩
        have B7 := Lib.hid (Grow.G.trans B6.out hb7)
        clear hb7 B6
        go_wp2_with fail
        go_loopw [12] (fun i wq => ∃ k : Nat, k ≤ 13 ∧ i = .int .i64 k ∧ Hid (∀ k, k < 13 → wq.cell? ⟨w7.heap.size, k, none⟩ = some (.string ((lrS t raw p.toNat).getD k ⟨#[]⟩))) ∧ Hid (Grow.G w7 wq)) (fun i _ => 13 - (intOf i).toNat)
        case atStart => exact ⟨0, by omega, rfl, (fun k hk => cell_new (K2.out k hk) rfl), Grow.G.alloc (Grow.G.refl _) _⟩
        case round =>
          obtain ⟨j, hj, rfl, CF, GF⟩ := hrel
          by_cases hl2 : j < 13
          · have c1 := CF.out j hl2
            have sz := LS.out j
            generalize (lrS t raw p.toNat).getD j ⟨#[]⟩ = x at *
            have hk0 : (0 : Int) ≤ (j : Int) := by omega
            have hk8 : (j : Int) < 13 := by omega
            have PS := parse_spec x
            have SY := Lib.hid (fun c n w h => split_yes x c n w (by omega) h)
            have SN := Lib.hid (fun w h => split_no x w (by omega) h)
            have RY := Lib.hid (fun c n w h => rsplit_yes x c n w (by omega) h)
            have RN := Lib.hid (fun w h => rsplit_no x w (by omega) h)
            clear htz DZ sz
            rcases PS with ⟨c, n, _, hr⟩ | ⟨_, hr⟩
            · have HR := Lib.hid hr
              clear hr
              go_wp2_with (first | (go_at_call 20; refine (SY.out c n _ HR.out).mono ?_; rintro e w8 ⟨rfl, hb8⟩; have c2 := cell_later hb8 c1) | (go_at_call 21; refine (RY.out c n _ HR.out).mono ?_; rintro e w9 ⟨rfl, rfl⟩))
              go_roundw
              case rel => exact ⟨j + 1, by omega, by go_num, (fun i hi => cell_later hb8 (CF.out i hi)), Grow.G.trans GF.out hb8⟩
              case measure => simp [intOf]; omega
            · have HR := Lib.hid hr
              clear hr
              go_wp2_with (first | (go_at_call 20; refine (SN.out _ HR.out).mono ?_; rintro e w8 ⟨rfl, hb8⟩; have c2 := cell_later hb8 c1) | (go_at_call 21; refine (RN.out _ HR.out).mono ?_; rintro e w9 ⟨rfl, rfl⟩))
              go_roundw
              case rel => exact ⟨j + 1, by omega, by go_num, (fun i hi => cell_later hb8 (CF.out i hi)), Grow.G.trans GF.out hb8⟩
              case measure => simp [intOf]; omega
          · go_wp2
            go_ret
            exact ⟨rfl, Grow.G.trans B7.out GF.out⟩
end Go.Proofs.YtcffmjmbkhkmgaaDoor

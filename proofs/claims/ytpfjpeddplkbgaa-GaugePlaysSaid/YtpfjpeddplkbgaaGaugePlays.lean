
/- The walk of GaugePlays. -/
import Derived.Test.YtpfjpeddplkbgaaZ68
import Derived.Test.YtpfjpeddplkbgaaZ29
import Derived.Test.YtpfjpeddplkbgaaZ59
namespace Go.Proofs.Ytpfjpeddplkbgaa
set_option maxRecDepth 100000
set_option linter.unusedVariables false
set_option linter.unusedSimpArgs false
set_option linter.unnecessarySimpa false
open Go.RowKit Go.Args

theorem hold_reads3 {w0 w : World} {L : List MBox} {A C B : Hp} {a : Option Addr} {c : Nat} {l : List Int} (h : Hold w0 w L (Sep A (Sep C (Sep (IntO (.slice a l.length c) l) B)))) : IntR w a l := off_intR (hold_reads8 (h.map fun F q => q.under fun F q => q.rot))
theorem own_blk9 {w : World} {b n : Nat} {cs : List Value} {T : TypeId} (h : Blk w b cs.toArray T) (hl : cs.length = n) (hn : n ≤ maxLen) : w.ownsRow 0 T 1 (.slice (some ⟨b, 0, none⟩) n n) n cs :=
  ⟨by rw [hl, Nat.mul_one], .inr ⟨b, n, cs.toArray, rfl, Nat.zero_le _, h, Nat.le_refl _, hn, by simp [hl], by rw [Nat.mul_one, ← hl]; simp⟩⟩
theorem int_made (w : World) (l : List Int) (n : Nat) (hn : l.length = n) (hm : n ≤ maxLen) : IntO (.slice (some ⟨w.heap.size, 0, none⟩) n n) l (w.alloc (.cells (intsV l).toArray 3)) (fun k => k = w.heap.size) :=
  ⟨by rw [hn]; exact (own_blk9 (Blk.new w (intsV l).toArray _) (by rw [List.length_map, hn]) hm).off, fun k => ⟨fun e => by rw [e]; rfl, fun e => (Option.some.inj e).symm⟩⟩
set_option maxHeartbeats 16000000 in
theorem walkGaugePlays (w : World) (v : Value) (zs : List Int) (hz : IntSlice w v zs) (raw : Int) (hr : wf64 raw) (v2 : Value) (ms : List Int) (hm : IntSlice w v2 ms) :
    Calls Try.prog 3 #[v, .int .i64 raw, v2] w fun e w' => e = .returned (.bool true) ∧ Below w.heap.size w w' := by
  have KN := Lib.hid (fun w => known9_any w)
  have FE := Lib.hid Emp.foot
  have FP := Lib.hid GgP.foot
  have FR := Lib.hid (fun g s => (RgP.foot g s).sep Emp.foot)
  have HRW := Lib.hid hr
  obtain ⟨va, vc, rfl, hat⟩ := hz.open
  have HZ := Lib.hid hat
  obtain ⟨ua, uc, rfl, hat2⟩ := hm.open
  have HM := Lib.hid hat2
  obtain ⟨i0, hi, hz0, hz1, hz2⟩ := info_parts infoIntO
  have HII := Lib.hid hi; have HZ0 := Lib.hid hz0; have HZ1 := Lib.hid hz1; have HZ2 := Lib.hid hz2
  clear hat hz hat2 hm hr hi hz0 hz1 hz2
  go_enter Try.func3, Try.ntmps3
  go_wp2_with fail
  refine (KN.out _).mono ?_
  rintro e w1 ⟨rfl, hg⟩
  have H := Lib.hid ((Hold.nil w).grow Emp.foot hg)
  clear hg
  go_wp2_with fail
  refine (hold_gnew H.out Emp.foot).mono ?_
  rintro e w3 ⟨g, rfl, hh⟩
  replace H := Lib.hid hh
  clear hh
  go_wp2_with fail
  replace H := Lib.hid (hold_rgnew H.out (GgP.foot _ _) Emp.foot)
  generalize w3.heap.size = q at *
  go_loopw [9] (fun i wr => ∃ (k : Nat) (s : List Int), k ≤ 90 ∧ i = .int .i64 (k : Int) ∧ s.length = k ∧ Hid (Hold w wr [] (Sep (GgP g s) (Sep (RgP q s) Emp)))) (fun i _ => 90 - (intOf i).toNat)
  case atStart => exact ⟨0, _, by omega, rfl, rfl, H⟩
  case round =>
    clear H
    obtain ⟨k, s, hk, rfl, hs, H⟩ := hrel
    by_cases h12 : k < zs.length ∧ k < 90
    rotate_left
    · have hj : (¬ k < zs.length) ∨ (k < zs.length ∧ ¬ k < 90) := by omega
      rcases hj with h1 | ⟨h1, h2⟩
      case' inl => have d1 : decide ((k : Int) < (zs.length : Int)) = false := decide_eq_false (by omega)
      case' inr =>
        have d1 : decide ((k : Int) < (zs.length : Int)) = true := decide_eq_true (by omega)
        have d2 : decide ((k : Int) < 90) = false := decide_eq_false (by omega)
      all_goals
        clear h12
        go_wp2_with fail
        go_ret
        exact ⟨rfl, H.out.below⟩
    obtain ⟨h1, h2⟩ := h12
    have d1 : decide ((k : Int) < (zs.length : Int)) = true := decide_eq_true (by omega)
    have d2 : decide ((k : Int) < 90) = true := decide_eq_true (by omega)
    obtain ⟨b, off, hbo, hcz, hw⟩ := HZ.out.at H.out.below h1
    cases hbo
    have r3 := withinI_range (zs.getD k 0) 40 (by omega)
    have WA := Lib.hid (fun w => within9_any (zs.getD k 0) 40 w (by omega) (by omega) hw.1 hw.2)
    have hz3 := tdiv_wf hw 40 (by omega)
    have hz1 := wrap_wf hz3
    have WB := Lib.hid (fun w => within9_any ((zs.getD k 0).tdiv 40) 3 w (by omega) (by omega) hz3.1 hz3.2)
    generalize zs.getD k 0 = z at *
    obtain ⟨x, hx⟩ : ∃ x : Int, withinI z 40 - 5 = x := ⟨_, rfl⟩
    have hwx : IntKind.i64.wrap (withinI z 40 - 5) = x := by rw [hx]; exact IntWalk.i64_in _ ⟨by omega, by omega⟩
    have hxb : -1000000 ≤ x ∧ x ≤ 1000000 := ⟨by omega, by omega⟩
    have h0b : -1000000 ≤ (0 : Int) ∧ (0 : Int) ≤ 1000000 := ⟨by decide, by decide⟩
    have hk1 : IntKind.i64.wrap ((k : Int) + 1) = (k : Int) + 1 := IntWalk.i64_in _ ⟨by omega, by omega⟩
    clear hw r3 hx hz3
    generalize withinI z 40 = ya at *
    generalize withinI (z.tdiv 40) 3 = yb at *
    rcases Decidable.em (yb = 0) with e0 | e0
    case' inl =>
      have d4 : (yb == 0) = true := by simpa using e0
      go_wp2_with fail
      refine (WA.out _).mono ?_
      rintro e wx ⟨rfl, rfl⟩
      go_wp2_with fail
      refine (WB.out _).mono ?_
      rintro e wx ⟨rfl, rfl⟩
      clear WA WB hcz
      go_wp2_with fail
      refine (hold_gadd H.out (FR.out _ _) 0 h0b (by omega)).mono ?_
      rintro e w5 ⟨⟨_, rfl⟩, hst⟩
      replace H := Lib.hid hst
      clear hst
      go_wp2_with fail
      refine (hold_rgadd H.out (FP.out _ _) FE.out 0 h0b.2 (by omega)).mono ?_
      rintro e w6 ⟨⟨_, rfl⟩, hst⟩
      replace H := Lib.hid hst
      clear hst
      have hs2 := Gg.len_add s 0
      generalize Gg.add s 0 = s2 at *
    case' inr =>
      have d4 : (yb == 0) = false := by simpa using e0
      go_wp2_with fail
      refine (WA.out _).mono ?_
      rintro e wx ⟨rfl, rfl⟩
      go_wp2_with fail
      refine (WB.out _).mono ?_
      rintro e wx ⟨rfl, rfl⟩
      clear WA WB hcz
      go_wp2_with fail
      refine (hold_gadd H.out (FR.out _ _) x hxb (by omega)).mono ?_
      rintro e w5 ⟨⟨_, rfl⟩, hst⟩
      replace H := Lib.hid hst
      clear hst
      go_wp2_with fail
      refine (hold_rgadd H.out (FP.out _ _) FE.out x hxb.2 (by omega)).mono ?_
      rintro e w6 ⟨⟨_, rfl⟩, hst⟩
      replace H := Lib.hid hst
      clear hst
      have hs2 := Gg.len_add s x
      generalize Gg.add s x = s2 at *
    all_goals
      have HA : Hid (Hold w (w6.alloc (.cells #[.int .i64 1, .int .i64 2, .int .i64 6, .int .i64 60, .int .i64 61, .int .i64 (k : Int), .int .i64 ((k : Int) + 1), .int .i64 raw, .int .i64 0, .int .i64 (-1), .int .i64 9223372036854775807, .int .i64 (-9223372036854775808)] 3)) [] (Sep (GgP g s2) (Sep (IntO (.slice (some ⟨w6.heap.size, 0, none⟩) 12 12) [1, 2, 6, 60, 61, (k : Int), (k : Int) + 1, raw, 0, -1, 9223372036854775807, -9223372036854775808]) (Sep (RgP q s2) Emp)))) := Lib.hid (H.out.beside2 (FP.out _ _) (FR.out _ _) (Grow.G.alloc (Grow.G.refl _) _) (int_made w6 [1, 2, 6, 60, 61, (k : Int), (k : Int) + 1, raw, 0, -1, 9223372036854775807, -9223372036854775808] 12 rfl (by decide)) (fun j hj => Nat.le_of_eq hj.symm))
      have HV0 : ∀ x, x ∈ ([1, 2, 6, 60, 61, (k : Int), (k : Int) + 1, raw, 0, -1, 9223372036854775807, -9223372036854775808] : List Int) → wf64 x := fun x hx => by
        have hrw := HRW.out
        simp only [List.mem_cons, List.not_mem_nil, or_false] at hx
        rcases hx with rfl | rfl | rfl | rfl | rfl | rfl | rfl | rfl | rfl | rfl | rfl | rfl
        all_goals first | exact hrw | exact ⟨by omega, by omega⟩
      by_cases h3 : k < ms.length
      · have d3 : decide ((k : Int) < (ms.length : Int)) = true := decide_eq_true (by omega)
        obtain ⟨b2, off2, hbo2, hcz2, hw2⟩ := HM.out.at (H.out.below.trans (Grow.G.alloc (Grow.G.refl _) (.cells #[.int .i64 1, .int .i64 2, .int .i64 6, .int .i64 60, .int .i64 61, .int .i64 (k : Int), .int .i64 ((k : Int) + 1), .int .i64 raw, .int .i64 0, .int .i64 (-1), .int .i64 9223372036854775807, .int .i64 (-9223372036854775808)] 3))) h3
        cases hbo2
        generalize ms.getD k 0 = z2 at *
        have r3 := withinI_range z2 70 (by omega)
        have WC := Lib.hid (fun w => within9_any z2 70 w (by omega) (by omega) hw2.1 hw2.2)
        generalize withinI z2 70 = y at *
        obtain ⟨l9, hl9⟩ : ∃ l9, ([1, 2, 6, 60, 61, (k : Int), (k : Int) + 1, raw, 0, -1, 9223372036854775807, -9223372036854775808] : List Int) ++ [y] = l9 := ⟨_, rfl⟩
        have hN : l9.length = 13 := by rw [← hl9]; rfl
        have HV : Hid (∀ x, x ∈ l9 → wf64 x) := Lib.hid (fun x hx => by
          rw [← hl9] at hx
          rcases List.mem_append.1 hx with hx | hx
          · exact HV0 x hx
          · rw [List.mem_singleton] at hx
            exact ⟨by omega, by omega⟩)
        have HL9 := Lib.hid hl9
        have k1 : (0 : Int) ≤ (k : Int) := by omega
        have k2 : (k : Int) < (ms.length : Int) := by omega
        clear h3 HV0 hw2 r3 hl9
        go_wp2_with fail
        refine (WC.out _).mono ?_
        rintro e wx ⟨rfl, rfl⟩
        clear WC hcz2
        go_wp2_with (at_builtin; refine Fr.wpList_append_off _ rfl _ _ 22 rfl 0 3 i0 (.int .i64 0) 1 8 Try.underlying22 HII.out HZ0.out HZ1.out HZ2.out rfl (by decide) _ _ _ rfl (World.offRow.later (hold_reads8 HA.out) (Grow.G.alloc (Grow.G.refl _) _)) (some ⟨_, 0, none⟩) 1 1 [.int .i64 y] rfl rfl (.inr ⟨_, rfl, news_new _ _ _ _ (by simp)⟩) (one1 rfl) (show 12 + 1 ≤ maxLen by unfold maxLen; omega) (show (12 + 1) * 8 ≤ 140737488355328 by omega) (Nat.zero_le _) ?_; intro v' w' hown hfr; obtain ⟨a9, c9, rfl⟩ := hown.shape; have HB := Lib.hid (hold_app8 (x := y) (HA.out.grow ((FP.out _ _).sep ((IntO.foot _ _).sep (FR.out _ _))) (Grow.G.alloc (Grow.G.refl _) _)) (FP.out _ _) (FR.out _ _) HL9.out.symm hown hfr); clear hown hfr)
        replace H := HB
        clear HA HB HL9
        replace H := Lib.hid (H.out.map fun F q => q.under fun F q => q.rot)
        go_loopw [12] (fun i W2 => ∃ (m : Nat), m ≤ 13 ∧ i = .int .i64 (m : Int) ∧ Hid (Hold w W2 [] (Sep (GgP g s2) (Sep (RgP q s2) (Sep (IntO (.slice a9 13 c9) l9) Emp))))) (fun i _ => 13 - (intOf i).toNat)
        case atStart => exact ⟨0, by omega, rfl, H⟩
        case round =>
          clear H
          obtain ⟨m, hm, rfl, H⟩ := hrel
          by_cases h5 : m < 13
          · have d5 : decide ((m : Int) < 13) = true := decide_eq_true (by omega)
            have hml : m < l9.length := by omega
            obtain ⟨y, hy⟩ : ∃ y, l9[m]? = some y := ⟨_, List.getElem?_eq_getElem hml⟩
            have yw := HV.out y (List.mem_of_getElem? hy)
            have RD := hold_reads3 (by rw [hN]; exact H.out)
            obtain ⟨g2, o2, ha9, hcl⟩ := RD.resolve_left (fun e => by rw [e] at hml; simp at hml)
            cases ha9
            have cy := hcl m y hy
            have k1 : (0 : Int) ≤ (m : Int) := by omega
            have k2 : (m : Int) < 13 := by omega
            have hk2 : IntKind.i64.wrap ((m : Int) + 1) = (m : Int) + 1 := IntWalk.i64_in _ ⟨by omega, by omega⟩
            clear hcl RD
            go_wp2_with fail
            refine (hold_glast H.out ((RgP.foot _ _).sep ((IntO.foot _ _).sep Emp.foot)) y yw).mono ?_
            rintro e w7 ⟨rfl, hst⟩
            have RD := hold_reads3 (by rw [hN]; exact hst)
            obtain ⟨g3, o3, ha9, hcl⟩ := RD.resolve_left (fun e => by rw [e] at hml; simp at hml)
            cases ha9
            have cy2 := hcl m y hy
            replace H := Lib.hid hst
            clear hst hcl RD cy
            go_wp2_with fail
            refine (hold_rglast H.out y yw).mono ?_
            rintro e ws1 ⟨rfl, hst⟩
            replace H := Lib.hid hst
            clear hst
            go_wp2_with fail
            go_roundw
            case rel => exact ⟨m + 1, by omega, by go_num, H⟩
            case measure => simp [intOf]; omega
          · obtain rfl : m = 13 := by omega
            have d5 : decide ((13 : Int) < 13) = false := rfl
            go_wp2_with fail
            refine (hold_gidle H.out ((RgP.foot _ _).sep ((IntO.foot _ _).sep Emp.foot))).mono ?_
            rintro e ws2 ⟨rfl, hst⟩
            replace H := Lib.hid hst
            clear hst
            go_wp2_with fail
            refine (hold_rgidle H.out (FP.out _ _) ((IntO.foot _ _).sep Emp.foot)).mono ?_
            rintro e ws3 ⟨rfl, hst⟩
            replace H := Lib.hid hst
            clear hst
            go_wp2_with fail
            go_roundw
            case rel => exact ⟨k + 1, s2, by omega, by go_num, by omega, Lib.hid ((H.out.map fun F q => q.under fun F q => q.rot).weak fun F q => q.weakR fun F q => q.dropL)⟩
            case measure => simp [intOf]; omega
      · have d3 : decide ((k : Int) < (ms.length : Int)) = false := decide_eq_false (by omega)
        replace H := HA
        obtain ⟨l9, hl9⟩ : ∃ l9, ([1, 2, 6, 60, 61, (k : Int), (k : Int) + 1, raw, 0, -1, 9223372036854775807, -9223372036854775808] : List Int) = l9 := ⟨_, rfl⟩
        have hN : l9.length = 12 := by rw [← hl9]; rfl
        have HV : Hid (∀ x, x ∈ l9 → wf64 x) := Lib.hid (hl9 ▸ HV0)
        have H2 := H.out
        rw [hl9] at H2
        replace H := Lib.hid H2
        clear HV0 hl9 HA H2
        go_wp2_with fail
        generalize (some ⟨w6.heap.size, 0, none⟩ : Option Addr) = a9 at *
        replace H := Lib.hid (H.out.map fun F q => q.under fun F q => q.rot)
        go_loopw [12] (fun i W2 => ∃ (m : Nat), m ≤ 12 ∧ i = .int .i64 (m : Int) ∧ Hid (Hold w W2 [] (Sep (GgP g s2) (Sep (RgP q s2) (Sep (IntO (.slice a9 12 12) l9) Emp))))) (fun i _ => 12 - (intOf i).toNat)
        case atStart => exact ⟨0, by omega, rfl, H⟩
        case round =>
          clear H
          obtain ⟨m, hm, rfl, H⟩ := hrel
          by_cases h5 : m < 12
          · have d5 : decide ((m : Int) < 12) = true := decide_eq_true (by omega)
            have hml : m < l9.length := by omega
            obtain ⟨y, hy⟩ : ∃ y, l9[m]? = some y := ⟨_, List.getElem?_eq_getElem hml⟩
            have yw := HV.out y (List.mem_of_getElem? hy)
            have RD := hold_reads3 (by rw [hN]; exact H.out)
            obtain ⟨g2, o2, ha9, hcl⟩ := RD.resolve_left (fun e => by rw [e] at hml; simp at hml)
            cases ha9
            have cy := hcl m y hy
            have k1 : (0 : Int) ≤ (m : Int) := by omega
            have k2 : (m : Int) < 12 := by omega
            have hk2 : IntKind.i64.wrap ((m : Int) + 1) = (m : Int) + 1 := IntWalk.i64_in _ ⟨by omega, by omega⟩
            clear hcl RD
            go_wp2_with fail
            refine (hold_glast H.out ((RgP.foot _ _).sep ((IntO.foot _ _).sep Emp.foot)) y yw).mono ?_
            rintro e w7 ⟨rfl, hst⟩
            have RD := hold_reads3 (by rw [hN]; exact hst)
            obtain ⟨g3, o3, ha9, hcl⟩ := RD.resolve_left (fun e => by rw [e] at hml; simp at hml)
            cases ha9
            have cy2 := hcl m y hy
            replace H := Lib.hid hst
            clear hst hcl RD cy
            go_wp2_with fail
            refine (hold_rglast H.out y yw).mono ?_
            rintro e ws4 ⟨rfl, hst⟩
            replace H := Lib.hid hst
            clear hst
            go_wp2_with fail
            go_roundw
            case rel => exact ⟨m + 1, by omega, by go_num, H⟩
            case measure => simp [intOf]; omega
          · obtain rfl : m = 12 := by omega
            have d5 : decide ((12 : Int) < 12) = false := rfl
            go_wp2_with fail
            refine (hold_gidle H.out ((RgP.foot _ _).sep ((IntO.foot _ _).sep Emp.foot))).mono ?_
            rintro e ws5 ⟨rfl, hst⟩
            replace H := Lib.hid hst
            clear hst
            go_wp2_with fail
            refine (hold_rgidle H.out (FP.out _ _) ((IntO.foot _ _).sep Emp.foot)).mono ?_
            rintro e ws6 ⟨rfl, hst⟩
            replace H := Lib.hid hst
            clear hst
            go_wp2_with fail
            go_roundw
            case rel => exact ⟨k + 1, s2, by omega, by go_num, by omega, Lib.hid ((H.out.map fun F q => q.under fun F q => q.rot).weak fun F q => q.weakR fun F q => q.dropL)⟩
            case measure => simp [intOf]; omega
end Go.Proofs.Ytpfjpeddplkbgaa


/- The walk of WaitRoom. -/
import Derived.Test.YtlnffdkaleapbaaZ62
namespace Go.Proofs.Ytlnffdkaleapbaa
set_option maxRecDepth 100000
set_option linter.unusedVariables false
set_option linter.unusedSimpArgs false
set_option linter.unnecessarySimpa false
open Go.RowKit Go.Args

set_option maxHeartbeats 32000000 in
theorem walkWaitRoom (w : World) (c : Int) (hc : wf64 c) (v : Value) (zs : List Int) (hz : IntSlice w v zs) :
    Calls Try.prog 5 #[.int .i64 c, v] w fun e w' => e = .returned (.bool true) ∧ Below w.heap.size w w' := by
  have KN := Lib.hid (fun w => known8_any w)
  have FE := Lib.hid Emp.foot
  have FP := Lib.hid LnP.foot
  have FI := Lib.hid (fun u l => ((IntO.foot u l).sep Emp.foot))
  obtain ⟨va, vc, rfl, hat⟩ := hz.open
  have HZ := Lib.hid hat
  clear hat hz
  have r1 := withinI_range c 9 (by omega)
  have WI := Lib.hid (fun w => within8_any c 9 w (by omega) (by omega) hc.1 hc.2)
  generalize withinI c 9 = K at *
  obtain ⟨i0, hi, hz0, hz1, hz2⟩ := info_parts infoInt8
  have HII := Lib.hid hi; have HZ0 := Lib.hid hz0; have HZ1 := Lib.hid hz1; have HZ2 := Lib.hid hz2
  clear hc hi hz0 hz1 hz2
  go_enter Try.func5, Try.ntmps5
  go_wp2_with fail
  refine (KN.out _).mono ?_
  rintro e w1 ⟨rfl, hg⟩
  have H := Lib.hid ((Hold.nil w).grow Emp.foot hg)
  clear hg
  go_wp2_with fail
  refine (WI.out _).mono ?_
  rintro e w2 ⟨rfl, rfl⟩
  go_wp2_with fail
  refine (hold_lnew H.out Emp.foot K (by omega)).mono ?_
  rintro e w3 ⟨g, rfl, hh⟩
  replace H := Lib.hid (hh.beside2 (LnP.foot _ _) Emp.foot (Grow.G.refl _) (IntO.nil w3) (fun k h => h.elim))
  clear hh WI
  go_wp2_with fail
  go_loopw [7, 8] (fun v i wr => ∃ (k : Nat) (s : Ln) (a : Option Addr) (N c : Nat), k ≤ 60 ∧ N ≤ 8 ∧ v = .slice a N c ∧ i = .int .i64 (k : Int) ∧ Hid (N = s.ids.length ∧ s.c = K ∧ Hold w wr [] (Sep (LnP g s) (Sep (IntO (.slice a N c) s.ids) Emp)))) (fun _ i _ => 60 - (intOf i).toNat)
  case atStart => exact ⟨0, Ln.new K, none, 0, 0, by omega, by omega, rfl, rfl, Lib.hid ⟨rfl, rfl, H.out⟩⟩
  case round =>
    clear H
    obtain ⟨k, s, a, N, c, hk, hN8, rfl, rfl, HH⟩ := hrel
    by_cases h1 : k < zs.length ∧ k < 60
    rotate_left
    · have d12 : ¬ k < zs.length ∨ (k < zs.length ∧ ¬ k < 60) := by omega
      clear h1
      rcases d12 with c1 | ⟨c1, c2⟩
      case' inl => have d1 : decide ((k : Int) < (zs.length : Int)) = false := decide_eq_false (by omega)
      case' inr =>
        have d1 : decide ((k : Int) < (zs.length : Int)) = true := decide_eq_true (by omega)
        have d2 : decide ((k : Int) < 60) = false := decide_eq_false (by omega)
      all_goals
        go_wp2_with fail
        go_ret
        exact ⟨rfl, HH.out.2.2.below⟩
    obtain ⟨h1, h2⟩ := h1
    have d1 : decide ((k : Int) < (zs.length : Int)) = true := decide_eq_true (by omega)
    have d2 : decide ((k : Int) < 60) = true := decide_eq_true (by omega)
    obtain ⟨hN, hsc, hH⟩ := HH.out
    have H := Lib.hid hH
    have HN := Lib.hid hN
    have HC := Lib.hid hsc
    obtain ⟨b, off, rfl, hcz, hw⟩ := HZ.out.at hH.below h1
    have HZG := Lib.hid (fun w' (g : Grow.G w w') => HZ.out.at g h1)
    have r5 := withinI_range (zs.getD k 0) 12 (by omega)
    have WA := Lib.hid (fun w => within8_any (zs.getD k 0) 12 w (by omega) (by omega) hw.1 hw.2)
    have hz3 := tdiv_wf hw 12 (by omega)
    have hz1 := wrap_wf hz3
    have WB := Lib.hid (fun w => within8_any ((zs.getD k 0).tdiv 12) 3 w (by omega) (by omega) hz3.1 hz3.2)
    generalize zs.getD k 0 = z at *
    obtain ⟨x, hx⟩ : ∃ x : Int, 1 + withinI z 12 = x := ⟨_, rfl⟩
    have hwx : IntKind.i64.wrap (1 + withinI z 12) = x := by rw [hx]; exact IntWalk.i64_in _ ⟨by omega, by omega⟩
    have hk1 : IntKind.i64.wrap ((k : Int) + 1) = (k : Int) + 1 := IntWalk.i64_in _ ⟨by omega, by omega⟩
    have RD := Lib.hid (show IntR wr a s.ids by have h := hold_reads8 hH; rw [hN] at h; exact off_intR h)
    clear hw r5 hx hN hsc hH HH hz3
    generalize withinI z 12 = ya at *
    generalize withinI (z.tdiv 12) 3 = yb at *
    go_wp2_with fail
    refine (WA.out _).mono ?_
    rintro e wx ⟨rfl, rfl⟩
    go_wp2_with fail
    go_loopw [10, 11] (fun h j wx => wx = wr ∧ ∃ (m : Nat), m ≤ N ∧ j = .int .i64 (m : Int) ∧ h = .bool (decide (x ∈ s.ids.take m))) (fun _ j _ => N - (intOf j).toNat)
    case atStart => exact ⟨rfl, 0, by omega, rfl, by simp⟩
    case round =>
      obtain ⟨rfl, m, hm, rfl, rfl⟩ := hrel
      by_cases hlt : m < N
      · have d3 : decide ((m : Int) < (N : Int)) = true := decide_eq_true (by omega)
        have hk2 : IntKind.i64.wrap ((m : Int) + 1) = (m : Int) + 1 := IntWalk.i64_in _ ⟨by omega, by omega⟩
        have hml : m < s.ids.length := by have := HN.out; omega
        obtain ⟨y, hy⟩ : ∃ y, s.ids[m]? = some y := ⟨_, List.getElem?_eq_getElem hml⟩
        obtain ⟨g2, off2, rfl, hcl⟩ := RD.out.resolve_left (fun e => by rw [e] at hml; simp at hml)
        have cy := hcl m y hy
        have k1 : (0 : Int) ≤ (m : Int) := by omega
        have k2 : (m : Int) < (N : Int) := by omega
        have TS : Hid (x ∈ s.ids.take (m + 1) ↔ x ∈ s.ids.take m ∨ y = x) := Lib.hid (by
          rw [List.take_add_one, hy, List.mem_append]
          constructor
          · rintro (h | h)
            · exact .inl h
            · exact .inr (by simpa using (by simpa using h : x = y).symm)
          · rintro (h | h)
            · exact .inl h
            · exact .inr (by simp [h]))
        clear hcl hy
        by_cases hin : x ∈ s.ids.take m
        · have e1 : decide (x ∈ s.ids.take m) = true := decide_eq_true hin
          have e2 : decide (x ∈ s.ids.take (m + 1)) = true := decide_eq_true (TS.out.2 (.inl hin))
          have E2 := Lib.hid e2
          rw [e1]
          clear e1 e2 hin
          go_wp2_with fail
          go_roundw
          case rel => exact ⟨trivial, m + 1, by omega, by go_num, by rw [E2.out]⟩
          case measure => simp [intOf]; omega
        · have e1 : decide (x ∈ s.ids.take m) = false := decide_eq_false hin
          rw [e1]
          by_cases hyx : y = x
          · have e2 : decide (x ∈ s.ids.take (m + 1)) = true := decide_eq_true (TS.out.2 (.inr hyx))
            have E2 := Lib.hid e2
            have d4 : (y == x) = true := by simpa using hyx
            clear e1 e2 hin hyx
            go_wp2_with fail
            go_roundw
            case rel => exact ⟨trivial, m + 1, by omega, by go_num, by rw [E2.out]⟩
            case measure => simp [intOf]; omega
          · have e2 : decide (x ∈ s.ids.take (m + 1)) = false := decide_eq_false (fun q => (TS.out.1 q).elim hin hyx)
            have E2 := Lib.hid e2
            have d4 : (y == x) = false := by simpa using hyx
            clear e1 e2 hin hyx
            go_wp2_with fail
            go_roundw
            case rel => exact ⟨trivial, m + 1, by omega, by go_num, by rw [E2.out]⟩
            case measure => simp [intOf]; omega
      · obtain rfl : m = N := by omega
        have d3 : decide ((m : Int) < (m : Int)) = false := decide_eq_false (by omega)
        have TA : s.ids.take m = s.ids := List.take_of_length_le (by have := HN.out; omega)
        rw [TA]
        have HLN : Hid (s.l.length = m) := Lib.hid (by have := HN.out; rw [Ln.ids_len] at this; exact this.symm)
        clear hlt TA
        by_cases hin : x ∈ s.ids
        case' pos =>
          have e1 : decide (x ∈ s.ids) = true := decide_eq_true hin
          rw [e1]
          have P1 := Lib.hid (Ln.push_no hin)
          have P2 := Lib.hid (Ln.aft_same (u := 5) (show s.push x ≠ 0 by rw [Ln.push_no hin]; decide))
          clear e1 hin
          go_wp2_with fail
          refine (hold_lpush H.out (FI.out _ _) x 5 P1.out P2.out).mono ?_
          rintro e w5 ⟨rfl, hst⟩
          have HS : Hid (∃ (S : Ln), m = S.ids.length ∧ S.c = K ∧ Hold w w5 [] (Sep (LnP g S) (Sep (IntO (.slice a m c) S.ids) Emp))) := Lib.hid ⟨s, HN.out, HC.out, hst⟩
          have hm8 := hN8
          clear hst H HN HC RD P1 P2 HLN hN8
          generalize m = MM at *
          generalize a = a9 at *
          generalize c = c9 at *
          go_wp2_with fail
        case' neg =>
          have e1 : decide (x ∈ s.ids) = false := decide_eq_false hin
          rw [e1]
          by_cases hf : K ≤ (m : Int)
          case' pos =>
            have hpf := Ln.push_full hin (show s.c ≤ s.l.length by rw [HC.out, HLN.out]; exact hf)
            have P1 := Lib.hid hpf
            have P2 := Lib.hid (Ln.aft_same (u := 5) (show s.push x ≠ 0 by rw [hpf]; decide))
            have d5 : decide (K ≤ (m : Int)) = true := decide_eq_true hf
            clear e1 hin hpf
            go_wp2_with fail
            refine (hold_lpush H.out (FI.out _ _) x 5 P1.out P2.out).mono ?_
            rintro e w5 ⟨rfl, hst⟩
            have HS : Hid (∃ (S : Ln), m = S.ids.length ∧ S.c = K ∧ Hold w w5 [] (Sep (LnP g S) (Sep (IntO (.slice a m c) S.ids) Emp))) := Lib.hid ⟨s, HN.out, HC.out, hst⟩
            have hm8 := hN8
            clear hst H HN HC RD P1 P2 HLN hN8 hf d5
            generalize m = MM at *
            generalize a = a9 at *
            generalize c = c9 at *
            go_wp2_with fail
          case' neg =>
            have hpf := Ln.push_yes hin (show (s.l.length : Int) < s.c by rw [HC.out, HLN.out]; omega)
            have P1 := Lib.hid hpf
            have P2 := Lib.hid (Ln.aft_one (u := 5) hpf)
            have d5 : decide (K ≤ (m : Int)) = false := decide_eq_false hf
            have hm7 : m + 1 ≤ 8 := by omega
            have RO := Lib.hid (show wr.offRow 0 3 1 (.slice a m c) m (intsV s.ids) by have h := hold_reads8 H.out; rw [← HN.out] at h; exact h)
            clear e1 hin hpf
            go_wp2_with (at_builtin; refine Fr.wpList_append_off _ rfl _ _ 22 rfl 0 3 i0 (.int .i64 0) 1 8 Try.underlying22 HII.out HZ0.out HZ1.out HZ2.out rfl (by decide) _ _ _ rfl (World.offRow.later RO.out (Grow.G.alloc (Grow.G.refl _) _)) (some ⟨wr.heap.size, 0, none⟩) 1 1 [.int .i64 x] rfl rfl (.inr ⟨_, rfl, news_new _ _ _ _ rfl⟩) (one1 rfl) (by unfold maxLen; omega) (by omega) (Nat.zero_le _) ?_; intro v' w' hown hfr; obtain ⟨a9, c9, rfl⟩ := hown.shape; have HA := Lib.hid (hold_app8 (x := x) (H.out.grow ((LnP.foot _ _).sep (FI.out _ _)) (Grow.G.alloc (Grow.G.refl _) _)) (LnP.foot _ _) Emp.foot rfl (by rw [← HN.out]; exact hown) hfr); clear hown hfr)
            refine (hold_lpush HA.out (FI.out _ _) x 5 P1.out P2.out).mono ?_
            rintro e w5 ⟨rfl, hst⟩
            have HS : Hid (∃ (S : Ln), m + 1 = S.ids.length ∧ S.c = K ∧ Hold w w5 [] (Sep (LnP g S) (Sep (IntO (.slice a9 (m + 1) c9) S.ids) Emp))) := Lib.hid ⟨⟨s.c, s.l ++ [(x, 5)]⟩, by rw [Ln.ids_len]; show m + 1 = (s.l ++ [(x, 5)]).length; rw [List.length_append, HLN.out]; rfl, HC.out, by
              have e : (⟨s.c, s.l ++ [(x, 5)]⟩ : Ln).ids = s.ids ++ [x] := by unfold Ln.ids; rw [List.map_append]; rfl
              rw [e]; exact hst⟩
            have hm8 := hm7
            clear hst H HN HC RD P1 P2 HLN hN8 hf d5 RO HA
            generalize hMM : m + 1 = MM at *
            clear hm hMM
            go_wp2_with fail
        all_goals
          obtain ⟨S, hSN, hSC, hst⟩ := HS.out
          have H := Lib.hid hst
          have SN := Lib.hid hSN
          have SC := Lib.hid hSC
          have hls : S.ids.length ≤ 1000 := by omega
          clear hst HS hSN hSC
          refine (hold_lall H.out (FI.out _ _) rfl).mono ?_
          rintro e w7 ⟨u3, rfl, ho3, hst⟩
          have O3 := Lib.hid ho3
          replace H := Lib.hid hst
          clear hst ho3
          go_wp2_with fail
          refine (ints8_own (by omega) O3.out (hold_reads8 H.out)).mono ?_
          rintro e w9 ⟨rfl, hg⟩
          replace H := Lib.hid (H.out.grow ((LnP.foot _ _).sep (FI.out _ _)) hg)
          obtain ⟨b', off', hbo, hcz, _⟩ := HZG.out _ H.out.below
          cases hbo
          clear hg O3 hls
          go_wp2_with fail
          refine (WB.out _).mono ?_
          rintro e w10 ⟨rfl, rfl⟩
          by_cases hy0 : yb = 0
          rotate_left
          · have dy : (yb == 0) = false := by simpa using hy0
            clear hy0
            go_wp2_with fail
            go_roundw
            case rel => exact ⟨k + 1, S, a9, MM, c9, by omega, hm8, rfl, by go_num, Lib.hid ⟨SN.out, SC.out, H.out⟩⟩
            case measure => simp [intOf]; omega
          have dy : (yb == 0) = true := by simpa using hy0
          clear hy0
          cases hMM : MM with
          | zero =>
            subst hMM
            go_wp2_with fail
            go_roundw
            case rel => exact ⟨k + 1, S, a9, 0, c9, by omega, hm8, rfl, by go_num, Lib.hid ⟨SN.out, SC.out, H.out⟩⟩
            case measure => simp [intOf]; omega
          | succ R =>
            subst hMM
            obtain ⟨y, r, hyr⟩ : ∃ y r, S.ids = y :: r := by
              cases h : S.ids with
              | nil => have := SN.out; rw [h] at this; simp at this
              | cons y r => exact ⟨y, r, rfl⟩
            have Q1 : Hid (S.pop = y) := Lib.hid (by unfold Ln.pop; rw [hyr]; rfl)
            have Q2 : Hid (S.popB = true) := Lib.hid (by
              unfold Ln.popB
              cases h : S.l with
              | nil => unfold Ln.ids at hyr; rw [h] at hyr; cases hyr
              | cons p q => rfl)
            have Q3 : Hid (S.aftPop.ids = r) := Lib.hid (by
              unfold Ln.ids Ln.aftPop
              dsimp only
              rw [List.map_drop]
              show S.ids.drop 1 = r
              rw [hyr]; rfl)
            have HY := Lib.hid hyr
            have k9 : (0 : Int) < (R : Int) + 1 := by omega
            clear hyr
            go_wp2_with fail
            refine (hold_lpop H.out (FI.out _ _) Q1.out Q2.out rfl).mono ?_
            rintro e w11 ⟨rfl, hst⟩
            replace H := Lib.hid hst
            clear hst
            obtain ⟨q, off2, c2, hv, hnc, _, hql, hcl⟩ := (hold_reads8 H.out).at.resolve_left (fun e => by have := e.2.2; rw [HY.out] at this; cases this)
            have hnn : S.ids.length = R + 1 := SN.out.symm
            injection hv with v1 v2 v3
            subst v1 v3
            have cy := hcl 0 (.int .i64 y) (by rw [HY.out]; rfl)
            rw [Nat.add_zero] at cy
            have hnc2 : R + 1 ≤ c9 := by omega
            have hR : Hid (R = r.length) := Lib.hid (by rw [HY.out] at hnn; simpa using hnn.symm)
            clear hcl hnc hnn v2
            have HT := Lib.hid (fun off' (ho : off' = off2 + 1 ∨ (c9 = 1 ∧ off' ≤ off2)) => hold_tail8 H.out SN.out (by omega) ho)
            by_cases h1 : c9 = 1
            · have H1 := Lib.hid (HT.out off2 (.inr ⟨h1, Nat.le_refl _⟩))
              obtain rfl : R = 0 := by omega
              subst h1
              clear HT
              go_wp2_with fail
              go_roundw
              case rel => exact ⟨k + 1, S.aftPop, some ⟨q, off2, none⟩, 0, 0, by omega, by omega, rfl, by go_num, Lib.hid ⟨by rw [Q3.out]; exact hR.out, SC.out, by
                have h := H1.out
                rw [HY.out] at h
                rw [Q3.out]; exact h⟩⟩
              case measure => simp [intOf]; omega
            · have H1 := Lib.hid (HT.out (off2 + 1) (.inl rfl))
              clear HT
              go_wp2_with fail
              go_roundw
              case rel => exact ⟨k + 1, S.aftPop, some ⟨q, off2 + 1, none⟩, R, c9 - 1, by omega, by omega, rfl, by go_num, Lib.hid ⟨by rw [Q3.out]; exact hR.out, SC.out, by
                have h := H1.out
                rw [HY.out] at h
                rw [Q3.out]; exact h⟩⟩
              case measure => simp [intOf]; omega
end Go.Proofs.Ytlnffdkaleapbaa

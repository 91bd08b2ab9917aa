
/- The walk of WaitOrder. -/
import Derived.Test.YtlnffdkaleapbaaZ62
namespace Go.Proofs.Ytlnffdkaleapbaa
set_option maxRecDepth 100000
set_option linter.unusedVariables false
set_option linter.unusedSimpArgs false
set_option linter.unnecessarySimpa false
open Go.RowKit Go.Args

def fsts (l : List (Int × Int)) : List Int := l.map Prod.fst
theorem ord_push {pre : List (Int × Int)} {k : Nat} (hl : pre.length = k) (hk : k < 8) (h : ∀ p, p ∈ pre → 100 - (k : Int) < p.1) (u : Int) :
    (⟨8, pre⟩ : Ln).push (100 - (k : Int)) = 0 ∧ (⟨8, pre⟩ : Ln).aftPush (100 - (k : Int)) u = ⟨8, pre ++ [(100 - (k : Int), u)]⟩ := by
  have e : (⟨8, pre⟩ : Ln).push (100 - (k : Int)) = 0 := Ln.push_yes (fun q => by
    obtain ⟨p, hp, hq⟩ := List.mem_map.1 q
    have := h p hp
    omega) (by show (pre.length : Int) < 8; omega)
  exact ⟨e, Ln.aft_one e⟩
set_option maxHeartbeats 32000000 in
theorem walkWaitOrder (w : World) (v : Value) (zs : List Int) (hz : IntSlice w v zs) (c : Int) (hc : wf64 c) :
    Calls Try.prog 4 #[v, .int .i64 c] w fun e w' => e = .returned (.bool true) ∧ Below w.heap.size w w' := by
  have KN := Lib.hid (fun w => known8_any w)
  have FE := Lib.hid Emp.foot
  have FP := Lib.hid LnP.foot
  have FI := Lib.hid (fun u l => (IntO.foot u l))
  have FT := Lib.hid (fun u l u2 l2 => (IntO.foot u l).sep ((IntO.foot u2 l2).sep Emp.foot))
  have FO := Lib.hid (fun u l => (IntO.foot u l).sep Emp.foot)
  obtain ⟨va, vc, rfl, hat⟩ := hz.open
  have HZ := Lib.hid hat
  clear hat hz
  have WI := Lib.hid (fun w => within8_any c 20 w (by omega) (by omega) hc.1 hc.2)
  generalize withinI c 20 = n at *
  obtain ⟨i0, hi, hz0, hz1, hz2⟩ := info_parts infoInt8
  have HII := Lib.hid hi; have HZ0 := Lib.hid hz0; have HZ1 := Lib.hid hz1; have HZ2 := Lib.hid hz2
  clear hc hi hz0 hz1 hz2
  go_enter Try.func4, Try.ntmps4
  go_wp2_with fail
  refine (KN.out _).mono ?_
  rintro e w1 ⟨rfl, hg⟩
  have H := Lib.hid ((Hold.nil w).grow Emp.foot hg)
  clear hg
  go_wp2_with fail
  refine (hold_lnew H.out Emp.foot 8 (by omega)).mono ?_
  rintro e w3 ⟨g, rfl, hh⟩
  replace H := Lib.hid ((hh.beside2 (LnP.foot _ _) Emp.foot (Grow.G.refl _) (IntO.nil w3) (fun k h => h.elim)).beside2 (LnP.foot _ _) ((IntO.foot _ _).sep Emp.foot) (Grow.G.refl _) (IntO.nil w3) (fun k h => h.elim))
  clear hh
  go_wp2_with fail
  refine (WI.out _).mono ?_
  rintro e w2 ⟨rfl, rfl⟩
  clear WI
  go_wp2_with fail
  go_loopw [7, 8, 9] (fun v1 v2 i wr => ∃ (k : Nat) (pre : List (Int × Int)) (a1 a2 : Option Addr) (N1 c1 N2 c2 : Nat), k ≤ 8 ∧ N1 ≤ k ∧ N2 ≤ k ∧ v1 = .slice a1 N1 c1 ∧ v2 = .slice a2 N2 c2 ∧ i = .int .i64 (k : Int) ∧ Hid (pre.length = k ∧ (∀ p, p ∈ pre → 100 - (k : Int) < p.1) ∧ N1 = (fsts (Ln.overL pre n)).length ∧ N2 = (fsts (Ln.leftL pre n)).length ∧ Hold w wr [] (Sep (LnP g ⟨8, pre⟩) (Sep (IntO (.slice a1 N1 c1) (fsts (Ln.overL pre n))) (Sep (IntO (.slice a2 N2 c2) (fsts (Ln.leftL pre n))) Emp))))) (fun _ _ i _ => 8 - (intOf i).toNat)
  case atStart => exact ⟨0, [], none, none, 0, 0, 0, 0, by omega, by omega, by omega, rfl, rfl, rfl, Lib.hid ⟨rfl, fun p h => (by cases h), rfl, rfl, H.out⟩⟩
  case round =>
    clear H
    obtain ⟨k, pre, a1, a2, N1, c1, N2, c2, hk, hN1k, hN2k, rfl, rfl, rfl, HH⟩ := hrel
    by_cases h1 : k < zs.length ∧ k < 8
    · obtain ⟨h1, h2⟩ := h1
      have d1 : decide ((k : Int) < (zs.length : Int)) = true := decide_eq_true (by omega)
      have d2 : decide ((k : Int) < 8) = true := decide_eq_true (by omega)
      obtain ⟨hpl, hpm, hN1, hN2, hH⟩ := HH.out
      obtain ⟨b, off, rfl, hcz, hw⟩ := HZ.out.at hH.below h1
      have WA := Lib.hid (fun w => within8_any (zs.getD k 0) 20 w (by omega) (by omega) hw.1 hw.2)
      generalize zs.getD k 0 = z at *
      have hk1 : IntKind.i64.wrap ((k : Int) + 1) = (k : Int) + 1 := IntWalk.i64_in _ ⟨by omega, by omega⟩
      have hk2 : IntKind.i64.wrap (100 - (k : Int)) = 100 - (k : Int) := IntWalk.i64_in _ ⟨by omega, by omega⟩
      clear hw
      generalize withinI z 20 = u at *
      have PP := Lib.hid (ord_push hpl h2 hpm u)
      have OA := over_app pre (100 - (k : Int), u) n
      have LA := left_app pre (100 - (k : Int), u) n
      have HL : Hid ((pre ++ [(100 - (k : Int), u)]).length = k + 1 ∧ ∀ p, p ∈ pre ++ [(100 - (k : Int), u)] → 100 - ((k + 1 : Nat) : Int) < p.1) := Lib.hid ⟨by rw [List.length_append, hpl]; rfl, fun p hp => by
        rcases List.mem_append.1 hp with hp | hp
        · have := hpm p hp; omega
        · rw [List.mem_singleton] at hp; subst hp; dsimp only; omega⟩
      have H := Lib.hid hH
      have E1 := Lib.hid hN1
      have E2 := Lib.hid hN2
      have R1 := Lib.hid (hold_reads8 hH)
      have R2 := Lib.hid (hold_reads8 (hH.map fun F q => q.under fun F q => q.rot))
      clear hpl hpm hN1 hN2 hH HH
      go_wp2_with fail
      refine (WA.out _).mono ?_
      rintro e wx ⟨rfl, rfl⟩
      go_wp2_with fail
      refine (hold_lpush H.out (FT.out _ _ _ _) (100 - (k : Int)) u PP.out.1 PP.out.2).mono ?_
      rintro e w5 ⟨rfl, hst⟩
      have R1 := hold_reads8 hst
      have R2 := hold_reads8 (hst.map fun F q => q.under fun F q => q.rot)
      rw [← E1.out] at R1
      rw [← E2.out] at R2
      replace R1 := Lib.hid R1
      replace R2 := Lib.hid R2
      replace H := Lib.hid hst
      clear hst
      by_cases hle : u ≤ n
      · have d0 : decide (u ≤ n) = true := decide_eq_true hle
        rw [if_pos hle] at OA LA
        have OA := Lib.hid OA
        have LA := Lib.hid LA
        clear hle
        go_wp2_with (at_builtin; refine Fr.wpList_append_off _ rfl _ _ 22 rfl 0 3 i0 (.int .i64 0) 1 8 Try.underlying22 HII.out HZ0.out HZ1.out HZ2.out rfl (by decide) _ _ _ rfl (World.offRow.later R1.out (Grow.G.alloc (Grow.G.refl _) _)) (some ⟨w5.heap.size, 0, none⟩) 1 1 [.int .i64 (100 - (k : Int))] rfl rfl (.inr ⟨_, rfl, news_new _ _ _ _ rfl⟩) (one1 rfl) (by unfold maxLen; omega) (by omega) (Nat.zero_le _) ?_; intro v' w' hown hfr; obtain ⟨a9, c9, rfl⟩ := hown.shape; have HA := Lib.hid (hold_app8 (x := 100 - (k : Int)) (H.out.grow ((LnP.foot _ _).sep (FT.out _ _ _ _)) (Grow.G.alloc (Grow.G.refl _) _)) (LnP.foot _ _) (FO.out _ _) rfl (by rw [← E1.out]; exact hown) hfr); clear hown hfr)
        go_roundw
        case rel => exact ⟨k + 1, pre ++ [(100 - (k : Int), u)], a9, a2, N1 + 1, c9, N2, c2, by omega, by omega, by omega, rfl, rfl, by go_num, Lib.hid ⟨HL.out.1, HL.out.2, by rw [OA.out]; unfold fsts; rw [List.map_append, List.length_append, E1.out]; rfl, by rw [LA.out]; exact E2.out, by rw [OA.out, LA.out]; unfold fsts; rw [List.map_append]; exact HA.out⟩⟩
        case measure => simp [intOf]; omega
      · have d0 : decide (u ≤ n) = false := decide_eq_false hle
        rw [if_neg hle] at OA LA
        have OA := Lib.hid OA
        have LA := Lib.hid LA
        have H' := Lib.hid (H.out.map fun F q => q.under fun F q => q.rot)
        clear hle
        go_wp2_with (at_builtin; refine Fr.wpList_append_off _ rfl _ _ 22 rfl 0 3 i0 (.int .i64 0) 1 8 Try.underlying22 HII.out HZ0.out HZ1.out HZ2.out rfl (by decide) _ _ _ rfl (World.offRow.later R2.out (Grow.G.alloc (Grow.G.refl _) _)) (some ⟨w5.heap.size, 0, none⟩) 1 1 [.int .i64 (100 - (k : Int))] rfl rfl (.inr ⟨_, rfl, news_new _ _ _ _ rfl⟩) (one1 rfl) (by unfold maxLen; omega) (by omega) (Nat.zero_le _) ?_; intro v' w' hown hfr; obtain ⟨a9, c9, rfl⟩ := hown.shape; have HA := Lib.hid (hold_app8 (x := 100 - (k : Int)) (H'.out.grow ((LnP.foot _ _).sep (FT.out _ _ _ _)) (Grow.G.alloc (Grow.G.refl _) _)) (LnP.foot _ _) (FO.out _ _) rfl (by rw [← E2.out]; exact hown) hfr); clear hown hfr)
        go_roundw
        case rel => exact ⟨k + 1, pre ++ [(100 - (k : Int), u)], a1, a9, N1, c1, N2 + 1, c9, by omega, by omega, by omega, rfl, rfl, by go_num, Lib.hid ⟨HL.out.1, HL.out.2, by rw [OA.out]; exact E1.out, by rw [LA.out]; unfold fsts; rw [List.map_append, List.length_append, E2.out]; rfl, by rw [OA.out, LA.out]; unfold fsts; rw [List.map_append]; exact HA.out.map fun F q => q.under fun F q => q.rot⟩⟩
        case measure => simp [intOf]; omega
    · have d12 : ¬ k < zs.length ∨ (k < zs.length ∧ ¬ k < 8) := by omega
      clear h1
      rcases d12 with f1 | ⟨f1, f2⟩
      case' inl => have d1 : decide ((k : Int) < (zs.length : Int)) = false := decide_eq_false (by omega)
      case' inr =>
        have d1 : decide ((k : Int) < (zs.length : Int)) = true := decide_eq_true (by omega)
        have d2 : decide ((k : Int) < 8) = false := decide_eq_false (by omega)
      all_goals
        obtain ⟨hpl, hpm, hN1, hN2, hH⟩ := HH.out
        have LT := Lib.hid (late_twice ⟨8, pre⟩ n)
        have HT := Lib.hid (show (fsts (Ln.overL pre n)).length ≤ 100000 by omega)
        have H := Lib.hid hH
        have LL : Hid (∀ (l : Nat), (fsts (Ln.leftL pre n)).length = l → (Ln.leftL pre n).length = l) := Lib.hid (fun l h => by unfold fsts at h; rwa [List.length_map] at h)
        have hL0 : (Ln.leftL pre n).length = N2 := LL.out _ hN2.symm
        have HL0 := Lib.hid hL0
        clear hpl hpm hN1 hN2 hH HH LL hL0
        have hN28 : N2 ≤ 8 := by omega
        go_wp2_with fail
        refine (hold_llate (tl := fsts (Ln.overL pre n)) (s' := ⟨8, Ln.leftL pre n⟩) H.out (FT.out _ _ _ _) n rfl rfl).mono ?_
        rintro e w5 ⟨u5, rfl, hst⟩
        replace H := Lib.hid hst
        clear hst
        go_wp2_with fail
        refine (ints8_own HT.out (hold_reads8 H.out) (hold_reads8 (H.out.map fun F q => q.under fun F q => q.rot))).mono ?_
        rintro e w6 ⟨rfl, hg⟩
        replace H := Lib.hid ((H.out.grow ((LnP.foot _ _).sep ((IntO.foot _ _).sep (FT.out _ _ _ _))) hg).weak fun F q => q.weakR fun F q => q.dropL2)
        clear hg
        go_wp2_with fail
        refine (hold_llate H.out (FO.out _ _) n LT.out.1 LT.out.2).mono ?_
        rintro e w7 ⟨u4, rfl, hst⟩
        have ho4 : ∃ a c, u4 = .slice a 0 c := by
          obtain ⟨F, ⟨F1, F2, _, ⟨F3, F4, ho, _⟩, _⟩, _⟩ := hst.st
          exact ho.1.shape
        obtain ⟨a4, c4, rfl⟩ := ho4
        replace H := Lib.hid (hst.weak fun F q => q.weakR fun F q => q.dropL)
        clear hst
        go_wp2_with fail
        refine (hold_llen (er := N2) H.out (by show ((Ln.leftL pre n).length : Int) = _; rw [HL0.out])).mono ?_
        rintro e ws1 ⟨rfl, hst⟩
        replace H := Lib.hid hst
        clear hst
        go_wp2_with fail
        have H0 : Hid (Hold w ws1 [] (Sep (LnP g ⟨8, (Ln.leftL pre n).drop 0⟩) (Sep (IntO (.slice a2 N2 c2) (fsts (Ln.leftL pre n))) Emp))) := H
        go_loopw [11] (fun i wr => ∃ (j : Nat), j ≤ N2 ∧ i = .int .i64 (j : Int) ∧ Hid (Hold w wr [] (Sep (LnP g ⟨8, (Ln.leftL pre n).drop j⟩) (Sep (IntO (.slice a2 N2 c2) (fsts (Ln.leftL pre n))) Emp)))) (fun i _ => N2 - (intOf i).toNat)
        case atStart => exact ⟨0, by omega, rfl, H0⟩
        case round =>
          clear H H0
          obtain ⟨j, hj, rfl, H⟩ := hrel
          have hB := H.out.below
          by_cases hlt : j < N2
          · have d3 : decide ((j : Int) < (N2 : Int)) = true := decide_eq_true (by omega)
            have hk2 : IntKind.i64.wrap ((j : Int) + 1) = (j : Int) + 1 := IntWalk.i64_in _ ⟨by omega, by omega⟩
            have hk3 : IntKind.i64.wrap ((N2 : Int) - (j : Int)) = (N2 : Int) - (j : Int) := IntWalk.i64_in _ ⟨by omega, by omega⟩
            have hk4 : IntKind.i64.wrap ((N2 : Int) - (j : Int) - 1) = (N2 : Int) - (j : Int) - 1 := IntWalk.i64_in _ ⟨by omega, by omega⟩
            have hjl : j < (Ln.leftL pre n).length := by have := HL0.out; omega
            have hdr := List.drop_eq_getElem_cons hjl
            obtain ⟨p, hp⟩ : ∃ p, (Ln.leftL pre n)[j]? = some p := ⟨_, List.getElem?_eq_getElem hjl⟩
            rw [show (Ln.leftL pre n)[j] = p from (List.getElem?_eq_some_iff.1 hp).2] at hdr
            have hf : (fsts (Ln.leftL pre n))[j]? = some p.1 := by unfold fsts; rw [List.getElem?_map, hp]; rfl
            obtain ⟨x, t⟩ := p
            dsimp only at hf
            have Q1 : Hid ((⟨8, (Ln.leftL pre n).drop j⟩ : Ln).pop = x) := Lib.hid (by unfold Ln.pop Ln.ids; rw [hdr]; rfl)
            have Q2 : Hid ((⟨8, (Ln.leftL pre n).drop j⟩ : Ln).popB = true) := Lib.hid (by unfold Ln.popB; rw [hdr]; rfl)
            have Q3 : Hid ((⟨8, (Ln.leftL pre n).drop j⟩ : Ln).aftPop = ⟨8, (Ln.leftL pre n).drop (j + 1)⟩) := Lib.hid (by unfold Ln.aftPop; rw [List.drop_drop])
            have Q4 : Hid ((((⟨8, (Ln.leftL pre n).drop (j + 1)⟩ : Ln).l.length : Nat) : Int) = (N2 : Int) - (j : Int) - 1) := Lib.hid (by show (((Ln.leftL pre n).drop (j + 1)).length : Int) = _; rw [List.length_drop, HL0.out]; omega)
            have HF := Lib.hid hf
            have k1 : (0 : Int) ≤ (j : Int) := by omega
            have k2 : (j : Int) < (N2 : Int) := by omega
            clear hjl hdr hp hf hB
            go_wp2_with fail
            refine (hold_lpop H.out (FO.out _ _) Q1.out Q2.out Q3.out).mono ?_
            rintro e w8 ⟨rfl, hst⟩
            replace H := Lib.hid hst
            obtain ⟨q, off2, c3, hv, _, _, hql, hcl⟩ := (hold_reads8 hst).at.resolve_left (fun e => by
              have h1 := e.2.1
              have h2 := (List.getElem?_eq_some_iff.1 HF.out).1
              omega)
            injection hv with v1 v2 v3
            subst v1
            have cy := hcl j (.int .i64 x) (by rw [List.getElem?_map, HF.out]; rfl)
            clear hst hcl v2 v3
            go_wp2_with fail
            refine (hold_llen H.out Q4.out).mono ?_
            rintro e ws2 ⟨rfl, hst⟩
            replace H := Lib.hid hst
            clear hst
            go_wp2_with fail
            go_roundw
            case rel => exact ⟨j + 1, by omega, by go_num, H⟩
            case measure => simp [intOf]; omega
          · obtain rfl : j = N2 := by omega
            have d3 : decide ((j : Int) < (j : Int)) = false := decide_eq_false (by omega)
            have hdr : (Ln.leftL pre n).drop j = [] := List.drop_eq_nil_of_le (by have := HL0.out; omega)
            have Q2 : Hid ((⟨8, (Ln.leftL pre n).drop j⟩ : Ln).popB = false) := Lib.hid (by unfold Ln.popB; rw [hdr]; rfl)
            clear hdr hB
            go_wp2_with fail
            refine (hold_lpop H.out (FO.out _ _) rfl Q2.out rfl).mono ?_
            rintro e ws3 ⟨rfl, hst⟩
            replace H := Lib.hid hst
            clear hst
            go_wp2_with fail
            go_ret
            exact ⟨rfl, H.out.below⟩
end Go.Proofs.Ytlnffdkaleapbaa


/- The walk of StampLatest. -/
import Derived.Test.YtjcdmnogmpjkkaaDoorZ92D
import Derived.Test.YtjcdmnogmpjkkaaDoorZ92
import Derived.Test.YtjcdmnogmpjkkaaDoorZ2
namespace Go.Proofs.YtjcdmnogmpjkkaaDoor
set_option maxRecDepth 100000
set_option linter.unusedVariables false
set_option linter.unusedSimpArgs false
set_option linter.unnecessarySimpa false
open Go.RowKit

set_option maxHeartbeats 64000000 in
theorem walkStampLatest (w : World) (v : Value) (zs : List Int) (hz : IntSlice w v zs) (v2 : Value) (ys : List Int) (hy : IntSlice w v2 ys) (ht : Tab w) :
    Calls Tryd.prog 5 #[v, v2] w fun e w' => e = .returned (.bool true) ∧ Below w.heap.size w w' := by
  have KN := Lib.hid (known12_any w ht)
  have HT := Lib.hid ht
  have FP := Lib.hid (fun g l => (BkB.foot g l).sep Emp.foot)
  have FE := Lib.hid Emp.foot
  obtain ⟨va, vc, rfl, hat⟩ := hz.open
  have HZ := Lib.hid hat
  obtain ⟨ya, yc, rfl, hay⟩ := hy.open
  have HY := Lib.hid hay
  clear hat hz hay hy ht
  go_enter Tryd.func5, Tryd.ntmps5
  go_wp2_with fail
  refine KN.out.mono ?_
  rintro e w3 ⟨rfl, hg⟩
  have H := Lib.hid ((Hold.nil w).grow Emp.foot hg)
  clear hg
  go_wp2_with fail
  refine (hold_bknew H.out FE.out).mono ?_
  rintro e w4 ⟨g, rfl, hh⟩
  replace H := Lib.hid hh
  clear hh
  go_wp2_with ((refine Hold.storeAll 0 (t := 33) (FP.out _ _) rfl rfl rfl rfl (n := 6) (by kernel_rfl) (Hold.alloc' H.out (FP.out _ _) _ _ rfl) rfl rfl rfl rfl ?_; intro W5 HMm CW5))
  simp only [K0, K1, L1, L2, K2, K3, K4, K5, K6, K7, Nat.reduceAdd, Nat.reduceSub] at HMm
  replace H := Lib.hid HMm
  clear HMm
  refine Stay.go ?_
  generalize w4.heap.size = cb at *
  go_wp2_with fail
  go_loopw [7, 8, 9] (fun p q i wr => ∃ (k : Nat) (M R : Int) (l : List Rv), k ≤ 30 ∧ l.length ≤ k ∧ p = .int .i64 M ∧ q = .int .i64 R ∧ i = .int .i64 (k : Int) ∧ (0 ≤ M ∧ M ≤ 120) ∧ (0 ≤ R ∧ R ≤ 120) ∧ Hid (MaxI webN (mineM webN) l M) ∧ Hid (MaxI webN (mineR webN) l R) ∧ Hid (∀ r, r ∈ l → r.c.nm = webN) ∧ Hid (Hold w wr [(cb, [.string ⟨#[119, 101, 98]⟩, .int .i64 0, .int .i64 1, .int .i64 0, .int .i64 1, .int .i64 0], 33)] (Sep (BkB g l) Emp))) (fun _ _ i _ => 30 - (_root_.Go.RowKit.intOf i).toNat)
  case atStart => exact ⟨0, 0, 0, [], by omega, Nat.le_refl _, rfl, rfl, rfl, by omega, by omega, Lib.hid (MaxI.nil _ _), Lib.hid (MaxI.nil _ _), Lib.hid (fun r hr => by cases hr), H⟩
  case round =>
    clear H
    obtain ⟨k, M, R, l, hk, hll, rfl, rfl, rfl, hM, hR, XM, XR, XA, H⟩ := hrel
    have hk1 : IntKind.i64.wrap ((k : Int) + 1) = (k : Int) + 1 := IntWalk.i64_in _ ⟨by omega, by omega⟩
    by_cases h12 : k < zs.length ∧ k < 30
    · obtain ⟨h1, h2⟩ := h12
      obtain ⟨b, off, hbo, hcz, hw⟩ := HZ.out.at H.out.below h1
      have d1 : decide ((k : Int) < (zs.length : Int)) = true := decide_eq_true (by omega)
      have d2 : decide ((k : Int) < 30) = true := decide_eq_true (by omega)
      have k1 : (0 : Int) ≤ (k : Int) := by omega
      have k2 : (k : Int) < (zs.length : Int) := by omega
      obtain ⟨z, hzz⟩ : ∃ z, zs.getD k 0 = z := ⟨_, rfl⟩
      rw [hzz] at hcz hw
      subst hbo
      have WK := Lib.hid (fun w => within12_any z 120 w (by omega) (by omega) hw.1 hw.2)
      have r0 := withinI_range z 120 (by omega)
      generalize withinI z 120 = z0 at *
      obtain ⟨G, hG⟩ : ∃ G, 1 + z0 = G := ⟨_, rfl⟩
      have hG1 : 1 ≤ G ∧ G ≤ 120 := by omega
      have wr1 : IntKind.i64.wrap (1 + z0) = G := by rw [hG]; exact IntWalk.i64_in _ ⟨by omega, by omega⟩
      have RP := Lib.hid (web_rev (g := G) (by omega) (by omega))
      clear r0 hG hw hzz
      go_wp2_with fail
      refine (WK.out _).mono ?_
      rintro e wx ⟨rfl, rfl⟩
      clear WK hcz
      go_wp2_with ((refine Mem.loadAll 0 (t := 33) rfl rfl rfl Tryd.underlying33 (n := 6) (by kernel_rfl) H.out.mem rfl rfl ?_))
      have OK := Lib.hid (hold_bkok H.out)
      obtain ⟨bo, hbo⟩ : ∃ bo, newK l wbC G = bo := ⟨_, rfl⟩
      obtain ⟨l1, hl1⟩ : ∃ l1, putK l wbC G = l1 := ⟨_, rfl⟩
      obtain ⟨M2, hM2⟩ : ∃ M2, max M G = M2 := ⟨_, rfl⟩
      obtain ⟨sv, hsv⟩ : ∃ sv, revS webN G = sv := ⟨_, rfl⟩
      have P1 : Hid (MaxI webN (mineM webN) l1 M2) := Lib.hid (hl1 ▸ hM2 ▸ MaxI.put (c := wbC) XM.out OK.out RP.out)
      have P2 : Hid (MaxI webN (mineR webN) l1 R) := Lib.hid (hl1 ▸ MaxI.putR XR.out)
      have P3 : Hid (hasK l1 sv = true) := Lib.hid (hl1 ▸ hsv ▸ hasK_put (c := wbC))
      have PA : Hid (∀ r, r ∈ l1 → r.c.nm = webN) := Lib.hid (hl1 ▸ put_all (q := fun c => c.nm = webN) XA.out rfl)
      have P4 : l1.length ≤ k + 1 := by have := putK_len l wbC G; rw [hl1] at this; omega
      have RV := Lib.hid (fun w => rrev_any webN G w (by decide))
      rw [hsv] at RV
      have HSV := Lib.hid hsv
      refine (hold_bkstamp (st := sv) (bo := bo) (l' := l1) H.out FE.out (tabG HT.out H.out.below) wbC G (by decide +kernel) (by omega) (by omega) hsv hbo hl1).mono ?_
      rintro e w6 ⟨rfl, hh⟩
      replace H := Lib.hid hh
      have hMM : 1 ≤ M2 ∧ M2 ≤ 120 := by omega
      have HM2 := Lib.hid hM2
      clear hh hbo hl1 hsv XM XR XA OK wr1
      have hcase : (k < ys.length ∧ withinI (ys.getD k 0) 2 = 0) ∨ (k < ys.length ∧ withinI (ys.getD k 0) 2 = 1) ∨ ¬ k < ys.length := by
        have := withinI_range (ys.getD k 0) 2 (by omega)
        omega
      rcases hcase with ⟨hpy, hy0⟩ | hrest
      ·
            obtain ⟨b2, off2, hbo2, hcy, hw2⟩ := HY.out.at H.out.below hpy
            obtain ⟨y, hyy⟩ : ∃ y, ys.getD k 0 = y := ⟨_, rfl⟩
            rw [hyy] at hcy hw2 hy0
            subst hbo2
            have W2 := Lib.hid (fun w => within12_any y 2 w (by omega) (by omega) hw2.1 hw2.2)
            rw [hy0] at W2
            have d3 : decide ((k : Int) < (ys.length : Int)) = true := decide_eq_true (by omega)
            have k3 : (k : Int) < (ys.length : Int) := by omega
            clear hw2 hyy hy0
            go_wp2_with fail
            refine (W2.out _).mono ?_
            rintro e wx ⟨rfl, rfl⟩
            clear W2 hcy
            clear hM2 HM2
            have OK1 := Lib.hid (hold_bkok H.out)
            obtain ⟨l2, hl2⟩ : ∃ l2, setK l1 sv = l2 := ⟨_, rfl⟩
            obtain ⟨R2, hR2⟩ : ∃ R2, max R G = R2 := ⟨_, rfl⟩
            have Q1 : Hid (MaxI webN (mineM webN) l2 M2) := Lib.hid (hl2 ▸ P1.out.set sv)
            have Q2 : Hid (MaxI webN (mineR webN) l2 R2) := Lib.hid (by
              have := P2.out.setR OK1.out RP.out (HSV.out.symm ▸ P3.out)
              rw [HSV.out, hl2, hR2] at this; exact this)
            have QA : Hid (∀ r, r ∈ l2 → r.c.nm = webN) := Lib.hid (hl2 ▸ set_all (q := fun c => c.nm = webN) PA.out)
            have P5 : l2.length ≤ k + 1 := by rw [← hl2, setK_len]; exact P4
            have ER : Hid (errK l1 sv = 0) := Lib.hid (by unfold errK; rw [P3.out]; rfl)
            have HL2 := Lib.hid hl2
            have HR2 := Lib.hid hR2
            have hRR : 1 ≤ R2 ∧ R2 ≤ 120 := by omega
            clear hl2 OK1
            go_wp2_with fail
            refine (RV.out _).mono ?_
            rintro e w7 ⟨rfl, g7⟩
            replace H := Lib.hid (H.out.grow (FP.out _ _) g7)
            clear g7 RV
            go_wp2_with fail
            refine (hold_bkprove (er := 0) (l' := l2) H.out FE.out sv (by have := revS_size webN G; rw [HSV.out] at this; omega) (by omega) ER.out HL2.out).mono ?_
            rintro e w8 ⟨rfl, hh⟩
            replace H := Lib.hid hh
            clear hh ER HL2 P1 P2 P3 PA HSV
            go_wp2_with fail
            clear hR2 HR2
            have okl := hold_bkok H.out
            have N1 := Q1.out.name okl
            have N2 := Q2.out.name okl
            rw [if_neg (by omega)] at N1
            obtain ⟨mv, hmv⟩ : ∃ mv, revS webN M2 = mv := ⟨_, rfl⟩
            have RM := Lib.hid (fun w => rrev_any webN M2 w (by decide))
            rw [hmv] at N1 RM
            clear okl
            by_cases hr0 : R2 = 0
            · rw [if_pos hr0] at N2
              have N1 := Lib.hid N1
              have N2 := Lib.hid N2
              subst hr0
              refine (hold_bklatest (mt := mv) (st := ⟨#[]⟩) H.out FE.out (tabG HT.out H.out.below) webN (by decide) (by omega) N1.out N2.out).mono ?_
              rintro e w8 ⟨rfl, -, hh⟩
              replace H := Lib.hid hh
              clear hh N1 N2 hmv
              go_wp2_with fail
              refine (RM.out _).mono ?_
              rintro e w9 ⟨rfl, g9⟩
              replace H := Lib.hid (H.out.grow (FP.out _ _) g9)
              clear g9 RM
              go_wp2_with fail
              go_roundw
              case rel => exact ⟨k + 1, M2, 0, l2, by omega, by omega, rfl, rfl, by go_num, by omega, by omega, Q1, Q2, QA, H⟩
              case measure => simp [_root_.Go.RowKit.intOf]; omega
            · rw [if_neg hr0] at N2
              obtain ⟨rv, hrv⟩ : ∃ rv, revS webN R2 = rv := ⟨_, rfl⟩
              have RR := Lib.hid (fun w => rrev_any webN R2 w (by decide))
              rw [hrv] at N2 RR
              have N1 := Lib.hid N1
              have N2 := Lib.hid N2
              have e0 : (R2 == 0) = false := by simpa using hr0
              have e1 : decide (0 < R2) = true := decide_eq_true (by omega)
              have e2 : 0 < R2 := by omega
              refine (hold_bklatest (mt := mv) (st := rv) H.out FE.out (tabG HT.out H.out.below) webN (by decide) (by omega) N1.out N2.out).mono ?_
              rintro e w8 ⟨rfl, -, hh⟩
              replace H := Lib.hid hh
              clear hh N1 N2 hmv hrv
              go_wp2_with fail
              refine (RM.out _).mono ?_
              rintro e w9 ⟨rfl, g9⟩
              replace H := Lib.hid (H.out.grow (FP.out _ _) g9)
              clear g9 RM
              go_wp2_with fail
              refine (RR.out _).mono ?_
              rintro e w10 ⟨rfl, g10⟩
              replace H := Lib.hid (H.out.grow (FP.out _ _) g10)
              clear g10 RR
              go_wp2_with fail
              go_roundw
              case rel => exact ⟨k + 1, M2, R2, l2, by omega, by omega, rfl, rfl, by go_num, by omega, by omega, Q1, Q2, QA, H⟩
              case measure => simp [_root_.Go.RowKit.intOf]; omega
      · rcases hrest with ⟨hpy, hy0⟩ | hpy
        ·
            obtain ⟨b2, off2, hbo2, hcy, hw2⟩ := HY.out.at H.out.below hpy
            obtain ⟨y, hyy⟩ : ∃ y, ys.getD k 0 = y := ⟨_, rfl⟩
            rw [hyy] at hcy hw2 hy0
            subst hbo2
            have W2 := Lib.hid (fun w => within12_any y 2 w (by omega) (by omega) hw2.1 hw2.2)
            rw [hy0] at W2
            have d3 : decide ((k : Int) < (ys.length : Int)) = true := decide_eq_true (by omega)
            have k3 : (k : Int) < (ys.length : Int) := by omega
            clear hw2 hyy hy0 RV P3 HSV
            go_wp2_with fail
            refine (W2.out _).mono ?_
            rintro e wx ⟨rfl, rfl⟩
            clear W2 hcy HM2 hM2
            go_wp2_with fail
            have okl := hold_bkok H.out
            have N1 := P1.out.name okl
            have N2 := P2.out.name okl
            rw [if_neg (by omega)] at N1
            obtain ⟨mv, hmv⟩ : ∃ mv, revS webN M2 = mv := ⟨_, rfl⟩
            have RM := Lib.hid (fun w => rrev_any webN M2 w (by decide))
            rw [hmv] at N1 RM
            clear okl
            by_cases hr0 : R = 0
            · rw [if_pos hr0] at N2
              have N1 := Lib.hid N1
              have N2 := Lib.hid N2
              subst hr0
              refine (hold_bklatest (mt := mv) (st := ⟨#[]⟩) H.out FE.out (tabG HT.out H.out.below) webN (by decide) (by omega) N1.out N2.out).mono ?_
              rintro e w8 ⟨rfl, -, hh⟩
              replace H := Lib.hid hh
              clear hh N1 N2 hmv
              go_wp2_with fail
              refine (RM.out _).mono ?_
              rintro e w9 ⟨rfl, g9⟩
              replace H := Lib.hid (H.out.grow (FP.out _ _) g9)
              clear g9 RM
              go_wp2_with fail
              go_roundw
              case rel => exact ⟨k + 1, M2, 0, l1, by omega, by omega, rfl, rfl, by go_num, by omega, by omega, P1, P2, PA, H⟩
              case measure => simp [_root_.Go.RowKit.intOf]; omega
            · rw [if_neg hr0] at N2
              obtain ⟨rv, hrv⟩ : ∃ rv, revS webN R = rv := ⟨_, rfl⟩
              have RR := Lib.hid (fun w => rrev_any webN R w (by decide))
              rw [hrv] at N2 RR
              have N1 := Lib.hid N1
              have N2 := Lib.hid N2
              have e0 : (R == 0) = false := by simpa using hr0
              have e1 : decide (0 < R) = true := decide_eq_true (by omega)
              have e2 : 0 < R := by omega
              refine (hold_bklatest (mt := mv) (st := rv) H.out FE.out (tabG HT.out H.out.below) webN (by decide) (by omega) N1.out N2.out).mono ?_
              rintro e w8 ⟨rfl, -, hh⟩
              replace H := Lib.hid hh
              clear hh N1 N2 hmv hrv
              go_wp2_with fail
              refine (RM.out _).mono ?_
              rintro e w9 ⟨rfl, g9⟩
              replace H := Lib.hid (H.out.grow (FP.out _ _) g9)
              clear g9 RM
              go_wp2_with fail
              refine (RR.out _).mono ?_
              rintro e w10 ⟨rfl, g10⟩
              replace H := Lib.hid (H.out.grow (FP.out _ _) g10)
              clear g10 RR
              go_wp2_with fail
              go_roundw
              case rel => exact ⟨k + 1, M2, R, l1, by omega, by omega, rfl, rfl, by go_num, by omega, by omega, P1, P2, PA, H⟩
              case measure => simp [_root_.Go.RowKit.intOf]; omega
        ·
            have d3 : decide ((k : Int) < (ys.length : Int)) = false := decide_eq_false (by omega)
            have k3 : ¬ (k : Int) < (ys.length : Int) := by omega
            clear RV P3 HSV
            go_wp2_with fail
            clear HM2 hM2
            have okl := hold_bkok H.out
            have N1 := P1.out.name okl
            have N2 := P2.out.name okl
            rw [if_neg (by omega)] at N1
            obtain ⟨mv, hmv⟩ : ∃ mv, revS webN M2 = mv := ⟨_, rfl⟩
            have RM := Lib.hid (fun w => rrev_any webN M2 w (by decide))
            rw [hmv] at N1 RM
            clear okl
            by_cases hr0 : R = 0
            · rw [if_pos hr0] at N2
              have N1 := Lib.hid N1
              have N2 := Lib.hid N2
              subst hr0
              refine (hold_bklatest (mt := mv) (st := ⟨#[]⟩) H.out FE.out (tabG HT.out H.out.below) webN (by decide) (by omega) N1.out N2.out).mono ?_
              rintro e w8 ⟨rfl, -, hh⟩
              replace H := Lib.hid hh
              clear hh N1 N2 hmv
              go_wp2_with fail
              refine (RM.out _).mono ?_
              rintro e w9 ⟨rfl, g9⟩
              replace H := Lib.hid (H.out.grow (FP.out _ _) g9)
              clear g9 RM
              go_wp2_with fail
              go_roundw
              case rel => exact ⟨k + 1, M2, 0, l1, by omega, by omega, rfl, rfl, by go_num, by omega, by omega, P1, P2, PA, H⟩
              case measure => simp [_root_.Go.RowKit.intOf]; omega
            · rw [if_neg hr0] at N2
              obtain ⟨rv, hrv⟩ : ∃ rv, revS webN R = rv := ⟨_, rfl⟩
              have RR := Lib.hid (fun w => rrev_any webN R w (by decide))
              rw [hrv] at N2 RR
              have N1 := Lib.hid N1
              have N2 := Lib.hid N2
              have e0 : (R == 0) = false := by simpa using hr0
              have e1 : decide (0 < R) = true := decide_eq_true (by omega)
              have e2 : 0 < R := by omega
              refine (hold_bklatest (mt := mv) (st := rv) H.out FE.out (tabG HT.out H.out.below) webN (by decide) (by omega) N1.out N2.out).mono ?_
              rintro e w8 ⟨rfl, -, hh⟩
              replace H := Lib.hid hh
              clear hh N1 N2 hmv hrv
              go_wp2_with fail
              refine (RM.out _).mono ?_
              rintro e w9 ⟨rfl, g9⟩
              replace H := Lib.hid (H.out.grow (FP.out _ _) g9)
              clear g9 RM
              go_wp2_with fail
              refine (RR.out _).mono ?_
              rintro e w10 ⟨rfl, g10⟩
              replace H := Lib.hid (H.out.grow (FP.out _ _) g10)
              clear g10 RR
              go_wp2_with fail
              go_roundw
              case rel => exact ⟨k + 1, M2, R, l1, by omega, by omega, rfl, rfl, by go_num, by omega, by omega, P1, P2, PA, H⟩
              case measure => simp [_root_.Go.RowKit.intOf]; omega
    · have LW : Hid (latM l ⟨#[119, 101]⟩ = ⟨#[]⟩ ∧ latR l ⟨#[119, 101]⟩ = ⟨#[]⟩) := Lib.hid ⟨by unfold latM; rw [topK_no (fun x hx => by unfold mineM; rw [XA.out x hx]; decide +kernel)]; rfl, by unfold latR; rw [topK_no (fun x hx => by unfold mineR; rw [XA.out x hx]; cases x.pr <;> decide +kernel)]; rfl⟩
      have hl9 : l.length ≤ 1000 := by omega
      have h3 : ¬ k < zs.length ∨ (k < zs.length ∧ ¬ k < 30) := by omega
      clear XM XR XA h12
      rcases h3 with c1 | ⟨c1, c2⟩
      case' inl => have d1 : decide ((k : Int) < (zs.length : Int)) = false := decide_eq_false (by omega)
      case' inr =>
        have d1 : decide ((k : Int) < (zs.length : Int)) = true := decide_eq_true (by omega)
        have d2 : decide ((k : Int) < 30) = false := decide_eq_false (by omega)
      all_goals
        go_wp2_with fail
        refine (hold_bklatest (mt := ⟨#[]⟩) (st := ⟨#[]⟩) H.out FE.out (tabG HT.out H.out.below) ⟨#[119, 101]⟩ (by decide) hl9 LW.out.1 LW.out.2).mono ?_
        rintro e w8 ⟨rfl, -, hh⟩
        replace H := Lib.hid hh
        clear hh
        go_wp2_with fail
        go_ret
        exact ⟨rfl, H.out.below⟩
end Go.Proofs.YtjcdmnogmpjkkaaDoor


/- The walk of StampTwice. -/
import Derived.Test.YtjcdmnogmpjkkaaDoorZ97
namespace Go.Proofs.YtjcdmnogmpjkkaaDoor
set_option maxRecDepth 100000
set_option linter.unusedVariables false
set_option linter.unusedSimpArgs false
set_option linter.unnecessarySimpa false
open Go.RowKit Go.Args

theorem twice_err {i : Int} (h : 0 ≤ i ∧ i ≤ 255) : (⟨⟨#[97]⟩, i, 1, 0, 1, 0⟩ : Cfg).err = 0 := by
  unfold Cfg.err Cfg.num
  rw [show nameB 16 ⟨#[97]⟩ = true by decide +kernel]
  have : inB i 0 255 = true := inB_iff.2 h
  dsimp only
  rw [this]
  rfl
set_option maxHeartbeats 64000000 in
theorem walkStampTwice (w : World) (n : Int) (hn : wf64 n) (m : Int) (hm : wf64 m) (ht : Tab w) :
    Calls Tryd.prog 9 #[.int .i64 n, .int .i64 m] w fun e w' => e = .returned (.bool true) ∧ Below w.heap.size w w' := by
  have KN := Lib.hid (known12_any w ht)
  have HT := Lib.hid ht
  have FP := Lib.hid (fun g x l => TwoB.foot g x l)
  have FR := Lib.hid (fun x l => rb_rest x l)
  have FB := Lib.hid (fun x l => bk_rest x l)
  have FE := Lib.hid Emp.foot
  have WN := Lib.hid (fun w => within12_any n 999999 w (by omega) (by omega) hn.1 hn.2)
  have rn := withinI_range n 999999 (by omega)
  obtain ⟨G, hG⟩ : ∃ G, 1 + withinI n 999999 = G := ⟨_, rfl⟩
  have hwr : IntKind.i64.wrap (1 + withinI n 999999) = G := by rw [hG]; exact IntWalk.i64_in _ ⟨by omega, by omega⟩
  have hGb : 1 ≤ G ∧ G ≤ 999999 := by omega
  have rm := withinI_range m 6 (by omega)
  obtain ⟨K, hK⟩ : ∃ K : Nat, withinI m 6 = K := ⟨(withinI m 6).toNat, by omega⟩
  have WM := Lib.hid (fun w => within12_any m 6 w (by omega) (by omega) hm.1 hm.2)
  rw [hK] at WM
  have hK5 : K ≤ 5 := by omega
  have FOKb := Lib.hid (fun (im : Int) (h : 0 ≤ im ∧ im ≤ 255) => twice_err h)
  obtain ⟨sv, hsv⟩ : ∃ sv, revS ⟨#[97]⟩ G = sv := ⟨_, rfl⟩
  have zs1 := revS_size ⟨#[97]⟩ G
  rw [hsv] at zs1
  obtain ⟨R, hR⟩ : ∃ R, newR ⟨⟨#[97]⟩, 0, 1, 0, 1, 0⟩ G = R := ⟨_, rfl⟩
  have S1 := stamp_new (C := ⟨⟨#[97]⟩, 0, 1, 0, 1, 0⟩) (G := G)
  rw [hR] at S1
  have F1 : findK [R] sv = some R := by rw [← hR, ← hsv]; exact find_one _ _
  have p1 : prvK [R] sv = false := by unfold prvK; rw [F1, ← hR]; rfl
  have h1 : hasK [R] sv = true := by unfold hasK; rw [F1]; rfl
  have e1 : errK [R] sv = 0 := by unfold errK; rw [h1]; rfl
  obtain ⟨l2, hl2⟩ : ∃ l2, setK [R] sv = l2 := ⟨_, rfl⟩
  have z2 : l2.length = 1 := by rw [← hl2, setK_len]; rfl
  have hnm : R.nm = sv := (findK_mem F1).2
  have F2 : findK l2 sv = some R.proved := by rw [← hl2, findK_set, F1]; show some (if R.nm = sv then R.proved else R) = _; rw [if_pos hnm]
  have p2 : prvK l2 sv = true := by unfold prvK; rw [F2]; rfl
  have h2 : hasK l2 sv = true := by unfold hasK; rw [F2]; rfl
  have ST := Lib.hid (fun (im : Int) => stamp_again (l := l2) (C := ⟨⟨#[97]⟩, 0, 1, 0, 1, 0⟩) (D := ⟨⟨#[97]⟩, im, 1, 0, 1, 0⟩) (G := G) rfl (hsv ▸ F2))
  have S1 := Lib.hid S1
  have P1 := Lib.hid p1
  have P2 := Lib.hid p2
  have E1 := Lib.hid e1
  have HL2 := Lib.hid hl2
  have HSV := Lib.hid hsv
  have Z2 := Lib.hid z2
  clear hn hm ht hG rn rm hK hR F1 p1 h1 e1 hl2 hnm F2 p2 h2 hsv z2
  go_enter Tryd.func9, Tryd.ntmps9
  go_wp2_with fail
  refine KN.out.mono ?_
  rintro e w3 ⟨rfl, hg⟩
  have H := Lib.hid ((Hold.nil w).grow Emp.foot hg)
  clear hg KN
  go_wp2_with fail
  refine (hold_bknew H.out FE.out).mono ?_
  rintro e w4 ⟨g, rfl, hh⟩
  have H5 := rb_new hh (BkB.foot g []) FE.out
  obtain ⟨W5, hW5⟩ : ∃ W5, W5 = w4.alloc (.cells #[.slice none 0 0, .slice none 0 0] rbkT) := ⟨_, rfl⟩
  have H := Lib.hid H5
  clear hh H5
  go_wp2_with fail
  rw [← hW5] at H ⊢
  clear hW5
  generalize w4.heap.size = x at *
  refine (WN.out _).mono ?_
  rintro e wx ⟨rfl, rfl⟩
  clear WN
  go_wp2_with ((refine Hold.storeAll 0 (t := 33) (FP.out _ _ _) rfl rfl rfl rfl (n := 6) (by kernel_rfl) (Hold.alloc' H.out (FP.out _ _ _) _ _ rfl) rfl rfl rfl rfl ?_; intro W6 HMm CW6))
  simp only [K0, K1, L1, L2, K2, K3, K4, K5, K6, K7, Nat.reduceAdd, Nat.reduceSub] at HMm
  replace H := Lib.hid HMm
  clear HMm
  refine Stay.go ?_
  generalize W5.heap.size = cb at *
  go_wp2_with ((refine Mem.loadAll 0 (t := 33) rfl rfl rfl Tryd.underlying33 (n := 6) (by kernel_rfl) H.out.mem rfl rfl ?_))
  refine (hold_bkstamp (st := sv) (bo := true) (l' := [R]) H.out (FR.out _ _) (tabG HT.out H.out.below) ⟨⟨#[97]⟩, 0, 1, 0, 1, 0⟩ G (FOKb.out 0 (by omega)) hGb (by decide) HSV.out S1.out.1 S1.out.2).mono ?_
  rintro e w7 ⟨rfl, hh⟩
  replace H := Lib.hid hh
  clear hh
  go_wp2_with ((refine Mem.loadAll 0 (t := 33) rfl rfl rfl Tryd.underlying33 (n := 6) (by kernel_rfl) H.out.mem rfl rfl ?_))
  refine (hold_rbstamp (st := sv) (bo := true) (l' := [R]) H.out.rot (FB.out _ _) ⟨⟨#[97]⟩, 0, 1, 0, 1, 0⟩ G (by unfold Cfg.wf wf64; decide) (by decide) (a_rev hGb.1 hGb.2) (by decide) HSV.out S1.out.1 S1.out.2).mono ?_
  rintro e w8 ⟨rfl, hh⟩
  replace H := Lib.hid hh.rot
  clear hh
  go_wp2_with fail
  refine (hold_bkproved (bo := false) H.out (FR.out _ _) sv (by omega) (by simp) P1.out).mono ?_
  rintro e w9 ⟨rfl, -, hh⟩
  replace H := Lib.hid hh
  clear hh
  go_wp2_with fail
  refine (hold_bkprove (er := 0) (l' := l2) H.out (FR.out _ _) sv (by omega) (by simp) E1.out HL2.out).mono ?_
  rintro e w10 ⟨rfl, hh⟩
  replace H := Lib.hid hh
  clear hh
  go_wp2_with fail
  refine (hold_rbprove (er := 0) (l' := l2) H.out.rot (FB.out _ _) sv (by simp) E1.out HL2.out).mono ?_
  rintro e w11 ⟨rfl, hh⟩
  replace H := Lib.hid hh.rot
  clear hh S1 P1 E1 HL2
  go_wp2_with fail
  go_loopw [11] (fun i wr => ∃ (k : Nat) (im : Int), k ≤ K ∧ i = .int .i64 (k : Int) ∧ Hid (Hold w wr [(cb, [.string ⟨#[97]⟩, .int .i64 im, .int .i64 1, .int .i64 0, .int .i64 1, .int .i64 0], 33)] (TwoB g x l2))) (fun i _ => K - (_root_.Go.RowKit.intOf i).toNat)
  case atStart => exact ⟨0, 0, by omega, rfl, H⟩
  case round =>
    clear H
    obtain ⟨k, im, hk, rfl, H⟩ := hrel
    have hk1 : IntKind.i64.wrap ((k : Int) + 1) = (k : Int) + 1 := IntWalk.i64_in _ ⟨by omega, by omega⟩
    have zl2 := Z2.out
    by_cases hlt : k < K
    · have d1 : decide ((k : Int) < (K : Int)) = true := decide_eq_true (by omega)
      have S2 := Lib.hid (ST.out (k : Int))
      have HCE := Lib.hid (FOKb.out (k : Int) (by omega))
      have hl9 : l2.length ≤ 900 := by omega
      clear zl2
      go_wp2_with fail
      refine (WM.out _).mono ?_
      rintro e wx ⟨rfl, rfl⟩
      go_wp2_with ((refine Hold.store 0 (t := 3) (FP.out _ _ _) rfl rfl rfl rfl (vs := [.int .i64 (k : Int)]) rfl (n := 1) (by kernel_rfl) H.out rfl rfl (by simp) rfl ?_; intro W12 HMm CW12))
      simp only [K0, K1, L1, L2, K2, K3, K4, K5, K6, K7, Nat.reduceAdd, Nat.reduceSub] at HMm
      replace H := Lib.hid HMm
      clear HMm
      refine Stay.go ?_
      go_wp2_with ((refine Mem.loadAll 0 (t := 33) rfl rfl rfl Tryd.underlying33 (n := 6) (by kernel_rfl) H.out.mem rfl rfl ?_))
      refine (hold_bkstamp (st := sv) (bo := false) (l' := l2) H.out (FR.out _ _) (tabG HT.out H.out.below) ⟨⟨#[97]⟩, (k : Int), 1, 0, 1, 0⟩ G HCE.out hGb hl9 HSV.out S2.out.1 S2.out.2).mono ?_
      rintro e w13 ⟨rfl, hh⟩
      replace H := Lib.hid hh
      clear hh
      go_wp2_with fail
      refine (hold_bkproved (bo := true) H.out (FR.out _ _) sv (by omega) (by omega) P2.out).mono ?_
      rintro e w14 ⟨rfl, -, hh⟩
      replace H := Lib.hid hh
      clear hh
      go_wp2_with fail
      go_roundw
      case rel => exact ⟨k + 1, (k : Int), by omega, by go_num, H⟩
      case measure => simp [_root_.Go.RowKit.intOf]; omega
    · obtain rfl : k = K := by omega
      have d1 : decide ((k : Int) < (k : Int)) = false := decide_eq_false (by omega)
      have SA := Lib.hid (fun (w' : World) (L : List MBox) (h : Hold w w' L (TwoB g x l2)) => same12_any h FE.out (tabG HT.out h.below) (by omega))
      clear hlt zl2
      go_wp2_with fail
      refine (WM.out _).mono ?_
      rintro e wx ⟨rfl, rfl⟩
      go_wp2_with fail
      refine (SA.out _ _ H.out).mono ?_
      rintro e w15 ⟨rfl, g15⟩
      have GF := Lib.hid (Grow.G.trans H.out.below g15)
      clear g15
      go_wp2_with fail
      go_ret
      exact ⟨rfl, GF.out⟩
end Go.Proofs.YtjcdmnogmpjkkaaDoor

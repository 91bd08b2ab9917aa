
/- The walk of StampFar. -/
import Derived.Test.YtjcdmnogmpjkkaaDoorZ92D
import Derived.Test.YtjcdmnogmpjkkaaDoorZ92
import Derived.Test.YtjcdmnogmpjkkaaDoorZ2
namespace Go.Proofs.YtjcdmnogmpjkkaaDoor
set_option maxRecDepth 100000
set_option linter.unusedVariables false
set_option linter.unusedSimpArgs false
set_option linter.unnecessarySimpa false
open Go.RowKit

def wN : ByteArray := ⟨#[119]⟩
def wC : Cfg := ⟨⟨#[119]⟩, 0, 1, 0, 1, 0⟩
theorem wC_wf : wC.wf := by unfold Cfg.wf wf64 wC; decide
theorem w_rev {g : Int} (h1 : 1 ≤ g) (h2 : g ≤ 999999) : revP wN g := ⟨by decide +kernel, h1, h2⟩
def farL : List Int := [1, 999999, 999998, 9, 10, 99999, 100000]
theorem far_at {j : Nat} (h : j < 7) : ∃ x, (intsV farL)[j]? = some (.int .i64 x) ∧ 1 ≤ x ∧ x ≤ 999999 := by
  match j, h with
  | 0, _ => exact ⟨_, rfl, by decide, by decide⟩
  | 1, _ => exact ⟨_, rfl, by decide, by decide⟩
  | 2, _ => exact ⟨_, rfl, by decide, by decide⟩
  | 3, _ => exact ⟨_, rfl, by decide, by decide⟩
  | 4, _ => exact ⟨_, rfl, by decide, by decide⟩
  | 5, _ => exact ⟨_, rfl, by decide, by decide⟩
  | 6, _ => exact ⟨_, rfl, by decide, by decide⟩
theorem getK_put {l : List Rv} {c : Cfg} {g : Int} (ok : BkOk l) (hr : revP c.nm g) : hasK (putK l c g) (revS c.nm g) = true ∧ (getK (putK l c g) (revS c.nm g)).nm = revS c.nm g ∧ (getK (putK l c g) (revS c.nm g)).gn = g := by
  refine ⟨hasK_put, ?_⟩
  unfold getK
  rw [findK_put]
  cases e : hasK l (revS c.nm g) with
  | true =>
    simp only [if_true]
    obtain ⟨r, h1, h2, h3, h4⟩ := hasK_gn ok hr e
    have := findK_of ok h1
    rw [h2] at this
    rw [this]
    exact ⟨h2, h4⟩
  | false =>
    simp only [Bool.false_eq_true, if_false, if_true]
    exact ⟨rfl, rfl⟩
set_option maxHeartbeats 64000000 in
theorem walkStampFar (w : World) (v : Value) (zs : List Int) (hz : IntSlice w v zs) (n : Int) (hn : wf64 n) (ht : Tab w) :
    Calls Tryd.prog 10 #[v, .int .i64 n] w fun e w' => e = .returned (.bool true) ∧ Below w.heap.size w w' := by
  have KN := Lib.hid (known12_any w ht)
  have HT := Lib.hid ht
  have FP := Lib.hid (fun g l => (BkB.foot g l).sep Emp.foot)
  have FE := Lib.hid Emp.foot
  obtain ⟨va, vc, rfl, hat⟩ := hz.open
  have HZ := Lib.hid hat
  have WN := Lib.hid (fun w => within12_any n 7 w (by omega) (by omega) hn.1 hn.2)
  have rn := withinI_range n 7 (by omega)
  generalize withinI n 7 = K at *
  clear hat hz hn ht
  go_enter Tryd.func10, Tryd.ntmps10
  go_wp2_with fail
  refine KN.out.mono ?_
  rintro e w3 ⟨rfl, hg⟩
  have H := Lib.hid ((Hold.nil w).grow Emp.foot hg)
  clear hg
  go_wp2_with fail
  refine (hold_bknew H.out FE.out).mono ?_
  rintro e w4 ⟨g, rfl, hh⟩
  replace H := Lib.hid hh
  clear hh
  go_wp2_with fail
  have H5 := H.out.alloc' (FP.out _ _) (intsV farL) 3 (g := w4.heap.size) rfl
  unfold farL intsV at H5
  simp only [List.map_cons, List.map_nil] at H5
  have H := Lib.hid H5
  clear H5
  generalize w4.heap.size = fb at *
  refine (WN.out _).mono ?_
  rintro e wx ⟨rfl, rfl⟩
  clear WN
  go_wp2_with fail
  go_loopw [8, 9] (fun p i wr => ∃ (k : Nat) (M : Int) (l : List Rv), k ≤ 10 ∧ l.length ≤ k ∧ p = .int .i64 M ∧ i = .int .i64 (k : Int) ∧ (0 ≤ M ∧ M ≤ 999999) ∧ Hid (MaxI wN (mineM wN) l M) ∧ Hid (∀ r, r ∈ l → r.pr = false) ∧ Hid (Hold w wr [(fb, [.int .i64 1, .int .i64 999999, .int .i64 999998, .int .i64 9, .int .i64 10, .int .i64 99999, .int .i64 100000], 3)] (Sep (BkB g l) Emp))) (fun _ i _ => 10 - (_root_.Go.RowKit.intOf i).toNat)
  case atStart => exact ⟨0, 0, [], by omega, Nat.le_refl _, rfl, rfl, by omega, Lib.hid (MaxI.nil _ _), Lib.hid (fun r hr => by cases hr), H⟩
  case round =>
    clear H
    obtain ⟨k, M, l, hk, hll, rfl, rfl, hM, XM, XP, H⟩ := hrel
    have hk1 : IntKind.i64.wrap ((k : Int) + 1) = (k : Int) + 1 := IntWalk.i64_in _ ⟨by omega, by omega⟩
    by_cases h12 : k < zs.length ∧ k < 10
    · obtain ⟨h1, h2⟩ := h12
      obtain ⟨b, off, hbo, hcz, hw⟩ := HZ.out.at H.out.below h1
      have d1 : decide ((k : Int) < (zs.length : Int)) = true := decide_eq_true (by omega)
      have d2 : decide ((k : Int) < 10) = true := decide_eq_true (by omega)
      have k1 : (0 : Int) ≤ (k : Int) := by omega
      have k2 : (k : Int) < (zs.length : Int) := by omega
      obtain ⟨z, hzz⟩ : ∃ z, zs.getD k 0 = z := ⟨_, rfl⟩
      rw [hzz] at hcz hw
      subst hbo
      obtain ⟨zk, hzk⟩ : ∃ zk, IntKind.i64.wrap (z + K) = zk := ⟨_, rfl⟩
      have hzw : wf64 zk := by rw [← hzk, IntKind.wrap_i64]; constructor <;> omega
      have WK := Lib.hid (fun w => within12_any zk 7 w (by omega) (by omega) hzw.1 hzw.2)
      have r0 := withinI_range zk 7 (by omega)
      obtain ⟨j, hj⟩ : ∃ j : Nat, withinI zk 7 = j := ⟨(withinI zk 7).toNat, by omega⟩
      rw [hj] at WK r0
      obtain ⟨G, hG, hG1, hG2⟩ := far_at (j := j) (by omega)
      have HJ := Lib.hid hG
      have j1 : (0 : Int) ≤ (j : Int) := by omega
      have j2 : (j : Int) < 7 := r0.2
      have RP := Lib.hid (w_rev hG1 hG2)
      clear hw hzz hj hzw r0 hG
      go_wp2_with fail
      refine (WK.out _).mono ?_
      rintro e wx ⟨rfl, rfl⟩
      have cj := ((H.out.mem.blk (i := 0) rfl).cell j).trans (show _ = some (.int .i64 G) from by rw [List.getElem?_toArray]; exact HJ.out)
      clear WK hcz hzk
      have hfl := (H.out.mem.blk (i := 0) rfl).lt
      go_wp2_with fail
      have OK := Lib.hid (hold_bkok H.out)
      obtain ⟨bo, hbo⟩ : ∃ bo, newK l wC G = bo := ⟨_, rfl⟩
      obtain ⟨l1, hl1⟩ : ∃ l1, putK l wC G = l1 := ⟨_, rfl⟩
      obtain ⟨M2, hM2⟩ : ∃ M2, max M G = M2 := ⟨_, rfl⟩
      obtain ⟨sv, hsv⟩ : ∃ sv, revS wN G = sv := ⟨_, rfl⟩
      have P1 : Hid (MaxI wN (mineM wN) l1 M2) := Lib.hid (hl1 ▸ hM2 ▸ MaxI.put (c := wC) XM.out OK.out RP.out)
      have PP : Hid (∀ r, r ∈ l1 → r.pr = false) := Lib.hid (by
        intro r hr
        rw [← hl1] at hr
        cases e : hasK l (revS wC.nm G) with
        | true => rw [putK_has e] at hr; exact XP.out r hr
        | false =>
          rw [putK_new e] at hr
          rcases List.mem_append.1 hr with hr | hr
          · exact XP.out r hr
          · rw [List.mem_singleton] at hr; subst hr; rfl)
      have PG := getK_put (c := wC) OK.out RP.out
      rw [hl1] at PG
      have P4 : l1.length ≤ k + 1 := by have := putK_len l wC G; rw [hl1] at this; omega
      have RV := Lib.hid (fun w => rrev_any wN G w (by decide))
      rw [hsv] at RV
      unfold wN at RV
      obtain ⟨q, hq⟩ : ∃ q, getK l1 sv = q := ⟨_, rfl⟩
      have PG : Hid (hasK l1 sv = true ∧ q.nm = sv ∧ q.gn = G) := Lib.hid (by rw [← hq, ← hsv]; exact PG)
      have HQ := Lib.hid hq
      have zs1 := revS_size wN G
      rw [hsv] at zs1
      refine (hold_bkstamp (st := sv) (bo := bo) (l' := l1) H.out FE.out (tabG HT.out H.out.below) wC G (by decide +kernel) (by omega) (by omega) hsv hbo hl1).mono ?_
      rintro e w6 ⟨rfl, hh⟩
      replace H := Lib.hid hh
      have hMM : 1 ≤ M2 ∧ M2 ≤ 999999 := by omega
      clear hh hbo hl1 hsv XM XP OK cj hfl hq
      go_wp2_with fail
      clear hM2
      refine (RV.out _).mono ?_
      rintro e w7 ⟨rfl, g7⟩
      replace H := Lib.hid (H.out.grow (FP.out _ _) g7)
      clear g7
      go_wp2_with fail
      refine (hold_bkget (bo := true) (r := q) H.out FE.out (tabG HT.out H.out.below) sv (by omega) (by omega) HQ.out PG.out.1).mono ?_
      rintro e w10 ⟨rfl, -, hh⟩
      replace H := Lib.hid hh
      obtain ⟨qn, qg, ⟨q0, q1, q2, q3, q4, q5⟩, qp⟩ := q
      obtain ⟨e1, e2, e3⟩ := PG.out
      dsimp only at e2 e3
      have dq : (qg != G) = false := by rw [e3]; simp
      have dn : (qn.toList != sv.toList) = false := by rw [e2]; simp
      have dm : (qn.toList == sv.toList) = true := by rw [e2]; simp
      have de : qn = sv := e2
      have dG : qg = G := e3
      clear hh HQ PG e2 e3 de dG
      unfold Rv.cells
      dsimp only
      go_wp2_with ((refine Hold.storeAll 1 (t := 46) (FP.out _ _) rfl rfl rfl rfl (n := 8) (by kernel_rfl) (Hold.alloc' H.out (FP.out _ _) _ _ rfl) rfl rfl rfl rfl ?_; intro W11 HMm CW11))
      simp only [K0, K1, L1, L2, K2, K3, K4, K5, K6, K7, Nat.reduceAdd, Nat.reduceSub] at HMm
      replace H := Lib.hid HMm
      clear HMm
      refine Stay.go ?_
      generalize w10.heap.size = rb at *
      have B := H.out.mem.blk (i := 1) rfl
      have BB := Lib.hid B
      have KC := Lib.hid (fun (w' : World) (h : Chg (fun _ => False) W11 w') => (⟨h.cell ((BB.out.cell 1).trans rfl) id, h.cell ((BB.out.cell 0).trans rfl) id, trivial⟩ : w'.cell? ⟨rb, 1, none⟩ = some (.int .i64 qg) ∧ w'.cell? ⟨rb, 0, none⟩ = some (.string qn) ∧ True))
      have hrl := B.lt
      clear B
      go_wp2_with fail
      refine Evo2.start' (ℓ := none) (S := Chg (fun _ => False)) (E := Grow.G) (by kernel_rfl) ⟨Chg.pre _, by decide +kernel, (by intro c a d v w h; cases d <;> exact h), by decide +kernel⟩ (fun ok => ?_)
      refine Evo2.va ok 0 _ _ ?_
      refine Evo2.va ok 1 _ _ ?_
      refine Evo2.va ok 2 _ _ ?_
      first | (refine Evo2.va ok 3 _ _ ?_) | (refine Evo2.vi ok 3 _ ?_)
      first | (refine Evo2.vl ok 4 KC.out (Chg.refl (fun _ => False) _) _ _ ?_) | (refine Evo2.va ok 4 _ _ ?_) | (refine Evo2.vi ok 4 _ ?_)
      first | (refine Evo2.va ok 5 _ _ ?_) | (refine Evo2.vi ok 5 _ ?_)
      first | (refine Evo2.va ok 6 _ _ ?_) | (refine Evo2.vi ok 6 _ ?_)
      refine Evo2.va ok 7 _ _ ?_
      refine Evo2.va ok 8 _ _ ?_
      first | (refine Evo2.va ok 9 _ _ ?_) | (refine Evo2.vi ok 9 _ ?_)
      first | (refine Evo2.vl ok 10 KC.out (Chg.refl (fun _ => False) _) _ _ ?_) | (refine Evo2.va ok 10 _ _ ?_) | (refine Evo2.vi ok 10 _ ?_)
      first | (refine Evo2.va ok 11 _ _ ?_) | (refine Evo2.vi ok 11 _ ?_)
      first | (refine Evo2.cal ok 12 ?_ 18 ?_ ?_ ?_ ?_; rotate_left 2; (focus (intro w'; go_simp <;> with_reducible rfl)); (focus (intro w' g'; with_reducible exact RV.out w')); simp only [Act.put, L0, L1, L2]) | (refine Evo2.vi ok 12 _ ?_)
      first | (refine Evo2.va ok 13 _ _ ?_) | (refine Evo2.vi ok 13 _ ?_)
      refine Evo2.va ok 14 _ _ ?_
      refine Evo2.done (by decide +kernel) (fun wz gz => ?_)
      have AZ := Chg.trans (Chg.refl (fun _ => False) _) (Chg.grow gz)
      replace H := Lib.hid ((H.out.grow (FP.out _ _) (AZ.toGrow (fun _ _ => id))).take 1)
      clear AZ gz KC BB RV
      go_wp2_with fail
      go_roundw
      case rel => exact ⟨k + 1, M2, l1, by omega, by omega, rfl, by go_num, by omega, P1, PP, H⟩
      case measure => simp [_root_.Go.RowKit.intOf]; omega
    · have okl := hold_bkok H.out
      have N1 := XM.out.name okl
      have N2 : Hid (latR l wN = ⟨#[]⟩) := Lib.hid (by unfold latR; rw [topK_no (fun x hx => by unfold mineR; rw [XP.out x hx, Bool.and_false])]; rfl)
      have hl9 : l.length ≤ 1000 := by omega
      have h3 : ¬ k < zs.length ∨ (k < zs.length ∧ ¬ k < 10) := by omega
      have RM := Lib.hid (fun w => rrev_any wN M w (by decide))
      obtain ⟨mv, hmv⟩ : ∃ mv, revS wN M = mv := ⟨_, rfl⟩
      rw [hmv] at N1 RM
      clear XM XP h12 okl hmv
      by_cases hM0 : M = 0
      · rw [if_pos hM0] at N1
        have N1 := Lib.hid N1
        subst hM0
        rcases h3 with c1 | ⟨c1, c2⟩
        case' inl => have d1 : decide ((k : Int) < (zs.length : Int)) = false := decide_eq_false (by omega)
        case' inr =>
          have d1 : decide ((k : Int) < (zs.length : Int)) = true := decide_eq_true (by omega)
          have d2 : decide ((k : Int) < 10) = false := decide_eq_false (by omega)
        all_goals
          go_wp2_with fail
          refine (hold_bklatest (mt := ⟨#[]⟩) (st := ⟨#[]⟩) H.out FE.out (tabG HT.out H.out.below) wN (by decide) hl9 N1.out N2.out).mono ?_
          rintro e w8 ⟨rfl, -, hh⟩
          replace H := Lib.hid hh
          clear hh
          go_wp2_with fail
          go_ret
          exact ⟨rfl, H.out.below⟩
      · rw [if_neg hM0] at N1
        have N1 := Lib.hid N1
        have e0 : (M == 0) = false := by simpa using hM0
        have e1 : decide (0 < M) = true := decide_eq_true (by omega)
        have e2 : 0 < M := by omega
        rcases h3 with c1 | ⟨c1, c2⟩
        case' inl => have d1 : decide ((k : Int) < (zs.length : Int)) = false := decide_eq_false (by omega)
        case' inr =>
          have d1 : decide ((k : Int) < (zs.length : Int)) = true := decide_eq_true (by omega)
          have d2 : decide ((k : Int) < 10) = false := decide_eq_false (by omega)
        all_goals
          go_wp2_with fail
          refine (hold_bklatest (mt := mv) (st := ⟨#[]⟩) H.out FE.out (tabG HT.out H.out.below) wN (by decide) hl9 N1.out N2.out).mono ?_
          rintro e w8 ⟨rfl, -, hh⟩
          replace H := Lib.hid hh
          clear hh
          go_wp2_with fail
          refine (RM.out _).mono ?_
          rintro e w9 ⟨rfl, g9⟩
          replace H := Lib.hid (H.out.grow (FP.out _ _) g9)
          clear g9
          go_wp2_with fail
          go_ret
          exact ⟨rfl, H.out.below⟩
end Go.Proofs.YtjcdmnogmpjkkaaDoor


/- The walk of StampPlays. -/
import Derived.Test.YtjcdmnogmpjkkaaDoorZ97
import Derived.Test.YtjcdmnogmpjkkaaDoorZ95
namespace Go.Proofs.YtjcdmnogmpjkkaaDoor
set_option maxRecDepth 100000
set_option linter.unusedVariables false
set_option linter.unusedSimpArgs false
set_option linter.unnecessarySimpa false
open Go.RowKit Go.Args

set_option maxHeartbeats 64000000 in
theorem walkStampPlays (w : World) (la : Option Addr) (xs : List StepD) (lc : Nat) (hl : StepsL w la xs) (ht : Tab w) :
    Calls Tryd.prog 3 #[.slice la xs.length lc] w fun e w' => e = .returned (.bool true) ∧ Below w.heap.size w w' := by
  have KN := Lib.hid (known12_any w ht)
  have HT := Lib.hid ht
  have FP := Lib.hid (fun g x l => TwoB.foot g x l)
  have FR := Lib.hid (fun x l => rb_rest x l)
  have FB := Lib.hid (fun x l => bk_rest x l)
  have FE := Lib.hid Emp.foot
  have HX := Lib.hid hl
  have CE : (Tryd.prog.info? 33).map (·.size) = some 6 := by kernel_rfl
  clear hl ht
  go_enter Tryd.func3, Tryd.ntmps3
  go_wp2_with fail
  refine KN.out.mono ?_
  rintro e w3 ⟨rfl, hg⟩
  have H := Lib.hid ((Hold.nil w).grow Emp.foot hg)
  clear hg KN
  go_wp2_with fail
  refine (hold_bknew H.out FE.out).mono ?_
  rintro e w4 ⟨g, rfl, hh⟩
  have H5 := rb_new hh (BkB.foot g []) FE.out
  obtain ⟨W5, hW5⟩ : ∃ W5, W5 = w4.alloc (.cells #[.slice none 0 0, .slice none 0 0] rbkT) := ⟨_, rfl⟩
  have H := Lib.hid H5
  clear hh H5
  go_wp2_with fail
  rw [← hW5] at H ⊢
  clear hW5
  generalize w4.heap.size = x at *
  go_loopw [5] (fun i wr => ∃ (k : Nat) (l : List Rv), k ≤ 50 ∧ l.length ≤ k ∧ i = .int .i64 (k : Int) ∧ Hid (Hold w wr [] (TwoB g x l))) (fun i _ => 50 - (_root_.Go.RowKit.intOf i).toNat)
  case atStart => exact ⟨0, [], by omega, Nat.le_refl _, rfl, H⟩
  case round =>
    clear H
    obtain ⟨k, l, hk, hll, rfl, H⟩ := hrel
    have hk1 : IntKind.i64.wrap ((k : Int) + 1) = (k : Int) + 1 := IntWalk.i64_in _ ⟨by omega, by omega⟩
    by_cases h12 : k < xs.length ∧ k < 50
    · obtain ⟨h1, h2⟩ := h12
      obtain ⟨y, hy⟩ : ∃ y, xs[k]? = some y := ⟨_, List.getElem?_eq_getElem h1⟩
      obtain ⟨b, off, rfl, hcc⟩ := HX.out.at hy
      have ok := HX.out.ok y (List.mem_of_getElem? hy)
      obtain ⟨xk, xn, xm, ⟨e0, e1, e2, e3, e4, e5⟩⟩ := y
      obtain ⟨s, f1, f2, f3, f4, f5, ef, hfe, hgf⟩ := gcfg_some ⟨e0, e1, e2, e3, e4, e5⟩ xm ok.c ok.n
      obtain ⟨hnb, hcw, hns⟩ := gcfg_nm hfe
      have GF := Lib.hid hgf
      have HFE := Lib.hid hfe
      have HCW := Lib.hid hcw
      have HNB := Lib.hid hnb
      have HC := Lib.hid hcc
      have W12 := Lib.hid (fun w => within12_any xn 12 w (by omega) (by omega) ok.g.1 ok.g.2)
      have W19 := Lib.hid (fun w => within12_any xn 19 w (by omega) (by omega) ok.g.1 ok.g.2)
      have WK3 := Lib.hid (fun w => within12_any xk 3 w (by omega) (by omega) ok.k.1 ok.k.2)
      have r12 := withinI_range xn 12 (by omega)
      have r3 := withinI_range xk 3 (by omega)
      have d1' : decide ((k : Int) < (xs.length : Int)) = true := decide_eq_true (by omega)
      have d2' : decide ((k : Int) < 50) = true := decide_eq_true (by omega)
      have k1 : (0 : Int) ≤ (k : Int) := by omega
      have k2 : (k : Int) < (xs.length : Int) := by omega
      have c0 := HC.out wr H.out.below 0 _ rfl
      have c1 := HC.out wr H.out.below 1 _ rfl
      dsimp only at c0 c1
      rw [Nat.add_zero] at c0
      generalize withinI xn 12 = v12 at *
      generalize withinI xn 19 = v19 at *
      generalize withinI xk 3 = v3 at *
      obtain ⟨G1, hG1⟩ : ∃ G1, 1 + v12 = G1 := ⟨_, rfl⟩
      obtain ⟨G2, hG2⟩ : ∃ G2, 999999 - v3 = G2 := ⟨_, rfl⟩
      have hw1 : IntKind.i64.wrap (1 + v12) = G1 := by rw [hG1]; exact IntWalk.i64_in _ ⟨by omega, by omega⟩
      have hw2 : IntKind.i64.wrap (999999 - v3) = G2 := by rw [hG2]; exact IntWalk.i64_in _ ⟨by omega, by omega⟩
      have b1 : 1 ≤ G1 ∧ G1 ≤ 999999 := by omega
      have b2 : 1 ≤ G2 ∧ G2 ≤ 999999 := by omega
      clear hy hcc ok ef hfe hgf hcw hnb hG1 hG2 r12 r3
      go_wp2_with fail
      refine (W12.out _).mono ?_
      rintro e wx ⟨rfl, rfl⟩
      go_wp2_with fail
      refine (W19.out _).mono ?_
      rintro e wx ⟨rfl, rfl⟩
      have hzc : v19 = 0 ∨ ¬ v19 = 0 := Decidable.em _
      rcases hzc with hz | hz
      case' inl =>
        have z0 : (v19 == 0) = true := by simpa using hz
        clear hz
        go_wp2_with fail
        refine (WK3.out _).mono ?_
        rintro e wx ⟨rfl, rfl⟩
        go_wp2_with fail
        have bG := b2
        clear b1 b2 hw1 hw2
        generalize G2 = G at *
      case' inr =>
        have z0 : (v19 == 0) = false := by simpa using hz
        clear hz
        go_wp2_with fail
        have bG := b1
        clear b1 b2 hw1 hw2
        generalize G1 = G at *
      all_goals
        clear c0 c1 z0 W12 W19
        have KC := Lib.hid (fun (w' : World) (h : Chg (fun j => wr.heap.size ≤ j) wr w') => (have q := HC.out w' (Grow.G.trans H.out.below (h.toGrow (fun j hj (z : wr.heap.size ≤ j) => by omega))); ⟨q 2 _ rfl, q 3 _ rfl, q 4 _ rfl, q 5 _ rfl, q 6 _ rfl, q 7 _ rfl, q 8 _ rfl, trivial⟩ : w'.cell? ⟨b, off + k * 9 + 2, none⟩ = some (.int .i64 xm) ∧ w'.cell? ⟨b, off + k * 9 + 3, none⟩ = some (.string e0) ∧ w'.cell? ⟨b, off + k * 9 + 4, none⟩ = some (.int .i64 e1) ∧ w'.cell? ⟨b, off + k * 9 + 5, none⟩ = some (.int .i64 e2) ∧ w'.cell? ⟨b, off + k * 9 + 6, none⟩ = some (.int .i64 e3) ∧ w'.cell? ⟨b, off + k * 9 + 7, none⟩ = some (.int .i64 e4) ∧ w'.cell? ⟨b, off + k * 9 + 8, none⟩ = some (.int .i64 e5) ∧ True))
        refine Evo2.start' (ℓ := some 12) (S := Chg (fun j => wr.heap.size ≤ j)) (E := Grow.G) (by kernel_rfl) ⟨Chg.pre _, by decide +kernel, (by intro c a d v w h; cases d <;> exact h), by decide +kernel⟩ (fun ok => ?_)
        refine Evo2.va ok 0 _ _ ?_
        refine Evo2.va ok 1 _ _ ?_
        refine Evo2.va ok 2 _ _ ?_
        refine Evo2.va ok 3 _ _ ?_
        first | (refine Evo2.vl ok 4 KC.out (Chg.refl (fun j => wr.heap.size ≤ j) _) _ _ ?_) | (refine Evo2.va ok 4 _ _ ?_)
        refine Evo2.va ok 5 _ _ ?_
        refine Evo2.va ok 6 _ _ ?_
        refine Evo2.va ok 7 _ _ ?_
        refine Evo2.va ok 8 _ _ ?_
        first | (refine Evo2.vl ok 9 KC.out (Chg.refl (fun j => wr.heap.size ≤ j) _) _ _ ?_) | (refine Evo2.va ok 9 _ _ ?_)
        (refine Evo2.cal ok 10 ?_ 14 ?_ ?_ ?_ ?_; rotate_left 2; (focus (intro w'; go_simp <;> with_reducible rfl)); (focus (intro w' g'; with_reducible exact GF.out w')); simp only [Act.put, L0, L1, L2])
        refine Evo2.all [11] (by decide +kernel) rfl ?_
        intro wp1 gp1 iq hq
        simp only [List.mem_cons, List.mem_nil_iff, or_false] at hq
        have AP1 := Chg.trans (Chg.refl (fun j => wr.heap.size ≤ j) _) (Chg.grow gp1)
        subst hq
        refine Evo2.runs (by rfl) (by rfl) (fun K' hK' => ?_)
        (try obtain ⟨q1, q2, q3, q4, q5, q6, q7⟩ := KC.out wp1 AP1)
        go_simp
        (try (simp only [Evo.after_value, Evo.after_skip]))
        refine hK'.out _ _ ?_
        clear hK'
        simp only [Act.put, L0, L1, L2]
        (try clear q1 q2 q3 q4 q5 q6 q7)
        refine ⟨.inr (Chg.alloc (Chg.refl _ _) _), ?_⟩
        generalize hG1 : World.alloc wp1 _ = wg1
        have GG1 : Grow.G wp1 wg1 := hG1 ▸ Grow.G.alloc (Grow.G.refl _) _
        have NC1 := (congrArg (fun W : World => W.heap[wp1.heap.size]?) hG1).symm.trans (MapKept.heap_alloc wp1 _).1
        have NL1 : wp1.heap.size < wg1.heap.size := by rw [← hG1]; simp
        clear hG1
        refine Evo2.all [12] (by decide +kernel) rfl ?_
        intro wp2 gp2 iq hq
        simp only [List.mem_cons, List.mem_nil_iff, or_false] at hq
        have AP2 := Chg.trans (Chg.trans AP1 (Chg.grow GG1)) (Chg.grow gp2)
        have NC1 := (gp2.block _ NL1).trans NC1
        have NL1 := Nat.lt_of_lt_of_le NL1 gp2.size
        subst hq
        refine upStoreAll (by rfl) (by rfl) rfl rfl rfl (n := 6) (by kernel_rfl) (NC1) rfl rfl rfl ?_
        intro wc2 BZ CW2
        have CH2 : Chg (fun j => wr.heap.size ≤ j) _ _ := CW2.mono (fun j _ e => by have e : j = _ := e; show _ ≤ j; have := AP1.size; omega)
        refine ⟨.inl (by first | rfl | trivial), ?_⟩
        simp only [Act.put, L0, L1, L2]
        refine Evo2.done (by decide +kernel) (fun wz gz => ?_)
        have AZ := Chg.trans (Chg.trans AP2 CH2) (Chg.grow gz)
        have GZ := AZ.toGrow (fun j hj (z : wr.heap.size ≤ j) => by omega)
        have H2 := H.out.add (FP.out _ _ _) GZ (b := wp1.heap.size) (cs := [.string s, .int .i64 f1, .int .i64 f2, .int .i64 f3, .int .i64 f4, .int .i64 f5]) (BZ.grow gz) AP1.size
        simp only [List.nil_append] at H2
        generalize wp1.heap.size = cb at *
        have H := Lib.hid H2
        clear H2 GZ AZ gz BZ KC GF
        rename World => WB
        have c0 := HC.out WB H.out.below 0 _ rfl
        dsimp only at c0
        rw [Nat.add_zero] at c0
        obtain ⟨sv, hsv⟩ : ∃ sv, revS s G = sv := ⟨_, rfl⟩
        have zs1 := revS_size s G
        rw [hsv] at zs1
        have HSV := Lib.hid hsv
        have hl9 : l.length ≤ 900 := by omega
        go_wp2_with fail
        refine (WK3.out _).mono ?_
        rintro e wx ⟨rfl, rfl⟩
        by_cases h3 : 0 < v3
        · have z3 : decide (0 < v3) = true := decide_eq_true h3
          obtain ⟨bo, hbo⟩ : ∃ bo, newK l ⟨s, f1, f2, f3, f4, f5⟩ G = bo := ⟨_, rfl⟩
          obtain ⟨l1, hl1⟩ : ∃ l1, putK l ⟨s, f1, f2, f3, f4, f5⟩ G = l1 := ⟨_, rfl⟩
          have P4 : l1.length ≤ k + 1 := by have := putK_len l ⟨s, f1, f2, f3, f4, f5⟩ G; rw [hl1] at this; omega
          have HBO := Lib.hid hbo
          have HL1 := Lib.hid hl1
          have SA := Lib.hid (fun (w' : World) (L : List MBox) (h : Hold w w' L (TwoB g x l1)) => same12_any h FE.out (tabG HT.out h.below) (by omega))
          clear hbo hl1 hsv c0
          go_wp2_with ((refine Mem.loadAll 0 (t := 33) rfl rfl rfl Tryd.underlying33 (n := 6) (by kernel_rfl) H.out.mem rfl rfl ?_))
          refine (hold_bkstamp (st := sv) (bo := bo) (l' := l1) H.out (FR.out _ _) (tabG HT.out H.out.below) ⟨s, f1, f2, f3, f4, f5⟩ G HFE.out bG hl9 HSV.out HBO.out HL1.out).mono ?_
          rintro e w7 ⟨rfl, hh⟩
          replace H := Lib.hid hh
          clear hh
          go_wp2_with ((refine Mem.loadAll 0 (t := 33) rfl rfl rfl Tryd.underlying33 (n := 6) (by kernel_rfl) H.out.mem rfl rfl ?_))
          refine (hold_rbstamp (st := sv) (bo := bo) (l' := l1) H.out.rot (FB.out _ _) ⟨s, f1, f2, f3, f4, f5⟩ G HCW.out (by dsimp only; omega) ⟨HNB.out, bG⟩ hl9 HSV.out HBO.out HL1.out).mono ?_
          rintro e w8 ⟨rfl, hh⟩
          replace H := Lib.hid hh.rot
          clear hh
          go_wp2_with fail
          refine (SA.out _ _ H.out).mono ?_
          rintro e w9 ⟨rfl, g9⟩
          have H := Lib.hid ((H.out.grow (FP.out _ _ _) g9).take 0)
          clear g9 SA
          go_wp2_with fail
          go_roundw
          case rel => exact ⟨k + 1, l1, by omega, by omega, by go_num, H⟩
          case measure => simp [_root_.Go.RowKit.intOf]; omega
        · have z3 : decide (0 < v3) = false := decide_eq_false h3
          obtain ⟨er, her⟩ : ∃ er, errK l sv = er := ⟨_, rfl⟩
          obtain ⟨l1, hl1⟩ : ∃ l1, setK l sv = l1 := ⟨_, rfl⟩
          have P4 : l1.length ≤ k + 1 := by have := setK_len l sv; rw [hl1] at this; omega
          have SA := Lib.hid (fun (w' : World) (L : List MBox) (h : Hold w w' L (TwoB g x l1)) => same12_any h FE.out (tabG HT.out h.below) (by omega))
          have RV := Lib.hid (fun w => rrev_any s G w (by unfold maxLen; omega))
          rw [hsv] at RV
          obtain ⟨F, hF⟩ := H.out.named
          have HF := Lib.hid hF
          have PB := Lib.hid (fun (w' : World) (h : HoldF w w' [(cb, [.string s, .int .i64 f1, .int .i64 f2, .int .i64 f3, .int .i64 f4, .int .i64 f5], 33)] (TwoB g x l) F) => hold_bkproveN (er := er) (l' := l1) h (FR.out _ _) sv (by omega) (by omega) her hl1)
          have PR := Lib.hid (fun (w' : World) (F2 : Nat → Prop) (h : HoldF w w' [(cb, [.string s, .int .i64 f1, .int .i64 f2, .int .i64 f3, .int .i64 f4, .int .i64 f5], 33)] (Sep (BkB g l1) (Sep (RbP x l) Emp)) F2) => hold_rbproveN (er := er) (l' := l1) (holdF_rot h) (FB.out _ _) sv (by omega) her hl1)
          have FF := Lib.hid (show Foot (Sep (BkB g l1) (Sep (RbP x l) Emp)) from (BkB.foot g l1).sep (rb_rest x l))
          have hcl := H.out.mem.lt (i := 0) rfl
          have KC := Lib.hid (fun (w' : World) (h : Chg (fun j => F j ∨ WB.heap.size ≤ j) WB w') => (⟨h.cell (HF.out.mem.cell (i := 0) (o := 0) rfl rfl) (fun q => q.elim (HF.out.ap _ List.mem_cons_self) (fun z => by omega)), trivial⟩ : w'.cell? ⟨cb, 0, none⟩ = some (.string s) ∧ True))
          clear hF her hl1 hsv c0 H
          go_wp2_with fail
          refine Evo2.start' (ℓ := none) (S := Chg (fun j => F j ∨ WB.heap.size ≤ j)) (E := Grow.G) (by kernel_rfl) ⟨Chg.pre _, by decide +kernel, (by intro c a d v w h; cases d <;> exact h), by decide +kernel⟩ (fun ok => ?_)
          refine Evo2.va ok 0 _ _ ?_
          refine Evo2.va ok 1 _ _ ?_
          first | (refine Evo2.vl ok 2 KC.out (Chg.refl (fun j => F j ∨ WB.heap.size ≤ j) _) _ _ ?_) | (refine Evo2.va ok 2 _ _ ?_)
          refine Evo2.va ok 3 _ _ ?_
          (refine Evo2.cal ok 4 ?_ 18 ?_ ?_ ?_ ?_; rotate_left 2; (focus (intro w'; go_simp <;> with_reducible rfl)); (focus (intro w' g'; with_reducible exact RV.out w')); simp only [Act.put, L0, L1, L2])
          refine Evo2.va ok 6 _ _ ?_
          refine Evo2.va ok 7 _ _ ?_
          first | (refine Evo2.vl ok 8 KC.out (Chg.refl (fun j => F j ∨ WB.heap.size ≤ j) _) _ _ ?_) | (refine Evo2.va ok 8 _ _ ?_)
          refine Evo2.va ok 9 _ _ ?_
          refine Evo2.all [5] (by decide +kernel) rfl ?_
          intro wp1 gp1 iq hq
          simp only [List.mem_cons, List.mem_nil_iff, or_false] at hq
          have AP1 := Chg.trans (Chg.refl (fun j => F j ∨ WB.heap.size ≤ j) _) (Chg.grow gp1)
          (try replace HF1 := Lib.hid (HF1.out.grow FF.out gp1))
          subst hq
          refine Evo2.enters 17 _ (by rfl) (by rfl) (by go_simp; exact ⟨rfl, rfl⟩) ?_
          refine (PB.out wp1 (HF.out.grow (FP.out _ _ _) gp1)).mono ?_
          rintro e wc1 ⟨rfl, F1, HF1, c1, fr1⟩; have CH1 : Chg (fun j => F j ∨ WB.heap.size ≤ j) _ _ := c1.mono (fun j _ h => .inl h); have hf1 := Lib.hid (fun j (q : F1 j) => ((fr1 j q).imp id (fun z => Nat.le_trans AP1.size z) : F j ∨ WB.heap.size ≤ j)); replace HF1 := Lib.hid HF1
          refine ⟨_, rfl, .inr CH1, ?_⟩
          have AC1 := Chg.trans AP1 CH1
          simp only [Act.put, L0, L1, L2]
          (refine Evo2.cal ok 10 ?_ 18 ?_ ?_ ?_ ?_; rotate_left 2; (focus (intro w'; go_simp <;> with_reducible rfl)); (focus (intro w' g'; with_reducible exact RV.out w')); simp only [Act.put, L0, L1, L2])
          refine Evo2.all [11] (by decide +kernel) rfl ?_
          intro wp2 gp2 iq hq
          simp only [List.mem_cons, List.mem_nil_iff, or_false] at hq
          have AP2 := Chg.trans AC1 (Chg.grow gp2)
          (try replace HF1 := Lib.hid (HF1.out.grow FF.out gp2))
          subst hq
          refine Evo2.enters 19 _ (by rfl) (by rfl) (by go_simp; exact ⟨rfl, rfl⟩) ?_
          refine (PR.out wp2 F1 HF1.out).mono ?_
          rintro e wc2 ⟨rfl, F2, HF2, c2, -⟩; have CH2 : Chg (fun j => F j ∨ WB.heap.size ≤ j) _ _ := c2.mono (fun j _ h => hf1.out j h)
          refine ⟨_, rfl, .inr CH2, ?_⟩
          have AC2 := Chg.trans AP2 CH2
          simp only [Act.put, L0, L1, L2]
          refine Evo2.va ok 12 _ _ ?_
          refine Evo2.done (by decide +kernel) (fun wz gz => ?_)
          have AZ := Chg.trans AC2 (Chg.grow gz)
          (try replace HF1 := Lib.hid (HF1.out.grow FF.out gz))
          have H := Lib.hid ((holdF_rot HF2).hold.grow (FP.out _ _ _) gz)
          clear AZ gz HF2 HF1 hf1 CH1 CH2 c1 c2 fr1 PB PR RV KC HF
          go_wp2_with fail
          refine (SA.out _ _ H.out).mono ?_
          rintro e w9 ⟨rfl, g9⟩
          have H := Lib.hid ((H.out.grow (FP.out _ _ _) g9).take 0)
          clear g9 SA
          go_wp2_with fail
          go_roundw
          case rel => exact ⟨k + 1, l1, by omega, by omega, by go_num, H⟩
          case measure => simp [_root_.Go.RowKit.intOf]; omega
    · have h3 : ¬ k < xs.length ∨ (k < xs.length ∧ ¬ k < 50) := by omega
      clear h12
      rcases h3 with z1 | ⟨z1, z2⟩
      case' inl => have d1' : decide ((k : Int) < (xs.length : Int)) = false := decide_eq_false (by omega)
      case' inr =>
        have d1' : decide ((k : Int) < (xs.length : Int)) = true := decide_eq_true (by omega)
        have d2' : decide ((k : Int) < 50) = false := decide_eq_false (by omega)
      all_goals
        go_wp2_with fail
        go_ret
        exact ⟨rfl, H.out.below⟩
end Go.Proofs.YtjcdmnogmpjkkaaDoor


/- The walk of LeadAgain. -/
import Derived.Test.YtjhfjjkfnmnkgaaZ98L
namespace Go.Proofs.Ytjhfjjkfnmnkgaa
set_option maxRecDepth 100000
set_option linter.unusedVariables false
set_option linter.unusedSimpArgs false
set_option linter.unnecessarySimpa false
open Go.RowKit Go.Args

set_option maxHeartbeats 64000000 in
theorem walkLeadAgain (w : World) (v0 : Value) (zs0 : List Int) (hz0 : IntSlice w v0 zs0) (v1 : Value) (zs1 : List Int) (hz1 : IntSlice w v1 zs1) (v2 : Value) (zs2 : List Int) (hz2 : IntSlice w v2 zs2) (whole : Int) (hwh : wf64 whole) :
    Calls Try.prog 8 #[v0, v1, v2, .int .i64 whole] w fun e w' => e = .returned (.bool true) ∧ Below w.heap.size w w' := by
  have FE := Lib.hid Emp.foot
  have FP := Lib.hid (fun g l nw c => PlP.foot g l nw c)
  have FR := Lib.hid (fun g l => RolP.foot g l)
  have FT := Lib.hid (fun sh tg va vb => TabF.foot sh tg va vb)
  have KN := Lib.hid (known13_any w)
  have HZ0 := Lib.hid hz0
  have HZ1 := Lib.hid hz1
  obtain ⟨na, nc, rfl, hwf, hnl, hnr⟩ := int_row hz2
  unfold maxLen at hnl
  have NR := Lib.hid hnr
  have NW := Lib.hid hwf
  obtain ⟨x, hx⟩ : ∃ x, mkS zs0 = x := ⟨_, rfl⟩
  obtain ⟨y, hy⟩ : ∃ y, mkS zs1 = y := ⟨_, rfl⟩
  have MX := Lib.hid (show MkT x [] from hx ▸ mk_tab zs0 [])
  have MY := Lib.hid (show MkT y [] from hy ▸ mk_tab zs1 [])
  have HXX := Lib.hid hx
  have HYY := Lib.hid hy
  have lx := MX.out.sd.len
  have ly := MY.out.sd.len
  have W61 := Lib.hid (fun w => within13_any whole 61 w (by omega) (by omega) hwh.1 hwh.2)
  have rW := withinI_range whole 61 (by omega)
  obtain ⟨W, hW⟩ : ∃ W, withinI whole 61 = W := ⟨_, rfl⟩
  rw [hW] at W61 rW
  have W4 := Lib.hid (fun (k : Nat) w => within13_any (zs2.getD k 0) 4 w (by omega) (by omega) (hwf k).1 (hwf k).2)
  have R4 := Lib.hid (fun k => withinI_range (zs2.getD k 0) 4 (by omega))
  obtain ⟨l1, e1⟩ : ∃ l, turnW [] fr13 x [] 0 W = l := ⟨_, rfl⟩
  have b1 : findW l1 st13 = none := by rw [← e1, findW_turn_ne st_ne_fr]; rfl
  have i1 : WInv l1 1 := e1 ▸ WInv.nil.turn MX.out.sd MX.out.tl MX.out.zt (by omega)
  have s1 : (stepW (findW [] fr13) fr13 x [] 0 W).sh = x := by rw [show findW [] fr13 = none from rfl, stepW_none MX.out.sd]
  have HB1 := Lib.hid (And.intro e1 (And.intro b1 (And.intro i1 s1)))
  clear e1 b1 i1 s1 hx hy hW hwh hz0 hz1 hz2 hwf hnr
  go_enter Try.func8, Try.ntmps8
  go_wp2_with fail
  refine KN.out.mono ?_
  rintro e w1 ⟨rfl, hg⟩
  have H := Lib.hid ((Hold.nil w).grow Emp.foot hg)
  clear hg KN
  go_wp2_with fail
  refine (hold_plnew H.out FE.out).mono ?_
  rintro e w2 ⟨g, rfl, hh⟩
  replace H := Lib.hid hh
  clear hh
  go_wp2_with fail
  refine (at_make H.out (FP.out _ _ _ _) FE.out HZ0.out (nilS _) HXX.out (show mkT [] = [] from rfl)).mono ?_
  rintro e w3 ⟨xa, xc, xb, xd, rfl, hh⟩
  replace H := Lib.hid hh
  clear hh
  go_wp2_with fail
  refine (at_make H.out (FP.out _ _ _ _) ((FT.out _ _ _ _).sep FE.out) HZ1.out (nilS _) HYY.out (show mkT [] = [] from rfl)).mono ?_
  rintro e w4 ⟨ya, yc, yb, yd, rfl, hh⟩
  obtain ⟨w5, hw5⟩ : ∃ w5, w5 = (w4.alloc (.cells #[.slice xa x.length xc, .slice xb 0 xd] tablT13)).alloc (.cells #[.slice ya y.length yc, .slice yb 0 yd] tablT13) := ⟨_, rfl⟩
  obtain ⟨B, hB⟩ : ∃ B, B = Sep (TabS y [] ya yc yb yd) (Sep (TabS x [] xa xc xb xd) Emp) := ⟨_, rfl⟩
  have FB : Hid (Foot B) := Lib.hid (by rw [hB]; exact (FT.out _ _ _ _).sep ((FT.out _ _ _ _).sep FE.out))
  have RB : Hid (∀ (w' : World) L A, Hold w w' L (Sep A B) → (ShSl w' xa x ∧ TgSl w' xb ([] : List Tgo)) ∧ (ShSl w' ya y ∧ TgSl w' yb ([] : List Tgo))) := Lib.hid (fun w' L A h => by rw [hB] at h; exact ⟨hold_rows3 h, hold_rows2 h⟩)
  rw [← hB] at hh
  have H : Hid (Hold w w5 [(w4.heap.size, [.slice xa x.length xc, .slice xb 0 xd], tablT13), (w4.heap.size + 1, [.slice ya y.length yc, .slice yb 0 yd], tablT13)] (Sep (PlP g [] 0 0) B)) := Lib.hid (by rw [hw5]; exact (hh.alloc' ((FP.out _ _ _ _).sep FB.out) _ _ rfl).alloc' ((FP.out _ _ _ _).sep FB.out) _ _ (g := w4.heap.size + 1) (by simp))
  clear hh hB HZ0 HZ1 HXX HYY
  go_wp2_with fail
  refine (W61.out _).mono ?_
  rintro e wx ⟨rfl, rfl⟩
  rw [← hw5]
  clear hw5 W61
  have z0a := H.out.mem.cell (i := 0) (o := 0) rfl rfl
  have z0b := H.out.mem.cell (i := 0) (o := 1) rfl rfl
  have z0l := H.out.mem.lt (i := 0) rfl
  go_wp2_with fail
  refine (at_turn H.out FB.out fr13 (by decide) xa x xc xb [] xd 0 W (by omega) WInv.nil MX.out (RB.out _ _ _ H.out).1 (by omega) (by omega) (by omega) HB1.out.1 HB1.out.2.2.2).mono ?_
  rintro e w6 ⟨ra, rk, rb, rd, rfl, hh⟩
  clear z0a z0b z0l
  replace H := Lib.hid (hold_drop2 hh)
  clear hh
  go_wp2_with fail
  go_loopw [13, 14] (fun nv iv wr => ∃ (k : Nat) (l : List Wa) (now : Int), k ≤ 20 ∧ 0 ≤ now ∧ now ≤ 3 * (k : Int) ∧ nv = .int .i64 now ∧ iv = .int .i64 (k : Int) ∧ Hid (WInv l (1 + 3 * k) ∧ (findW l st13 = none ∨ ∃ z : Wa, findW l st13 = some z ∧ z.fr = x ∧ z.to = x ∧ z.wh = W)) ∧ Hid (Hold w wr [(w4.heap.size, [.slice xa x.length xc, .slice xb 0 xd], tablT13), (w4.heap.size + 1, [.slice ya y.length yc, .slice yb 0 yd], tablT13)] (Sep (PlP g l now (1 + 3 * k)) B))) (fun _ iv _ => 20 - (_root_.Go.RowKit.intOf iv).toNat)
  case atStart => exact ⟨0, l1, 0, by omega, by omega, by omega, rfl, rfl, Lib.hid ⟨HB1.out.2.2.1, .inl HB1.out.2.1⟩, H⟩
  case round =>
    clear H
    obtain ⟨k, l, now, hk, hn0, hn1, rfl, rfl, HI, H⟩ := hrel
    have hk1 : IntKind.i64.wrap ((k : Int) + 1) = (k : Int) + 1 := IntWalk.i64_in _ ⟨by omega, by omega⟩
    by_cases h12 : k < zs2.length ∧ k < 20
    · obtain ⟨h1, h2⟩ := h12
      obtain ⟨bb, off, rfl, hcc⟩ := NR.out k h1
      have c0 := hcc wr H.out.below
      have hbl : bb < wr.heap.size := cell_in c0
      have WK := Lib.hid (W4.out k)
      have rk := R4.out k
      generalize zs2.getD k 0 = nk at *
      generalize withinI nk 4 = d at *
      obtain ⟨n', hn'⟩ : ∃ n', now + d = n' := ⟨_, rfl⟩
      have hwn : IntKind.i64.wrap (now + d) = n' := by rw [hn']; exact IntWalk.i64_in _ ⟨by omega, by omega⟩
      have hb' : now ≤ n' ∧ 0 ≤ n' ∧ n' ≤ 3 * ((k : Int) + 1) := by omega
      have d1' : decide ((k : Int) < (zs2.length : Int)) = true := decide_eq_true (by omega)
      have d2' : decide ((k : Int) < 20) = true := decide_eq_true (by omega)
      have k1 : (0 : Int) ≤ (k : Int) := by omega
      have k2 : (k : Int) < (zs2.length : Int) := by omega
      -- the plain turns
      obtain ⟨l2, e2⟩ : ∃ l', turnW l fr13 y [] n' W = l' := ⟨_, rfl⟩
      obtain ⟨r, er⟩ : ∃ r, (stepW (findW l fr13) fr13 y [] n' W).sh = r := ⟨_, rfl⟩
      have lr : r.length ≤ 500 := er ▸ turned_len HI.out.1 MY.out (by omega)
      have i2 : WInv l2 (1 + 3 * k + 1) := e2 ▸ HI.out.1.turn MY.out.sd MY.out.tl MY.out.zt (by omega)
      obtain ⟨l3, e3⟩ : ∃ l', turnW l2 fr13 y [] n' W = l' := ⟨_, rfl⟩
      have s3 : (stepW (findW l2 fr13) fr13 y [] n' W).sh = r := by rw [← e2, findW_turn, (stepW_again _ _ _ _ _ _ _).1, er]
      have i3 : WInv l3 (1 + 3 * k + 2) := e3 ▸ i2.turn MY.out.sd MY.out.tl MY.out.zt (by omega)
      have f3 : findW l3 st13 = findW l st13 := by rw [← e3, findW_turn_ne st_ne_fr, ← e2, findW_turn_ne st_ne_fr]
      obtain ⟨l4, e4⟩ : ∃ l', turnW l3 st13 x [] n' W = l' := ⟨_, rfl⟩
      have i4 : WInv l4 (1 + 3 * (k + 1)) := by have := i3.turn (s := st13) (now := n') (wh := W) MX.out.sd MX.out.tl MX.out.zt (by omega); rw [e4] at this; exact this
      have s4 : (stepW (findW l3 st13) st13 x [] n' W).sh = x ∧ ∃ z : Wa, findW l4 st13 = some z ∧ z.fr = x ∧ z.to = x ∧ z.wh = W := by
        rw [← e4, findW_turn, f3]
        rcases HI.out.2 with q | ⟨z, q, q1, q2, q3⟩
        · rw [q, stepW_none MX.out.sd]
          exact ⟨rfl, _, rfl, rfl, rfl, rfl⟩
        · rw [q, stepW_keep q2 q3, q1, q2]
          exact ⟨roll_self MX.out.sd, _, rfl, rfl, rfl, q3⟩
      have HT := Lib.hid (And.intro (And.intro e2 er) (And.intro (And.intro e3 s3) (And.intro e4 s4.1)))
      have HJ := Lib.hid (And.intro i2 (And.intro i3 (And.intro i4 s4.2)))
      clear e2 er e3 s3 e4 s4 i2 i3 i4 f3 hcc rk hn'
      go_wp2_with fail
      refine (WK.out _).mono ?_
      rintro e wx ⟨rfl, rfl⟩
      clear c0 hbl WK
      have z1a := H.out.mem.cell (i := 1) (o := 0) rfl rfl
      have z1b := H.out.mem.cell (i := 1) (o := 1) rfl rfl
      have z1l := H.out.mem.lt (i := 1) rfl
      go_wp2_with fail
      refine (at_turn H.out FB.out fr13 (by decide) ya y yc yb [] yd n' W (by omega) HI.out.1 MY.out (RB.out _ _ _ H.out).2 (by omega) (by omega) (by omega) HT.out.1.1 HT.out.1.2).mono ?_
      rintro e w8 ⟨sa, sk, sb, sd, rfl, hh⟩
      clear H HI z1a z1b z1l
      have HA := hh.alloc' ((FP.out _ _ _ _).sep ((FT.out _ _ _ _).sep FB.out)) [.slice sa r.length sk, .slice sb 0 sd] tablT13 rfl
      obtain ⟨w9, hw9⟩ : ∃ w9, w9 = w8.alloc (.cells ([.slice sa r.length sk, .slice sb 0 sd] : List Value).toArray tablT13) := ⟨_, rfl⟩
      rw [← hw9] at HA
      obtain ⟨F, hF⟩ := HA.named
      have HF := Lib.hid hF
      have FS := Lib.hid (fun l c => (FP.out g l n' c).sep ((FT.out r [] (.slice sa r.length sk) (.slice sb 0 sd)).sep FB.out))
      have FS2 := Lib.hid (fun l c ua uk ub ud => (FP.out g l n' c).sep ((FT.out r [] (.slice ua r.length uk) (.slice ub 0 ud)).sep ((FT.out r [] (.slice sa r.length sk) (.slice sb 0 sd)).sep FB.out)))
      have FS3 := Lib.hid (fun l c va vk vb vd ua uk ub ud => (FP.out g l n' c).sep ((FT.out x [] (.slice va x.length vk) (.slice vb 0 vd)).sep ((FT.out r [] (.slice ua r.length uk) (.slice ub 0 ud)).sep ((FT.out r [] (.slice sa r.length sk) (.slice sb 0 sd)).sep FB.out))))
      have KC := Lib.hid (fun (w' : World) (h : Chg (fun j => F j ∨ w9.heap.size ≤ j) w9 w') => (⟨keepc HF.out h (i := 0) (o := 0) rfl rfl, keepc HF.out h (i := 0) (o := 1) rfl rfl, keepc HF.out h (i := 1) (o := 0) rfl rfl, keepc HF.out h (i := 1) (o := 1) rfl rfl, keepc HF.out h (i := 2) (o := 0) rfl rfl, keepc HF.out h (i := 2) (o := 1) rfl rfl, trivial⟩ : w'.cell? ⟨w4.heap.size, 0, none⟩ = some (.slice xa x.length xc) ∧ w'.cell? ⟨w4.heap.size, 1, none⟩ = some (.slice xb 0 xd) ∧ w'.cell? ⟨w4.heap.size + 1, 0, none⟩ = some (.slice ya y.length yc) ∧ w'.cell? ⟨w4.heap.size + 1, 1, none⟩ = some (.slice yb 0 yd) ∧ w'.cell? ⟨w8.heap.size, 0, none⟩ = some (.slice sa r.length sk) ∧ w'.cell? ⟨w8.heap.size, 1, none⟩ = some (.slice sb 0 sd) ∧ True))
      have S1 := Lib.hid (fun (w' : World) L F (h : HoldF w w' L (Sep (PlP g l2 n' (1 + 3 * k + 1)) (Sep (TabS r [] sa sk sb sd) B)) F) => at_turnF h ((FT.out _ _ _ _).sep FB.out) fr13 (by decide) ya y yc yb [] yd n' W (by omega) HJ.out.1 MY.out (RB.out _ _ _ (h.hold.map fun F h => Sep.assoc' h)).2 (by omega) (by omega) (by omega) HT.out.2.1.1 HT.out.2.1.2)
      have S2 := Lib.hid (fun (w' : World) L l c ua uk ub ud (h : Hold w w' L (Sep (PlP g l n' c) (Sep (TabS r [] ua uk ub ud) (Sep (TabS r [] sa sk sb sd) B)))) => same_true w' (c := uk) (d := ud) (c2 := sk) (d2 := sd) (hold_rows2 h) (hold_rows3 h) (by omega) (by decide))
      have S3 := Lib.hid (fun (w' : World) L F ua uk ub ud (h : HoldF w w' L (Sep (PlP g l3 n' (1 + 3 * k + 1 + 1)) (Sep (TabS r [] ua uk ub ud) (Sep (TabS r [] sa sk sb sd) B))) F) => at_turnF h ((FT.out _ _ _ _).sep ((FT.out _ _ _ _).sep FB.out)) st13 (by decide) xa x xc xb [] xd n' W (by omega) HJ.out.2.1 MX.out (RB.out _ _ _ (h.hold.map fun F h => Sep.assoc' (Sep.assoc' h))).1 (by omega) (by omega) (by omega) HT.out.2.2.1 HT.out.2.2.2)
      have S4 := Lib.hid (fun (w' : World) L l c va vk vb vd ua uk ub ud (h : Hold w w' L (Sep (PlP g l n' c) (Sep (TabS x [] va vk vb vd) (Sep (TabS r [] ua uk ub ud) (Sep (TabS r [] sa sk sb sd) B))))) => same_true w' (c := vk) (d := vd) (c2 := xc) (d2 := xd) (hold_rows2 h) (RB.out _ _ _ (h.map fun F h => Sep.assoc' (Sep.assoc' (Sep.assoc' h)))).1 (by omega) (by decide))
      clear hF HA hh
      go_wp2_with fail
      rw [← hw9]
      clear hw9
      refine Evo2.start' (ℓ := none) (S := Chg (fun j => F j ∨ w9.heap.size ≤ j)) (E := Grow.G) (by kernel_rfl) ⟨Chg.pre _, by decide +kernel, (by intro c a d v w h; cases d <;> exact h), by decide +kernel⟩ (fun ok => ?_)
      refine Evo2.va ok 0 _ _ ?_
      first | (refine Evo2.vl ok 1 KC.out (Chg.refl (fun j => F j ∨ w9.heap.size ≤ j) _) _ _ ?_) | (refine Evo2.va ok 1 _ _ ?_)
      refine Evo2.va ok 2 _ _ ?_
      refine Evo2.va ok 3 _ _ ?_
      first | (refine Evo2.vl ok 5 KC.out (Chg.refl (fun j => F j ∨ w9.heap.size ≤ j) _) _ _ ?_) | (refine Evo2.va ok 5 _ _ ?_)
      refine Evo2.all [4] (by decide +kernel) rfl ?_
      intro wp1 gp1 iq hq
      simp only [List.mem_cons, List.mem_nil_iff, or_false] at hq
      have AP1 := Chg.trans (Chg.refl (fun j => F j ∨ w9.heap.size ≤ j) _) (Chg.grow gp1)
      (try replace HF1 := Lib.hid (HF1.out.grow (FS2.out _ _ _ _ _ _) gp1))
      (try replace HF2 := Lib.hid (HF2.out.grow (FS3.out _ _ _ _ _ _ _ _ _ _) gp1))
      subst hq
      refine Evo2.enters 17 _ (by rfl) (by rfl) (by go_simp; exact ⟨rfl, rfl⟩) ?_
      refine (S1.out wp1 _ F (HF.out.grow (FS.out _ _) gp1)).mono ?_
      rintro e wc1 ⟨ua, uk, ub, ud, rfl, F1, HF1, c1, fr1⟩; have CH1 : Chg (fun j => F j ∨ w9.heap.size ≤ j) _ _ := c1.mono (fun j _ h => .inl h); have HF1 := Lib.hid HF1; have hf1 := Lib.hid (fun j (q : F1 j) => ((fr1 j q).imp id (fun z => Nat.le_trans AP1.size z) : F j ∨ w9.heap.size ≤ j))
      refine ⟨_, rfl, .inr CH1, ?_⟩
      have AC1 := Chg.trans AP1 CH1
      simp only [Act.put, L0, L1, L2]
      refine Evo2.all [6] (by decide +kernel) rfl ?_
      intro wp2 gp2 iq hq
      simp only [List.mem_cons, List.mem_nil_iff, or_false] at hq
      have AP2 := Chg.trans AC1 (Chg.grow gp2)
      (try replace HF1 := Lib.hid (HF1.out.grow (FS2.out _ _ _ _ _ _) gp2))
      (try replace HF2 := Lib.hid (HF2.out.grow (FS3.out _ _ _ _ _ _ _ _ _ _) gp2))
      subst hq
      refine Evo2.enters 16 _ (by rfl) (by rfl) (by go_simp; exact ⟨rfl, rfl⟩) ?_
      refine (S2.out wp2 _ _ _ ua uk ub ud HF1.out.hold).mono ?_
      rintro e wc2 ⟨rfl, hg⟩; have CH2 : Chg (fun j => F j ∨ w9.heap.size ≤ j) _ _ := Chg.grow hg; replace HF1 := Lib.hid (HF1.out.grow (FS2.out _ _ _ _ _ _) hg)
      refine ⟨_, rfl, .inr CH2, ?_⟩
      have AC2 := Chg.trans AP2 CH2
      simp only [Act.put, L0, L1, L2]
      refine Evo2.va ok 7 _ _ ?_
      refine Evo2.va ok 8 _ _ ?_
      first | (refine Evo2.va ok 9 _ _ ?_) | (refine Evo2.vi ok 9 _ ?_)
      first | (refine Evo2.vl ok 10 KC.out AC2 _ _ ?_) | (refine Evo2.va ok 10 _ _ ?_) | (refine Evo2.vi ok 10 _ ?_)
      first | (refine Evo2.va ok 11 _ _ ?_) | (refine Evo2.vi ok 11 _ ?_)
      first | (refine Evo2.va ok 12 _ _ ?_) | (refine Evo2.vi ok 12 _ ?_)
      first | (refine Evo2.vl ok 14 KC.out AC2 _ _ ?_) | (refine Evo2.va ok 14 _ _ ?_) | (refine Evo2.vi ok 14 _ ?_)
      refine Evo2.all [13] (by decide +kernel) rfl ?_
      intro wp3 gp3 iq hq
      simp only [List.mem_cons, List.mem_nil_iff, or_false] at hq
      have AP3 := Chg.trans AC2 (Chg.grow gp3)
      (try replace HF1 := Lib.hid (HF1.out.grow (FS2.out _ _ _ _ _ _) gp3))
      (try replace HF2 := Lib.hid (HF2.out.grow (FS3.out _ _ _ _ _ _ _ _ _ _) gp3))
      subst hq
      refine Evo2.enters 17 _ (by rfl) (by rfl) (by go_simp; exact ⟨rfl, rfl⟩) ?_
      refine (S3.out wp3 _ F1 ua uk ub ud HF1.out).mono ?_
      rintro e wc3 ⟨va, vk, vb, vd, rfl, F2, HF2, c3, -⟩; have CH3 : Chg (fun j => F j ∨ w9.heap.size ≤ j) _ _ := c3.mono (fun j _ h => hf1.out j h); have HF2 := Lib.hid HF2; clear HF1
      refine ⟨_, rfl, .inr CH3, ?_⟩
      have AC3 := Chg.trans AP3 CH3
      simp only [Act.put, L0, L1, L2]
      refine Evo2.all [15] (by decide +kernel) rfl ?_
      intro wp4 gp4 iq hq
      simp only [List.mem_cons, List.mem_nil_iff, or_false] at hq
      have AP4 := Chg.trans AC3 (Chg.grow gp4)
      (try replace HF1 := Lib.hid (HF1.out.grow (FS2.out _ _ _ _ _ _) gp4))
      (try replace HF2 := Lib.hid (HF2.out.grow (FS3.out _ _ _ _ _ _ _ _ _ _) gp4))
      subst hq
      refine Evo2.enters 16 _ (by rfl) (by rfl) (by go_simp; exact ⟨rfl, rfl⟩) ?_
      refine (S4.out wp4 _ _ _ va vk vb vd ua uk ub ud HF2.out.hold).mono ?_
      rintro e wc4 ⟨rfl, hg⟩; have CH4 : Chg (fun j => F j ∨ w9.heap.size ≤ j) _ _ := Chg.grow hg; replace HF2 := Lib.hid (HF2.out.grow (FS3.out _ _ _ _ _ _ _ _ _ _) hg)
      refine ⟨_, rfl, .inr CH4, ?_⟩
      have AC4 := Chg.trans AP4 CH4
      simp only [Act.put, L0, L1, L2]
      first | (refine Evo2.va ok 16 _ _ ?_) | (refine Evo2.vi ok 16 _ ?_)
      refine Evo2.va ok 17 _ _ ?_
      refine Evo2.done (by decide +kernel) (fun wz gz => ?_)
      have AZ := Chg.trans AC4 (Chg.grow gz)
      (try replace HF1 := Lib.hid (HF1.out.grow (FS2.out _ _ _ _ _ _) gz))
      (try replace HF2 := Lib.hid (HF2.out.grow (FS3.out _ _ _ _ _ _ _ _ _ _) gz))
      have H := Lib.hid (hold_drop2 (hold_drop2 (hold_drop2 (HF2.out.hold.take 2))))
      clear HF HF2 KC S1 S2 S3 S4 FS FS2 FS3
      go_wp2_with fail
      go_roundw
      case rel => exact ⟨k + 1, l4, n', by omega, by omega, by omega, rfl, by go_num, Lib.hid ⟨HJ.out.2.2.1, .inr HJ.out.2.2.2⟩, H⟩
      case measure => simp [_root_.Go.RowKit.intOf]; omega
    · have h3 : ¬ k < zs2.length ∨ (k < zs2.length ∧ ¬ k < 20) := by omega
      clear h12
      rcases h3 with z1 | ⟨z1, z2⟩
      case' inl => have d1' : decide ((k : Int) < (zs2.length : Int)) = false := decide_eq_false (by omega)
      case' inr =>
        have d1' : decide ((k : Int) < (zs2.length : Int)) = true := decide_eq_true (by omega)
        have d2' : decide ((k : Int) < 20) = false := decide_eq_false (by omega)
      all_goals
        go_wp2_with fail
        go_ret
        exact ⟨rfl, H.out.below⟩
end Go.Proofs.Ytjhfjjkfnmnkgaa

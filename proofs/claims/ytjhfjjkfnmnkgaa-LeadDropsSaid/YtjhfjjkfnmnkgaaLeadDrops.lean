
/- The walk of LeadDrops. -/
import Derived.Test.YtjhfjjkfnmnkgaaZ98L
namespace Go.Proofs.Ytjhfjjkfnmnkgaa
set_option maxRecDepth 100000
set_option linter.unusedVariables false
set_option linter.unusedSimpArgs false
set_option linter.unnecessarySimpa false
open Go.RowKit Go.Args

set_option maxHeartbeats 64000000 in
theorem walkLeadDrops (w : World) (v0 : Value) (zs0 : List Int) (hz0 : IntSlice w v0 zs0) (v1 : Value) (zs1 : List Int) (hz1 : IntSlice w v1 zs1) (whole : Int) (hwh : wf64 whole) (ta : Int) (hta : wf64 ta) :
    Calls Try.prog 6 #[v0, v1, .int .i64 whole, .int .i64 ta] w fun e w' => e = .returned (.bool true) ∧ Below w.heap.size w w' := by
  have FE := Lib.hid Emp.foot
  have FP := Lib.hid (fun g l nw c => PlP.foot g l nw c)
  have FR := Lib.hid (fun g l => RolP.foot g l)
  have FT := Lib.hid (fun sh tg va vb => TabF.foot sh tg va vb)
  have KN := Lib.hid (known13_any w)
  have HZ0 := Lib.hid hz0
  have HZ1 := Lib.hid hz1
  obtain ⟨x, hx⟩ : ∃ x, mkS zs0 = x := ⟨_, rfl⟩
  obtain ⟨y, hy⟩ : ∃ y, mkS zs1 = y := ⟨_, rfl⟩
  have MX : MkT x [] := hx ▸ mk_tab zs0 []
  have MY : MkT y [] := hy ▸ mk_tab zs1 []
  have HXX := Lib.hid hx
  have HYY := Lib.hid hy
  have lx := MX.sd.len
  have ly := MY.sd.len
  have W60 := Lib.hid (fun w => within13_any whole 60 w (by omega) (by omega) hwh.1 hwh.2)
  have r60 := withinI_range whole 60 (by omega)
  obtain ⟨W, hW⟩ : ∃ W, 1 + withinI whole 60 = W := ⟨_, rfl⟩
  have hwW : IntKind.i64.wrap (1 + withinI whole 60) = W := by rw [hW]; exact IntWalk.i64_in _ ⟨by omega, by omega⟩
  have bW : 1 ≤ W ∧ W ≤ 60 := by omega
  have WT := Lib.hid (fun w => within13_any ta W w (by omega) (by omega) hta.1 hta.2)
  have rT := withinI_range ta W (by omega)
  obtain ⟨T, hT⟩ : ∃ T, withinI ta W = T := ⟨_, rfl⟩
  rw [hT] at WT rT
  generalize withinI whole 60 = wi at *
  -- the plain turns
  obtain ⟨l1, e1⟩ : ∃ l, turnW [] fr13 x [] 0 W = l := ⟨_, rfl⟩
  have f1 : findW l1 fr13 = some ⟨fr13, x, x, 0, W, x, []⟩ := by rw [← e1, findW_turn, show findW [] fr13 = none from rfl, stepW_none MX.sd]
  have b1 : findW l1 bk13 = none := by rw [← e1, findW_turn_ne (fun e => fr_ne_bk e.symm)]; rfl
  have i1 : WInv l1 1 := e1 ▸ WInv.nil.turn MX.sd MX.tl MX.zt (by omega)
  have s1 : (stepW (findW [] fr13) fr13 x [] 0 W).sh = x := by rw [show findW [] fr13 = none from rfl, stepW_none MX.sd]
  obtain ⟨l2, e2⟩ : ∃ l, turnW l1 bk13 x [] 0 W = l := ⟨_, rfl⟩
  have f2 : findW l2 fr13 = some ⟨fr13, x, x, 0, W, x, []⟩ := by rw [← e2, findW_turn_ne fr_ne_bk, f1]
  have b2 : findW l2 bk13 = some ⟨bk13, x, x, 0, W, x, []⟩ := by rw [← e2, findW_turn, b1, stepW_none MX.sd]
  have i2 : WInv l2 2 := e2 ▸ i1.turn MX.sd MX.tl MX.zt (by omega)
  have s2 : (stepW (findW l1 bk13) bk13 x [] 0 W).sh = x := by rw [b1, stepW_none MX.sd]
  obtain ⟨q0, hq0⟩ : ∃ q, rollL x y 0 W = q := ⟨_, rfl⟩
  have two : ∀ nm : ByteArray, stepW (some ⟨nm, x, x, 0, W, x, []⟩) nm y [] 0 W = ⟨nm, x, y, 0, W, q0, []⟩ := fun nm => by
    have := stepW_two (nm := nm) (b := y) (s := []) (t := []) (now := 0) (wh := W) MX.sd
    rw [stepW_none MX.sd] at this
    rw [this, hq0]
  obtain ⟨l3, e3⟩ : ∃ l, turnW l2 fr13 y [] 0 W = l := ⟨_, rfl⟩
  have b3 : findW l3 bk13 = some ⟨bk13, x, x, 0, W, x, []⟩ := by rw [← e3, findW_turn_ne (fun e => fr_ne_bk e.symm), b2]
  have i3 : WInv l3 3 := e3 ▸ i2.turn MY.sd MY.tl MY.zt (by omega)
  have s3 : (stepW (findW l2 fr13) fr13 y [] 0 W).sh = q0 := by rw [f2, two]
  obtain ⟨l4, e4⟩ : ∃ l, turnW l3 bk13 y [] 0 W = l := ⟨_, rfl⟩
  have b4 : findW l4 bk13 = some ⟨bk13, x, y, 0, W, q0, []⟩ := by rw [← e4, findW_turn, b3, two]
  have i4 : WInv l4 4 := e4 ▸ i3.turn MY.sd MY.tl MY.zt (by omega)
  have s4 : (stepW (findW l3 bk13) bk13 y [] 0 W).sh = q0 := by rw [b3, two]
  obtain ⟨l5, e5⟩ : ∃ l, dropW l4 fr13 = l := ⟨_, rfl⟩
  have f5 : findW l5 fr13 = none := by rw [← e5, findW_drop]
  have b5 : findW l5 bk13 = some ⟨bk13, x, y, 0, W, q0, []⟩ := by rw [← e5, findW_drop_ne (fun e => fr_ne_bk e.symm), b4]
  have i5 : WInv l5 4 := e5 ▸ i4.drop _
  obtain ⟨l6, e6⟩ : ∃ l, turnW l5 fr13 y [] T W = l := ⟨_, rfl⟩
  have b6 : findW l6 bk13 = some ⟨bk13, x, y, 0, W, q0, []⟩ := by rw [← e6, findW_turn_ne (fun e => fr_ne_bk e.symm), b5]
  have i6 : WInv l6 5 := e6 ▸ i5.turn MY.sd MY.tl MY.zt (by omega)
  have s6 : (stepW (findW l5 fr13) fr13 y [] T W).sh = y := by rw [f5, stepW_none MY.sd]
  obtain ⟨q, hq⟩ : ∃ q, rollL x y (T - 0) W = q := ⟨_, rfl⟩
  have lq : q.length ≤ 500 := by have := (roll_sd' (t := T - 0) (n := W) MX.sd MY.sd).len; rw [hq] at this; exact this
  have keep : stepW (some ⟨bk13, x, y, 0, W, q0, []⟩) bk13 y [] T W = ⟨bk13, x, y, 0, W, q, []⟩ := by rw [stepW_keep rfl rfl, hq]
  obtain ⟨l7, e7⟩ : ∃ l, turnW l6 bk13 y [] T W = l := ⟨_, rfl⟩
  have s7 : (stepW (findW l6 bk13) bk13 y [] T W).sh = q := by rw [b6, keep]
  -- the second form's
  obtain ⟨m1, d1⟩ : ∃ l, turnW [] bk13 x [] 0 W = l := ⟨_, rfl⟩
  have c1 : findW m1 bk13 = some ⟨bk13, x, x, 0, W, x, []⟩ := by rw [← d1, findW_turn, show findW [] bk13 = none from rfl, stepW_none MX.sd]
  have j1 : WInv m1 1 := d1 ▸ WInv.nil.turn MX.sd MX.tl MX.zt (by omega)
  have t1 : (stepW (findW [] bk13) bk13 x [] 0 W).sh = x := by rw [show findW [] bk13 = none from rfl, stepW_none MX.sd]
  obtain ⟨m2, d2⟩ : ∃ l, turnW m1 bk13 y [] 0 W = l := ⟨_, rfl⟩
  have c2 : findW m2 bk13 = some ⟨bk13, x, y, 0, W, q0, []⟩ := by rw [← d2, findW_turn, c1, two]
  have j2 : WInv m2 2 := d2 ▸ j1.turn MY.sd MY.tl MY.zt (by omega)
  have t2 : (stepW (findW m1 bk13) bk13 y [] 0 W).sh = q0 := by rw [c1, two]
  obtain ⟨m3, d3⟩ : ∃ l, turnW m2 bk13 y [] T W = l := ⟨_, rfl⟩
  have t3 : (stepW (findW m2 bk13) bk13 y [] T W).sh = q := by rw [c2, keep]
  have HL := Lib.hid (And.intro e1 (And.intro e2 (And.intro e3 (And.intro e4 (And.intro e5 (And.intro e6 e7))))))
  have HS := Lib.hid (And.intro s1 (And.intro s2 (And.intro s3 (And.intro s4 (And.intro s6 s7)))))
  have HI := Lib.hid (And.intro i1 (And.intro i2 (And.intro i3 (And.intro i4 (And.intro i5 i6)))))
  have HM := Lib.hid (And.intro d1 (And.intro d2 d3))
  have HT := Lib.hid (And.intro t1 (And.intro t2 t3))
  have HJ := Lib.hid (And.intro j1 j2)
  have HF5 := Lib.hid f5
  have MX := Lib.hid MX
  have MY := Lib.hid MY
  clear e1 e2 e3 e4 e5 e6 e7 s1 s2 s3 s4 s6 s7 i1 i2 i3 i4 i5 i6 d1 d2 d3 t1 t2 t3 j1 j2 f1 b1 f2 b2 b3 b4 f5 b5 b6 c1 c2 two keep hq hq0 hx hy hT hW hwh hta hz0 hz1 r60
  go_enter Try.func6, Try.ntmps6
  go_wp2_with fail
  refine KN.out.mono ?_
  rintro e w1 ⟨rfl, hg⟩
  have H := Lib.hid ((Hold.nil w).grow Emp.foot hg)
  clear hg KN
  go_wp2_with fail
  refine (hold_plnew H.out FE.out).mono ?_
  rintro e w2 ⟨g, rfl, hh⟩
  replace H := Lib.hid hh
  clear hh
  go_wp2_with fail
  refine (at_make H.out (FP.out _ _ _ _) FE.out HZ0.out (nilS _) HXX.out (show mkT [] = [] from rfl)).mono ?_
  rintro e w3 ⟨xa, xc, xb, xd, rfl, hh⟩
  replace H := Lib.hid hh
  clear hh
  go_wp2_with fail
  refine (at_make H.out (FP.out _ _ _ _) ((FT.out _ _ _ _).sep FE.out) HZ1.out (nilS _) HYY.out (show mkT [] = [] from rfl)).mono ?_
  rintro e w4 ⟨ya, yc, yb, yd, rfl, hh⟩
  obtain ⟨w5, hw5⟩ : ∃ w5, w5 = (w4.alloc (.cells #[.slice xa x.length xc, .slice xb 0 xd] tablT13)).alloc (.cells #[.slice ya y.length yc, .slice yb 0 yd] tablT13) := ⟨_, rfl⟩
  obtain ⟨B, hB⟩ : ∃ B, B = Sep (TabS y [] ya yc yb yd) (Sep (TabS x [] xa xc xb xd) Emp) := ⟨_, rfl⟩
  have FB : Hid (Foot B) := Lib.hid (by rw [hB]; exact (FT.out _ _ _ _).sep ((FT.out _ _ _ _).sep FE.out))
  have RB : Hid (∀ (w' : World) L A, Hold w w' L (Sep A B) → (ShSl w' xa x ∧ TgSl w' xb ([] : List Tgo)) ∧ (ShSl w' ya y ∧ TgSl w' yb ([] : List Tgo))) := Lib.hid (fun w' L A h => by rw [hB] at h; exact ⟨hold_rows3 h, hold_rows2 h⟩)
  rw [← hB] at hh
  have H : Hid (Hold w w5 [(w4.heap.size, [.slice xa x.length xc, .slice xb 0 xd], tablT13), (w4.heap.size + 1, [.slice ya y.length yc, .slice yb 0 yd], tablT13)] (Sep (PlP g [] 0 0) B)) := Lib.hid (by rw [hw5]; exact (hh.alloc' ((FP.out _ _ _ _).sep FB.out) _ _ rfl).alloc' ((FP.out _ _ _ _).sep FB.out) _ _ (g := w4.heap.size + 1) (by simp))
  clear hh hB HZ0 HZ1 HXX HYY
  go_wp2_with fail
  refine (W60.out _).mono ?_
  rintro e wx ⟨rfl, rfl⟩
  rw [← hw5]
  clear hw5 W60
  go_wp2_with fail
  refine (WT.out _).mono ?_
  rintro e wx ⟨rfl, rfl⟩
  clear WT
  have z0a := H.out.mem.cell (i := 0) (o := 0) rfl rfl
  have z0b := H.out.mem.cell (i := 0) (o := 1) rfl rfl
  have z0l := H.out.mem.lt (i := 0) rfl
  have z1a := H.out.mem.cell (i := 1) (o := 0) rfl rfl
  have z1b := H.out.mem.cell (i := 1) (o := 1) rfl rfl
  have z1l := H.out.mem.lt (i := 1) rfl
  go_wp2_with fail
  refine (at_turn H.out FB.out fr13 (by decide) xa x xc xb [] xd 0 W (by omega) WInv.nil MX.out (RB.out _ _ _ H.out).1 (by omega) (by omega) (by omega) HL.out.1 HS.out.1).mono ?_
  rintro e w6 ⟨ra, rk, rb, rd, rfl, hh⟩
  clear z0a z0b z0l z1a z1b z1l
  replace H := Lib.hid (hold_drop2 hh)
  clear hh
  have z0a := H.out.mem.cell (i := 0) (o := 0) rfl rfl
  have z0b := H.out.mem.cell (i := 0) (o := 1) rfl rfl
  have z0l := H.out.mem.lt (i := 0) rfl
  have z1a := H.out.mem.cell (i := 1) (o := 0) rfl rfl
  have z1b := H.out.mem.cell (i := 1) (o := 1) rfl rfl
  have z1l := H.out.mem.lt (i := 1) rfl
  go_wp2_with fail
  refine (at_turn H.out FB.out bk13 (by decide) xa x xc xb [] xd 0 W (by omega) HI.out.1 MX.out (RB.out _ _ _ H.out).1 (by omega) (by omega) (by omega) HL.out.2.1 HS.out.2.1).mono ?_
  rintro e w7 ⟨ra, rk, rb, rd, rfl, hh⟩
  clear z0a z0b z0l z1a z1b z1l
  replace H := Lib.hid (hold_drop2 hh)
  clear hh
  have z0a := H.out.mem.cell (i := 0) (o := 0) rfl rfl
  have z0b := H.out.mem.cell (i := 0) (o := 1) rfl rfl
  have z0l := H.out.mem.lt (i := 0) rfl
  have z1a := H.out.mem.cell (i := 1) (o := 0) rfl rfl
  have z1b := H.out.mem.cell (i := 1) (o := 1) rfl rfl
  have z1l := H.out.mem.lt (i := 1) rfl
  go_wp2_with fail
  refine (at_turn H.out FB.out fr13 (by decide) ya y yc yb [] yd 0 W (by omega) HI.out.2.1 MY.out (RB.out _ _ _ H.out).2 (by omega) (by omega) (by omega) HL.out.2.2.1 HS.out.2.2.1).mono ?_
  rintro e w8 ⟨ra, rk, rb, rd, rfl, hh⟩
  clear z0a z0b z0l z1a z1b z1l
  replace H := Lib.hid (hold_drop2 hh)
  clear hh
  have z0a := H.out.mem.cell (i := 0) (o := 0) rfl rfl
  have z0b := H.out.mem.cell (i := 0) (o := 1) rfl rfl
  have z0l := H.out.mem.lt (i := 0) rfl
  have z1a := H.out.mem.cell (i := 1) (o := 0) rfl rfl
  have z1b := H.out.mem.cell (i := 1) (o := 1) rfl rfl
  have z1l := H.out.mem.lt (i := 1) rfl
  go_wp2_with fail
  refine (at_turn H.out FB.out bk13 (by decide) ya y yc yb [] yd 0 W (by omega) HI.out.2.2.1 MY.out (RB.out _ _ _ H.out).2 (by omega) (by omega) (by omega) HL.out.2.2.2.1 HS.out.2.2.2.1).mono ?_
  rintro e w9 ⟨ra, rk, rb, rd, rfl, hh⟩
  clear z0a z0b z0l z1a z1b z1l
  replace H := Lib.hid (hold_drop2 hh)
  clear hh
  go_wp2_with fail
  refine (hold_pldrop H.out FB.out fr13 (by decide)).mono ?_
  rintro e w10 ⟨rfl, hh⟩
  rw [HL.out.2.2.2.2.1] at hh
  replace H := Lib.hid hh
  clear hh
  go_wp2_with fail
  refine (at_table_no H.out FB.out fr13 (by decide) HF5.out).mono ?_
  rintro e w11 ⟨ra, rk, rb, rd, rfl, hh⟩
  replace H := Lib.hid (hold_drop2 hh)
  clear hh
  have z0a := H.out.mem.cell (i := 0) (o := 0) rfl rfl
  have z0b := H.out.mem.cell (i := 0) (o := 1) rfl rfl
  have z0l := H.out.mem.lt (i := 0) rfl
  have z1a := H.out.mem.cell (i := 1) (o := 0) rfl rfl
  have z1b := H.out.mem.cell (i := 1) (o := 1) rfl rfl
  have z1l := H.out.mem.lt (i := 1) rfl
  have HA := Lib.hid (H.out.alloc' ((FP.out _ _ _ _).sep FB.out) [.slice ra 0 rk, .slice rb 0 rd] tablT13 rfl)
  go_wp2_with fail
  refine (at_turn HA.out FB.out fr13 (by decide) ya y yc yb [] yd T W (by omega) HI.out.2.2.2.2.1 MY.out (RB.out _ _ _ HA.out).2 (by omega) (by omega) (by omega) HL.out.2.2.2.2.2.1 HS.out.2.2.2.2.1).mono ?_
  rintro e w13 ⟨pa, pk, pb, pd, rfl, hh⟩
  clear HA H z0a z0b z0l z1a z1b z1l
  have H := Lib.hid hh
  clear hh
  have z0a := H.out.mem.cell (i := 0) (o := 0) rfl rfl
  have z0b := H.out.mem.cell (i := 0) (o := 1) rfl rfl
  have z0l := H.out.mem.lt (i := 0) rfl
  have z1a := H.out.mem.cell (i := 1) (o := 0) rfl rfl
  have z1b := H.out.mem.cell (i := 1) (o := 1) rfl rfl
  have z1l := H.out.mem.lt (i := 1) rfl
  have HA := Lib.hid (H.out.alloc' ((FP.out _ _ _ _).sep ((FT.out _ _ _ _).sep FB.out)) [.slice pa y.length pk, .slice pb 0 pd] tablT13 rfl)
  go_wp2_with fail
  refine (at_turn HA.out ((FT.out _ _ _ _).sep FB.out) bk13 (by decide) ya y yc yb [] yd T W (by omega) HI.out.2.2.2.2.2 MY.out (RB.out _ _ _ (HA.out.map fun F h => Sep.assoc' h)).2 (by omega) (by omega) (by omega) HL.out.2.2.2.2.2.2 HS.out.2.2.2.2.2).mono ?_
  rintro e w14 ⟨qa, qk, qb, qd, rfl, hh⟩
  clear HA H z0a z0b z0l z1a z1b z1l
  have H := Lib.hid hh
  clear hh
  have z0a := H.out.mem.cell (i := 0) (o := 0) rfl rfl
  have z0b := H.out.mem.cell (i := 0) (o := 1) rfl rfl
  have z0l := H.out.mem.lt (i := 0) rfl
  have z1a := H.out.mem.cell (i := 1) (o := 0) rfl rfl
  have z1b := H.out.mem.cell (i := 1) (o := 1) rfl rfl
  have z1l := H.out.mem.lt (i := 1) rfl
  have HA := H.out.alloc' ((FP.out _ _ _ _).sep ((FT.out _ _ _ _).sep ((FT.out _ _ _ _).sep FB.out))) [.slice qa q.length qk, .slice qb 0 qd] tablT13 rfl
  have FD := Lib.hid ((FP.out g l7 T 6).sep ((FT.out q [] (.slice qa q.length qk) (.slice qb 0 qd)).sep ((FT.out y [] (.slice pa y.length pk) (.slice pb 0 pd)).sep FB.out)))
  have HA := rol_new HA FD.out
  obtain ⟨w15, hw15⟩ : ∃ w15, w15 = (w14.alloc (.cells ([.slice qa q.length qk, .slice qb 0 qd] : List Value).toArray tablT13)).alloc (.cells #[.slice none 0 0] rolT13) := ⟨_, rfl⟩
  have hr : (w14.alloc (.cells ([.slice qa q.length qk, .slice qb 0 qd] : List Value).toArray tablT13)).heap.size = w14.heap.size + 1 := by simp
  rw [← hw15, hr] at HA
  obtain ⟨r, hrr⟩ : ∃ r, r = w14.heap.size + 1 := ⟨_, rfl⟩
  rw [← hrr] at HA
  have RD : Hid (∀ (w' : World) L A, Hold w w' L (Sep A (Sep (TabS q [] qa qk qb qd) (Sep (TabS y [] pa pk pb pd) B))) → (ShSl w' qa q ∧ TgSl w' qb ([] : List Tgo)) ∧ (ShSl w' pa y ∧ TgSl w' pb ([] : List Tgo)) ∧ (ShSl w' ya y ∧ TgSl w' yb ([] : List Tgo)) ∧ (ShSl w' xa x ∧ TgSl w' xb ([] : List Tgo))) := Lib.hid (fun w' L A h => ⟨hold_rows2 h, hold_rows3 h, (RB.out _ _ _ (h.map fun F h => Sep.assoc' (Sep.assoc' h))).2, (RB.out _ _ _ (h.map fun F h => Sep.assoc' (Sep.assoc' h))).1⟩)
  have FD2 := Lib.hid ((FT.out q [] (.slice qa q.length qk) (.slice qb 0 qd)).sep ((FT.out y [] (.slice pa y.length pk) (.slice pb 0 pd)).sep FB.out))
  obtain ⟨D, hD⟩ : ∃ D, D = Sep (TabS q [] qa qk qb qd) (Sep (TabS y [] pa pk pb pd) B) := ⟨_, rfl⟩
  have HA : Hid (Hold w w15 _ (Sep (RolP r []) (Sep (PlP g l7 T 6) D))) := Lib.hid (by rw [hD]; exact HA)
  rw [← hD] at RD
  replace FD : Hid (Foot (Sep (PlP g l7 T 6) D)) := Lib.hid (by rw [hD]; exact FD.out)
  clear FD2 hD H
  simp only [List.nil_append, List.cons_append] at HA
  go_wp2_with fail
  rw [← hw15, ← hrr]
  refine (at_rturn HA.out FD.out bk13 xa x xc xb [] xd 0 W (by omega) WInv.nil MX.out (RD.out _ _ _ (HA.out.map fun F h => Sep.assoc' h)).2.2.2 (by omega) (by omega) HM.out.1 HT.out.1).mono ?_
  rintro e w16 ⟨ua, uk, ub, ud, rfl, hh⟩
  clear z0a z0b z0l z1a z1b z1l
  replace HA := Lib.hid (hold_drop2 hh)
  clear hh hw15 hrr hr
  have z0a := HA.out.mem.cell (i := 0) (o := 0) rfl rfl
  have z0b := HA.out.mem.cell (i := 0) (o := 1) rfl rfl
  have z0l := HA.out.mem.lt (i := 0) rfl
  have z1a := HA.out.mem.cell (i := 1) (o := 0) rfl rfl
  have z1b := HA.out.mem.cell (i := 1) (o := 1) rfl rfl
  have z1l := HA.out.mem.lt (i := 1) rfl
  go_wp2_with fail
  refine (at_rturn HA.out FD.out bk13 ya y yc yb [] yd 0 W (by omega) HJ.out.1 MY.out (RD.out _ _ _ (HA.out.map fun F h => Sep.assoc' h)).2.2.1 (by omega) (by omega) HM.out.2.1 HT.out.2.1).mono ?_
  rintro e w17 ⟨ua, uk, ub, ud, rfl, hh⟩
  clear z0a z0b z0l z1a z1b z1l
  have H := hold_drop2 hh
  clear hh HA
  obtain ⟨F, hF⟩ := H.named
  have HF := Lib.hid hF
  have KC := Lib.hid (fun (w' : World) (h : Chg (fun j => F j ∨ w17.heap.size ≤ j) w17 w') => (⟨keepc HF.out h (i := 3) (o := 0) rfl rfl, keepc HF.out h (i := 3) (o := 1) rfl rfl, keepc HF.out h (i := 1) (o := 0) rfl rfl, keepc HF.out h (i := 1) (o := 1) rfl rfl, keepc HF.out h (i := 4) (o := 0) rfl rfl, keepc HF.out h (i := 4) (o := 1) rfl rfl, trivial⟩ : w'.cell? ⟨w13.heap.size, 0, none⟩ = some (.slice pa y.length pk) ∧ w'.cell? ⟨w13.heap.size, 1, none⟩ = some (.slice pb 0 pd) ∧ w'.cell? ⟨w4.heap.size + 1, 0, none⟩ = some (.slice ya y.length yc) ∧ w'.cell? ⟨w4.heap.size + 1, 1, none⟩ = some (.slice yb 0 yd) ∧ w'.cell? ⟨w14.heap.size, 0, none⟩ = some (.slice qa q.length qk) ∧ w'.cell? ⟨w14.heap.size, 1, none⟩ = some (.slice qb 0 qd) ∧ True))
  have FS := Lib.hid ((FR.out r m2).sep FD.out)
  have FS2 := Lib.hid (fun ua uk ub ud => (FR.out r m3).sep ((FT.out q [] (.slice ua q.length uk) (.slice ub 0 ud)).sep FD.out))
  have S1 := Lib.hid (fun (w' : World) L (h : Hold w w' L (Sep (RolP r m2) (Sep (PlP g l7 T 6) D))) => (same_true w' (c := pk) (d := pd) (c2 := yc) (d2 := yd) (RD.out _ _ _ (h.map fun F h => Sep.assoc' h)).2.1 (RD.out _ _ _ (h.map fun F h => Sep.assoc' h)).2.2.1 (by omega) (by decide)))
  have S2 := Lib.hid (fun (w' : World) L F (h : HoldF w w' L (Sep (RolP r m2) (Sep (PlP g l7 T 6) D)) F) => at_rturnF h FD.out bk13 ya y yc yb [] yd T W (by omega) HJ.out.2 MY.out (RD.out _ _ _ (h.hold.map fun F h => Sep.assoc' h)).2.2.1 (by omega) (by omega) HM.out.2.2 HT.out.2.2)
  have S3 := Lib.hid (fun (w' : World) L ua uk ub ud (h : Hold w w' L (Sep (RolP r m3) (Sep (TabS q [] ua uk ub ud) (Sep (PlP g l7 T 6) D)))) => (same_true w' (c := qk) (d := qd) (c2 := uk) (d2 := ud) (RD.out _ _ _ (h.map fun F h => Sep.assoc' (Sep.assoc' h))).1 (hold_rows2 h) (by omega) (by decide)))
  clear hF H
  go_wp2_with fail
  refine Evo2.start' (ℓ := none) (S := Chg (fun j => F j ∨ w17.heap.size ≤ j)) (E := Grow.G) (by kernel_rfl) ⟨Chg.pre _, by decide +kernel, (by intro c a d v w h; cases d <;> exact h), by decide +kernel⟩ (fun ok => ?_)
  refine Evo2.va ok 0 _ _ ?_
  refine Evo2.va ok 1 _ _ ?_
  refine Evo2.va ok 2 _ _ ?_
  first | (refine Evo2.vl ok 3 KC.out (Chg.refl (fun j => F j ∨ w17.heap.size ≤ j) _) _ _ ?_) | (refine Evo2.va ok 3 _ _ ?_) | (refine Evo2.vi ok 3 _ ?_)
  first | (refine Evo2.vl ok 4 KC.out (Chg.refl (fun j => F j ∨ w17.heap.size ≤ j) _) _ _ ?_) | (refine Evo2.va ok 4 _ _ ?_) | (refine Evo2.vi ok 4 _ ?_)
  refine Evo2.all [5] (by decide +kernel) rfl ?_
  intro wp1 gp1 iq hq
  simp only [List.mem_cons, List.mem_nil_iff, or_false] at hq
  have AP1 := Chg.trans (Chg.refl (fun j => F j ∨ w17.heap.size ≤ j) _) (Chg.grow gp1)
  (try replace HF1 := Lib.hid (HF1.out.grow (FS2.out _ _ _ _) gp1))
  (try replace HG := Lib.hid (HG.out.grow FS.out gp1))
  subst hq
  refine Evo2.enters 16 _ (by rfl) (by rfl) (by go_simp; exact ⟨rfl, rfl⟩) ?_
  refine (S1.out wp1 _ (HF.out.grow FS.out gp1).hold).mono ?_
  rintro e wc1 ⟨rfl, hg⟩; have CH1 : Chg (fun j => F j ∨ w17.heap.size ≤ j) _ _ := Chg.grow hg; have HG := Lib.hid ((HF.out.grow FS.out gp1).grow FS.out hg)
  refine ⟨_, rfl, .inr CH1, ?_⟩
  have AC1 := Chg.trans AP1 CH1
  simp only [Act.put, L0, L1, L2]
  refine Evo2.va ok 6 _ _ ?_
  refine Evo2.va ok 7 _ _ ?_
  first | (refine Evo2.vl ok 8 KC.out AC1 _ _ ?_) | (refine Evo2.va ok 8 _ _ ?_) | (refine Evo2.vi ok 8 _ ?_)
  first | (refine Evo2.va ok 9 _ _ ?_) | (refine Evo2.vi ok 9 _ ?_)
  first | (refine Evo2.vl ok 10 KC.out AC1 _ _ ?_) | (refine Evo2.va ok 10 _ _ ?_) | (refine Evo2.vi ok 10 _ ?_)
  first | (refine Evo2.va ok 11 _ _ ?_) | (refine Evo2.vi ok 11 _ ?_)
  first | (refine Evo2.va ok 12 _ _ ?_) | (refine Evo2.vi ok 12 _ ?_)
  refine Evo2.all [13] (by decide +kernel) rfl ?_
  intro wp2 gp2 iq hq
  simp only [List.mem_cons, List.mem_nil_iff, or_false] at hq
  have AP2 := Chg.trans AC1 (Chg.grow gp2)
  (try replace HF1 := Lib.hid (HF1.out.grow (FS2.out _ _ _ _) gp2))
  (try replace HG := Lib.hid (HG.out.grow FS.out gp2))
  subst hq
  refine Evo2.enters 19 _ (by rfl) (by rfl) (by go_simp; exact ⟨rfl, rfl⟩) ?_
  refine (S2.out wp2 _ F HG.out).mono ?_
  rintro e wc2 ⟨ua, uk, ub, ud, rfl, F1, HF1, c2, -⟩; have CH2 : Chg (fun j => F j ∨ w17.heap.size ≤ j) _ _ := c2.mono (fun j _ h => .inl h); have HF1 := Lib.hid HF1
  refine ⟨_, rfl, .inr CH2, ?_⟩
  have AC2 := Chg.trans AP2 CH2
  simp only [Act.put, L0, L1, L2]
  refine Evo2.all [14] (by decide +kernel) rfl ?_
  intro wp3 gp3 iq hq
  simp only [List.mem_cons, List.mem_nil_iff, or_false] at hq
  have AP3 := Chg.trans AC2 (Chg.grow gp3)
  (try replace HF1 := Lib.hid (HF1.out.grow (FS2.out _ _ _ _) gp3))
  (try replace HG := Lib.hid (HG.out.grow FS.out gp3))
  subst hq
  refine Evo2.enters 16 _ (by rfl) (by rfl) (by go_simp; exact ⟨rfl, rfl⟩) ?_
  refine (S3.out wp3 _ ua uk ub ud HF1.out.hold).mono ?_
  rintro e wc3 ⟨rfl, hg⟩; have CH3 : Chg (fun j => F j ∨ w17.heap.size ≤ j) _ _ := Chg.grow hg; replace HF1 := Lib.hid (HF1.out.grow (FS2.out _ _ _ _) hg)
  refine ⟨_, rfl, .inr CH3, ?_⟩
  have AC3 := Chg.trans AP3 CH3
  simp only [Act.put, L0, L1, L2]
  refine Evo2.va ok 15 _ _ ?_
  refine Evo2.va ok 16 _ _ ?_
  refine Evo2.done (by decide +kernel) (fun wz gz => ?_)
  have AZ := Chg.trans AC3 (Chg.grow gz)
  (try replace HF1 := Lib.hid (HF1.out.grow (FS2.out _ _ _ _) gz))
  (try replace HG := Lib.hid (HG.out.grow FS.out gz))
  have HB := Lib.hid (HF1.out.hold.below)
  clear HF HF1 HG KC S1 S2 S3
  go_wp2_with fail
  go_ret
  exact ⟨rfl, HB.out⟩
end Go.Proofs.Ytjhfjjkfnmnkgaa

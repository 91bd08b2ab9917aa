
/- The walk of LeadWhole. -/
import Derived.Test.YtjhfjjkfnmnkgaaLeadRight
import Derived.Test.YtjhfjjkfnmnkgaaLwg
namespace Go.Proofs.Ytjhfjjkfnmnkgaa
set_option maxRecDepth 100000
set_option linter.unusedVariables false
set_option linter.unusedSimpArgs false
set_option linter.unnecessarySimpa false
open Go.RowKit Go.Args

set_option maxHeartbeats 64000000 in
theorem walkLeadWhole (w : World) (v0 : Value) (zs0 : List Int) (hz0 : IntSlice w v0 zs0) (v1 : Value) (zs1 : List Int) (hz1 : IntSlice w v1 zs1) (first : Int) (hfi : wf64 first) (second : Int) (hse : wf64 second) (ta : Int) (hta : wf64 ta) (v2 : Value) (zs2 : List Int) (hz2 : IntSlice w v2 zs2) :
    Calls Try.prog 9 #[v0, v1, .int .i64 first, .int .i64 second, .int .i64 ta, v2] w fun e w' => e = .returned (.bool true) ∧ Below w.heap.size w w' := by
  have FE := Lib.hid Emp.foot
  have FP := Lib.hid (fun g l nw c => PlP.foot g l nw c)
  have FR := Lib.hid (fun g l => RolP.foot g l)
  have FT := Lib.hid (fun sh tg va vb => TabF.foot sh tg va vb)
  have KN := Lib.hid (known13_any w)
  have HZ0 := Lib.hid hz0
  have HZ1 := Lib.hid hz1
  obtain ⟨x, hx⟩ : ∃ x, mkS zs0 = x := ⟨_, rfl⟩
  obtain ⟨y, hy⟩ : ∃ y, mkS zs1 = y := ⟨_, rfl⟩
  have MX := Lib.hid (show MkT x [] from hx ▸ mk_tab zs0 [])
  have MY := Lib.hid (show MkT y [] from hy ▸ mk_tab zs1 [])
  have HXX := Lib.hid hx
  have HYY := Lib.hid hy
  have lx := MX.out.sd.len
  have ly := MY.out.sd.len
  clear hx hy hz0 hz1
  obtain ⟨na, nc, rfl, hwf, hnl, hnr⟩ := int_row hz2
  unfold maxLen at hnl
  have NR := Lib.hid hnr
  have WA := Lib.hid (fun w => within13_any first 60 w (by omega) (by omega) hfi.1 hfi.2)
  have rA := withinI_range first 60 (by omega)
  have WB := Lib.hid (fun w => within13_any second 60 w (by omega) (by omega) hse.1 hse.2)
  have rB := withinI_range second 60 (by omega)
  obtain ⟨W, hW⟩ : ∃ W, 1 + withinI first 60 = W := ⟨_, rfl⟩
  have hwW : IntKind.i64.wrap (1 + withinI first 60) = W := by rw [hW]; exact IntWalk.i64_in _ ⟨by omega, by omega⟩
  have bW : 1 ≤ W ∧ W ≤ 60 := by omega
  obtain ⟨V, hV⟩ : ∃ V, 1 + withinI second 60 = V := ⟨_, rfl⟩
  have hwV : IntKind.i64.wrap (1 + withinI second 60) = V := by rw [hV]; exact IntWalk.i64_in _ ⟨by omega, by omega⟩
  have bV : 1 ≤ V ∧ V ≤ 60 := by omega
  generalize withinI first 60 = wi at *
  generalize withinI second 60 = vi at *
  have WT := Lib.hid (fun w => within13_any ta W w (by omega) (by omega) hta.1 hta.2)
  have rT := withinI_range ta W (by omega)
  obtain ⟨T, hT⟩ : ∃ T, withinI ta W = T := ⟨_, rfl⟩
  rw [hT] at WT rT
  have W5 := Lib.hid (fun (k : Nat) w => within13_any (zs2.getD k 0) 5 w (by omega) (by omega) (hwf k).1 (hwf k).2)
  have R5 := Lib.hid (fun k => withinI_range (zs2.getD k 0) 5 (by omega))
  obtain ⟨l1, e1⟩ : ∃ l, turnW [] fr13 x [] 0 W = l := ⟨_, rfl⟩
  have f1 : findW l1 fr13 = some ⟨fr13, x, x, 0, W, x, []⟩ := by rw [← e1, findW_turn, show findW [] fr13 = none from rfl, stepW_none MX.out.sd]
  have i1 : WInv l1 1 := e1 ▸ WInv.nil.turn MX.out.sd MX.out.tl MX.out.zt (by omega)
  have s1 : (stepW (findW [] fr13) fr13 x [] 0 W).sh = x := by rw [show findW [] fr13 = none from rfl, stepW_none MX.out.sd]
  have two : stepW (some ⟨fr13, x, x, 0, W, x, []⟩) fr13 y [] 0 W = ⟨fr13, x, y, 0, W, rollL x y 0 W, []⟩ := by
    have := stepW_two (nm := fr13) (b := y) (s := []) (t := []) (now := 0) (wh := W) MX.out.sd
    rw [stepW_none MX.out.sd] at this
    exact this
  obtain ⟨l2, e2⟩ : ∃ l, turnW l1 fr13 y [] 0 W = l := ⟨_, rfl⟩
  obtain ⟨q2, s2⟩ : ∃ q, (stepW (findW l1 fr13) fr13 y [] 0 W).sh = q := ⟨_, rfl⟩
  have f2 : WhJ x y l2 0 q2 ⟨fr13, x, y, 0, W, rollL x y 0 W, []⟩ := ⟨by rw [← e2, findW_turn, f1, two], rfl, bW.1, by rw [← s2, f1, two], rfl, MX.out.sd, fun n h => h⟩
  have i2 : WInv l2 2 := e2 ▸ i1.turn MY.out.sd MY.out.tl MY.out.zt (by omega)
  obtain ⟨l3, e3⟩ : ∃ l, turnW l2 fr13 y [] T W = l := ⟨_, rfl⟩
  obtain ⟨q3, s3⟩ : ∃ q, (stepW (findW l2 fr13) fr13 y [] T W).sh = q := ⟨_, rfl⟩
  have f3 := (f2.step MY.out.sd rT.1 bW.1).1
  rw [e3, s3] at f3
  have i3 : WInv l3 3 := e3 ▸ i2.turn MY.out.sd MY.out.tl MY.out.zt (by omega)
  have HL := Lib.hid (And.intro (And.intro e1 s1) (And.intro (And.intro e2 s2) (And.intro e3 s3)))
  have HI0 := Lib.hid (And.intro i1 (And.intro i2 (And.intro i3 f3)))
  clear e1 f1 i1 s1 e2 s2 i2 f2 two e3 s3 i3 f3 hW hV hT hfi hse hta hz2 hwf hnr rA rB
  go_enter Try.func9, Try.ntmps9
  go_wp2_with fail
  refine KN.out.mono ?_
  rintro e w1 ⟨rfl, hg⟩
  have H := Lib.hid ((Hold.nil w).grow Emp.foot hg)
  clear hg KN
  go_wp2_with fail
  refine (hold_plnew H.out FE.out).mono ?_
  rintro e w2 ⟨g, rfl, hh⟩
  replace H := Lib.hid hh
  clear hh
  have HR := rol_new H.out ((FP.out _ _ _ _).sep FE.out)
  obtain ⟨r, hr⟩ : ∃ r, r = w2.heap.size := ⟨_, rfl⟩
  rw [← hr] at HR
  replace H : Hid (Hold w (w2.alloc (.cells #[.slice none 0 0] rolT13)) [] (Sep (PlP g [] 0 0) (Sep (RolP r []) Emp))) := Lib.hid HR.rot
  clear HR
  go_wp2_with fail
  rw [← hr]
  refine (at_make H.out (FP.out _ _ _ _) ((FR.out _ _).sep FE.out) HZ0.out (nilS _) HXX.out (show mkT [] = [] from rfl)).mono ?_
  rintro e w3 ⟨xa, xc, xb, xd, rfl, hh⟩
  replace H := Lib.hid hh
  clear hh hr
  go_wp2_with fail
  refine (at_make H.out (FP.out _ _ _ _) ((FT.out _ _ _ _).sep ((FR.out _ _).sep FE.out)) HZ1.out (nilS _) HYY.out (show mkT [] = [] from rfl)).mono ?_
  rintro e w4 ⟨ya, yc, yb, yd, rfl, hh⟩
  obtain ⟨w5, hw5⟩ : ∃ w5, w5 = (w4.alloc (.cells #[.slice xa x.length xc, .slice xb 0 xd] tablT13)).alloc (.cells #[.slice ya y.length yc, .slice yb 0 yd] tablT13) := ⟨_, rfl⟩
  obtain ⟨B, hB⟩ : ∃ B, B = Sep (TabS y [] ya yc yb yd) (Sep (TabS x [] xa xc xb xd) Emp) := ⟨_, rfl⟩
  have FB : Hid (Foot B) := Lib.hid (by rw [hB]; exact (FT.out _ _ _ _).sep ((FT.out _ _ _ _).sep FE.out))
  have RB : Hid (∀ (w' : World) L A, Hold w w' L (Sep A B) → (ShSl w' xa x ∧ TgSl w' xb ([] : List Tgo)) ∧ (ShSl w' ya y ∧ TgSl w' yb ([] : List Tgo))) := Lib.hid (fun w' L A h => by rw [hB] at h; exact ⟨hold_rows3 h, hold_rows2 h⟩)
  replace hh : Hold w w4 [] (Sep (PlP g [] 0 0) (Sep (RolP r []) B)) := by rw [hB]; exact hh.map fun F h => h.under fun F h => Sep.pull2 h
  have H : Hid (Hold w w5 [(w4.heap.size, [.slice xa x.length xc, .slice xb 0 xd], tablT13), (w4.heap.size + 1, [.slice ya y.length yc, .slice yb 0 yd], tablT13)] (Sep (PlP g [] 0 0) (Sep (RolP r []) B))) := Lib.hid (by rw [hw5]; exact (hh.alloc' ((FP.out _ _ _ _).sep ((FR.out _ _).sep FB.out)) _ _ rfl).alloc' ((FP.out _ _ _ _).sep ((FR.out _ _).sep FB.out)) _ _ (g := w4.heap.size + 1) (by simp))
  clear hh hB HZ0 HZ1 HXX HYY
  go_wp2_with fail
  refine (WA.out _).mono ?_
  rintro e wx ⟨rfl, rfl⟩
  rw [← hw5]
  clear hw5 WA
  go_wp2_with fail
  refine (WB.out _).mono ?_
  rintro e wx ⟨rfl, rfl⟩
  clear WB
  go_wp2_with fail
  refine (WT.out _).mono ?_
  rintro e wx ⟨rfl, rfl⟩
  clear WT
  have FRB := Lib.hid (fun l => (FR.out r l).sep FB.out)
  have z0a := H.out.mem.cell (i := 0) (o := 0) rfl rfl
  have z0b := H.out.mem.cell (i := 0) (o := 1) rfl rfl
  have z0l := H.out.mem.lt (i := 0) rfl
  go_wp2_with fail
  refine (at_turn H.out (FRB.out _) fr13 (by decide) xa x xc xb [] xd 0 W (by omega) WInv.nil MX.out (RB.out _ _ _ (H.out.map fun F h => Sep.assoc' h)).1 (by omega) (by omega) (by omega) HL.out.1.1 HL.out.1.2).mono ?_
  rintro e w6 ⟨ra, rk, rb, rd, rfl, hh⟩
  clear z0a z0b z0l
  replace H := Lib.hid (hold_drop2 hh)
  clear hh
  have z0a := H.out.mem.cell (i := 0) (o := 0) rfl rfl
  have z0b := H.out.mem.cell (i := 0) (o := 1) rfl rfl
  have z0l := H.out.mem.lt (i := 0) rfl
  go_wp2_with fail
  refine (at_rturn H.out.rot ((FP.out _ _ _ _).sep FB.out) fr13 xa x xc xb [] xd 0 W (by omega) WInv.nil MX.out (RB.out _ _ _ (H.out.map fun F h => Sep.assoc' h)).1 (by omega) (by omega) HL.out.1.1 HL.out.1.2).mono ?_
  rintro e w7 ⟨ra, rk, rb, rd, rfl, hh⟩
  clear z0a z0b z0l
  replace H := Lib.hid (hold_drop2 hh).rot
  clear hh
  have z1a := H.out.mem.cell (i := 1) (o := 0) rfl rfl
  have z1b := H.out.mem.cell (i := 1) (o := 1) rfl rfl
  have z1l := H.out.mem.lt (i := 1) rfl
  go_wp2_with fail
  refine (at_turn H.out (FRB.out _) fr13 (by decide) ya y yc yb [] yd 0 W (by omega) HI0.out.1 MY.out (RB.out _ _ _ (H.out.map fun F h => Sep.assoc' h)).2 (by omega) (by omega) (by omega) HL.out.2.1.1 HL.out.2.1.2).mono ?_
  rintro e w8 ⟨ra, rk, rb, rd, rfl, hh⟩
  clear z1a z1b z1l
  replace H := Lib.hid (hold_drop2 hh)
  clear hh
  have z1a := H.out.mem.cell (i := 1) (o := 0) rfl rfl
  have z1b := H.out.mem.cell (i := 1) (o := 1) rfl rfl
  have z1l := H.out.mem.lt (i := 1) rfl
  go_wp2_with fail
  refine (at_rturn H.out.rot ((FP.out _ _ _ _).sep FB.out) fr13 ya y yc yb [] yd 0 W (by omega) HI0.out.1 MY.out (RB.out _ _ _ (H.out.map fun F h => Sep.assoc' h)).2 (by omega) (by omega) HL.out.2.1.1 HL.out.2.1.2).mono ?_
  rintro e w8 ⟨ra, rk, rb, rd, rfl, hh⟩
  clear z1a z1b z1l
  replace H := Lib.hid (hold_drop2 hh).rot
  clear hh
  have z1a := H.out.mem.cell (i := 1) (o := 0) rfl rfl
  have z1b := H.out.mem.cell (i := 1) (o := 1) rfl rfl
  have z1l := H.out.mem.lt (i := 1) rfl
  go_wp2_with fail
  refine (at_turn H.out (FRB.out _) fr13 (by decide) ya y yc yb [] yd T W (by omega) HI0.out.2.1 MY.out (RB.out _ _ _ (H.out.map fun F h => Sep.assoc' h)).2 (by omega) (by omega) (by omega) HL.out.2.2.1 HL.out.2.2.2).mono ?_
  rintro e w9 ⟨la, lc, lt, ld, rfl, hh⟩
  clear z1a z1b z1l H
  have FS := Lib.hid (fun l nw c m (lst : List Shr) la lc lt ld => (FP.out g l nw c).sep ((FR.out r m).sep ((FT.out lst [] (.slice la lst.length lc) (.slice lt 0 ld)).sep FB.out)))
  have H := Lib.hid (hh.map fun F h => h.under fun F h => Sep.rot h)
  clear hh
  have z1a := H.out.mem.cell (i := 1) (o := 0) rfl rfl
  have z1b := H.out.mem.cell (i := 1) (o := 1) rfl rfl
  have z1l := H.out.mem.lt (i := 1) rfl
  have HA := Lib.hid (H.out.alloc' (FS.out _ _ _ _ _ _ _ _ _) [.slice la q3.length lc, .slice lt 0 ld] tablT13 rfl)
  go_wp2_with fail
  refine (at_rturn HA.out.rot ((FP.out _ _ _ _).sep ((FT.out _ _ _ _).sep FB.out)) fr13 ya y yc yb [] yd T W (by omega) HI0.out.2.1 MY.out (RB.out _ _ _ (HA.out.map fun F h => Sep.assoc' (Sep.assoc' h))).2 (by omega) (by omega) HL.out.2.2.1 HL.out.2.2.2).mono ?_
  rintro e w11 ⟨ra, rk, rb, rd, rfl, hh⟩
  clear z1a z1b z1l H HA
  have HA := Lib.hid (hold_drop2 hh).rot
  clear hh
  go_wp2_with fail
  refine (revs_any w11).mono ?_
  rintro e w12 ⟨rfl, hbr, hgr⟩
  have H : Hid (Hold w w12 [(w4.heap.size, [.slice xa x.length xc, .slice xb 0 xd], tablT13), (w4.heap.size + 1, [.slice ya y.length yc, .slice yb 0 yd], tablT13), (w9.heap.size, [.slice la q3.length lc, .slice lt 0 ld], tablT13), (w11.heap.size, [.string (revK 0), .string (revK 1), .string (revK 2), .string (revK 3), .string (revK 4), .string (revK 5)], 9)] (Sep (PlP g l3 T 3) (Sep (RolP r l3) (Sep (TabS q3 [] la lc lt ld) B)))) := Lib.hid (HA.out.add (FS.out _ _ _ _ _ _ _ _ _) hgr hbr (Nat.le_refl _))
  have lq3 : q3.length ≤ 500 := by
    obtain ⟨z, hz⟩ := HI0.out.2.2.2
    rw [← hz.sh, hz.ro]; exact (roll_sd' hz.sd MY.out.sd).len
  clear HA hbr hgr
  generalize w11.heap.size = rb at *
  generalize w9.heap.size = lb at *
  go_wp2_with fail
  go_loopw [19, 22] (fun nv iv wr => ∃ (k : Nat) (l : List Wa) (now : Int) (lst : List Shr) (la : Option Addr) (lc : Nat) (lt : Option Addr) (ld : Nat), k ≤ 20 ∧ 0 ≤ now ∧ now ≤ 60 + 4 * (k : Int) ∧ lst.length ≤ 500 ∧ nv = .int .i64 now ∧ iv = .int .i64 (k : Int) ∧ Hid (WInv l (3 + k) ∧ ∃ z, WhJ x y l now lst z) ∧ Hid (Hold w wr [(w4.heap.size, [.slice xa x.length xc, .slice xb 0 xd], tablT13), (w4.heap.size + 1, [.slice ya y.length yc, .slice yb 0 yd], tablT13), (lb, [.slice la lst.length lc, .slice lt 0 ld], tablT13), (rb, [.string (revK 0), .string (revK 1), .string (revK 2), .string (revK 3), .string (revK 4), .string (revK 5)], 9)] (Sep (PlP g l now (3 + k)) (Sep (RolP r l) (Sep (TabS lst [] la lc lt ld) B))))) (fun _ iv _ => 20 - (_root_.Go.RowKit.intOf iv).toNat)
  case atStart => exact ⟨0, l3, T, q3, la, lc, lt, ld, by omega, by omega, by omega, lq3, rfl, rfl, Lib.hid ⟨HI0.out.2.2.1, HI0.out.2.2.2⟩, H⟩
  case round =>
    clear H
    obtain ⟨k, l, now, lst, la, lc, lt, ld, hk, hn0, hn1, llst, rfl, rfl, HI, H⟩ := hrel
    have hk1 : IntKind.i64.wrap ((k : Int) + 1) = (k : Int) + 1 := IntWalk.i64_in _ ⟨by omega, by omega⟩
    by_cases h12 : k < zs2.length ∧ k < 20
    · obtain ⟨h1, h2⟩ := h12
      obtain ⟨bb, off, rfl, hcc⟩ := NR.out k h1
      have c0 := hcc wr H.out.below
      have hbl : bb < wr.heap.size := cell_in c0
      have WK := Lib.hid (W5.out k)
      have rk := R5.out k
      generalize zs2.getD k 0 = nk at *
      generalize withinI nk 5 = d at *
      obtain ⟨n', hn'⟩ : ∃ n', now + d = n' := ⟨_, rfl⟩
      have hwn : IntKind.i64.wrap (now + d) = n' := by rw [hn']; exact IntWalk.i64_in _ ⟨by omega, by omega⟩
      have hb' : now ≤ n' ∧ 0 ≤ n' ∧ n' ≤ 60 + 4 * ((k : Int) + 1) := by omega
      have d1' : decide ((k : Int) < (zs2.length : Int)) = true := decide_eq_true (by omega)
      have d2' : decide ((k : Int) < 20) = true := decide_eq_true (by omega)
      have k1 : (0 : Int) ≤ (k : Int) := by omega
      have k2 : (k : Int) < (zs2.length : Int) := by omega
      obtain ⟨z, hz⟩ := HI.out.2
      obtain ⟨l4, e3⟩ : ∃ l', turnW l fr13 y [] n' V = l' := ⟨_, rfl⟩
      obtain ⟨p, s3⟩ : ∃ p, (stepW (findW l fr13) fr13 y [] n' V).sh = p := ⟨_, rfl⟩
      obtain ⟨f3, up⟩ := hz.step MY.out.sd hb'.1 bV.1
      rw [e3, s3] at f3
      rw [s3] at up
      have i3 : WInv l4 (3 + k + 1) := e3 ▸ HI.out.1.turn MY.out.sd MY.out.tl MY.out.zt (by omega)
      have sp : Sd p := by obtain ⟨z', hz'⟩ := f3; rw [← hz'.sh, hz'.ro]; exact roll_sd' hz'.sd MY.out.sd
      have lp := sp.len
      have SP := Lib.hid sp
      have UPP := Lib.hid up
      have HT := Lib.hid (And.intro e3 s3)
      have HJ := Lib.hid (And.intro i3 f3)
      clear e3 s3 i3 f3 hcc rk hn' hz up sp
      go_wp2_with fail
      refine (WK.out _).mono ?_
      rintro e wx ⟨rfl, rfl⟩
      clear c0 hbl WK
      have z1a := H.out.mem.cell (i := 1) (o := 0) rfl rfl
      have z1b := H.out.mem.cell (i := 1) (o := 1) rfl rfl
      have z1l := H.out.mem.lt (i := 1) rfl
      go_wp2_with fail
      refine (at_turn H.out ((FR.out _ _).sep ((FT.out _ _ _ _).sep FB.out)) fr13 (by decide) ya y yc yb [] yd n' V (by omega) HI.out.1 MY.out (RB.out _ _ _ (H.out.map fun F h => Sep.assoc' (Sep.assoc' h))).2 (by omega) (by omega) (by omega) HT.out.1 HT.out.2).mono ?_
      rintro e w12 ⟨sa, sk, sb, sd, rfl, hh⟩
      clear H z1a z1b z1l
      have HQ := Lib.hid (hh.map fun F h => (h.under fun F h => Sep.rot h).rot)
      have FQ := Lib.hid (fun m => (FR.out r m).sep ((FP.out g l4 n' (3 + k + 1)).sep ((FT.out p [] (.slice sa p.length sk) (.slice sb 0 sd)).sep ((FT.out lst [] (.slice la lst.length lc) (.slice lt 0 ld)).sep FB.out))))
      have FQ2 := Lib.hid (fun ua uk ub ud => (FR.out r l4).sep ((FT.out p [] (.slice ua p.length uk) (.slice ub 0 ud)).sep ((FP.out g l4 n' (3 + k + 1)).sep ((FT.out p [] (.slice sa p.length sk) (.slice sb 0 sd)).sep ((FT.out lst [] (.slice la lst.length lc) (.slice lt 0 ld)).sep FB.out)))))
      have HA := HQ.out.alloc' (FQ.out _) [.slice sa p.length sk, .slice sb 0 sd] tablT13 rfl
      obtain ⟨w13, hw13⟩ : ∃ w13, w13 = w12.alloc (.cells ([.slice sa p.length sk, .slice sb 0 sd] : List Value).toArray tablT13) := ⟨_, rfl⟩
      rw [← hw13] at HA
      obtain ⟨F, hF⟩ := HA.named
      have HF := Lib.hid hF
      have KC := Lib.hid (fun (w' : World) (h : Chg (fun j => F j ∨ w13.heap.size ≤ j) w13 w') => (⟨keepc HF.out h (i := 1) (o := 0) rfl rfl, keepc HF.out h (i := 1) (o := 1) rfl rfl, keepc HF.out h (i := 4) (o := 0) rfl rfl, keepc HF.out h (i := 4) (o := 1) rfl rfl, trivial⟩ : w'.cell? ⟨w4.heap.size + 1, 0, none⟩ = some (.slice ya y.length yc) ∧ w'.cell? ⟨w4.heap.size + 1, 1, none⟩ = some (.slice yb 0 yd) ∧ w'.cell? ⟨w12.heap.size, 0, none⟩ = some (.slice sa p.length sk) ∧ w'.cell? ⟨w12.heap.size, 1, none⟩ = some (.slice sb 0 sd) ∧ True))
      have S1 := Lib.hid (fun (w' : World) L F (h : HoldF w w' L (Sep (RolP r l) (Sep (PlP g l4 n' (3 + k + 1)) (Sep (TabS p [] sa sk sb sd) (Sep (TabS lst [] la lc lt ld) B)))) F) => at_rturnF h ((FP.out _ _ _ _).sep ((FT.out _ _ _ _).sep ((FT.out _ _ _ _).sep FB.out))) fr13 ya y yc yb [] yd n' V (by omega) HI.out.1 MY.out (RB.out _ _ _ (h.hold.map fun F h => Sep.assoc' (Sep.assoc' (Sep.assoc' h)))).2 (by omega) (by omega) HT.out.1 HT.out.2)
      have S2 := Lib.hid (fun (w' : World) L ua uk ub ud (h : Hold w w' L (Sep (RolP r l4) (Sep (TabS p [] ua uk ub ud) (Sep (PlP g l4 n' (3 + k + 1)) (Sep (TabS p [] sa sk sb sd) (Sep (TabS lst [] la lc lt ld) B)))))) => same_true w' (c := sk) (d := sd) (c2 := uk) (d2 := ud) (hold_rows4 h) (hold_rows2 h) (by omega) (by decide))
      have S3 := Lib.hid (fun (w' : World) L ua uk ub ud (h : Hold w w' L (Sep (RolP r l4) (Sep (TabS p [] ua uk ub ud) (Sep (PlP g l4 n' (3 + k + 1)) (Sep (TabS p [] sa sk sb sd) (Sep (TabS lst [] la lc lt ld) B)))))) => right_true w' (c := sk) (d := sd) (hold_rows4 h) SP.out)
      clear hF HA hh HQ
      go_wp2_with fail
      rw [← hw13]
      clear hw13
      refine Evo2.start' (ℓ := none) (S := Chg (fun j => F j ∨ w13.heap.size ≤ j)) (E := Grow.G) (by kernel_rfl) ⟨Chg.pre _, by decide +kernel, (by intro c a d v w h; cases d <;> exact h), by decide +kernel⟩ (fun ok => ?_)
      first | (refine Evo2.vl ok 0 KC.out (Chg.refl (fun j => F j ∨ w13.heap.size ≤ j) _) _ _ ?_) | (refine Evo2.va ok 0 _ _ ?_)
      refine Evo2.va ok 1 _ _ ?_
      first | (refine Evo2.vl ok 2 KC.out (Chg.refl (fun j => F j ∨ w13.heap.size ≤ j) _) _ _ ?_) | (refine Evo2.va ok 2 _ _ ?_)
      refine Evo2.va ok 3 _ _ ?_
      refine Evo2.va ok 4 _ _ ?_
      refine Evo2.all [5] (by decide +kernel) rfl ?_
      intro wp1 gp1 iq hq
      simp only [List.mem_cons, List.mem_nil_iff, or_false] at hq
      have AP1 := Chg.trans (Chg.refl (fun j => F j ∨ w13.heap.size ≤ j) _) (Chg.grow gp1)
      (try replace HF1 := Lib.hid (HF1.out.grow (FQ2.out _ _ _ _) gp1))
      subst hq
      refine Evo2.enters 19 _ (by rfl) (by rfl) (by go_simp; exact ⟨rfl, rfl⟩) ?_
      refine (S1.out wp1 _ F (HF.out.grow (FQ.out _) gp1)).mono ?_
      rintro e wc1 ⟨ua, uk, ub, ud, rfl, F1, HF1, c1, -⟩; have CH1 : Chg (fun j => F j ∨ w13.heap.size ≤ j) _ _ := c1.mono (fun j _ h => .inl h); have HF1 := Lib.hid HF1
      refine ⟨_, rfl, .inr CH1, ?_⟩
      have AC1 := Chg.trans AP1 CH1
      simp only [Act.put, L0, L1, L2]
      refine Evo2.all [6] (by decide +kernel) rfl ?_
      intro wp2 gp2 iq hq
      simp only [List.mem_cons, List.mem_nil_iff, or_false] at hq
      have AP2 := Chg.trans AC1 (Chg.grow gp2)
      (try replace HF1 := Lib.hid (HF1.out.grow (FQ2.out _ _ _ _) gp2))
      subst hq
      refine Evo2.enters 16 _ (by rfl) (by rfl) (by go_simp; exact ⟨rfl, rfl⟩) ?_
      refine (S2.out wp2 _ ua uk ub ud HF1.out.hold).mono ?_
      rintro e wc2 ⟨rfl, hg⟩; have CH2 : Chg (fun j => F j ∨ w13.heap.size ≤ j) _ _ := Chg.grow hg; replace HF1 := Lib.hid (HF1.out.grow (FQ2.out _ _ _ _) hg)
      refine ⟨_, rfl, .inr CH2, ?_⟩
      have AC2 := Chg.trans AP2 CH2
      simp only [Act.put, L0, L1, L2]
      refine Evo2.va ok 7 _ _ ?_
      refine Evo2.va ok 8 _ _ ?_
      first | (refine Evo2.vl ok 9 KC.out AC2 _ _ ?_) | (refine Evo2.va ok 9 _ _ ?_) | (refine Evo2.vi ok 9 _ ?_)
      refine Evo2.all [10] (by decide +kernel) rfl ?_
      intro wp3 gp3 iq hq
      simp only [List.mem_cons, List.mem_nil_iff, or_false] at hq
      have AP3 := Chg.trans AC2 (Chg.grow gp3)
      (try replace HF1 := Lib.hid (HF1.out.grow (FQ2.out _ _ _ _) gp3))
      subst hq
      refine Evo2.enters 23 _ (by rfl) (by rfl) (by go_simp; exact ⟨rfl, rfl⟩) ?_
      refine (S3.out wp3 _ ua uk ub ud HF1.out.hold).mono ?_
      rintro e wc3 ⟨rfl, hg⟩; have CH3 : Chg (fun j => F j ∨ w13.heap.size ≤ j) _ _ := Chg.grow hg; replace HF1 := Lib.hid (HF1.out.grow (FQ2.out _ _ _ _) hg)
      refine ⟨_, rfl, .inr CH3, ?_⟩
      have AC3 := Chg.trans AP3 CH3
      simp only [Act.put, L0, L1, L2]
      first | (refine Evo2.va ok 11 _ _ ?_) | (refine Evo2.vi ok 11 _ ?_)
      refine Evo2.va ok 12 _ _ ?_
      refine Evo2.done (by decide +kernel) (fun wz gz => ?_)
      have AZ := Chg.trans AC3 (Chg.grow gz)
      (try replace HF1 := Lib.hid (HF1.out.grow (FQ2.out _ _ _ _) gz))
      have FS2 : Hid (Foot (Sep (PlP g l4 n' (3 + k + 1)) (Sep (RolP r l4) (Sep (TabS p [] sa sk sb sd) (Sep (TabS lst [] la lc lt ld) B))))) := Lib.hid ((FP.out _ _ _ _).sep ((FR.out _ _).sep ((FT.out _ _ _ _).sep ((FT.out _ _ _ _).sep FB.out))))
      have H : Hid (Hold w wz [(w4.heap.size, [.slice xa x.length xc, .slice xb 0 xd], tablT13), (w4.heap.size + 1, [.slice ya y.length yc, .slice yb 0 yd], tablT13), (lb, [.slice la lst.length lc, .slice lt 0 ld], tablT13), (rb, [.string (revK 0), .string (revK 1), .string (revK 2), .string (revK 3), .string (revK 4), .string (revK 5)], 9), (w12.heap.size, [.slice sa p.length sk, .slice sb 0 sd], tablT13)] (Sep (PlP g l4 n' (3 + k + 1)) (Sep (RolP r l4) (Sep (TabS p [] sa sk sb sd) (Sep (TabS lst [] la lc lt ld) B))))) := Lib.hid (hold_drop2 HF1.out.hold).rot
      clear HF HF1 KC S1 S2 S3 FQ FQ2 HI
      generalize w12.heap.size = tb at *
      go_wp2_with fail
      go_loopw [24] (fun jv wr => ∃ (j : Nat), j ≤ 6 ∧ jv = .int .i64 (j : Int) ∧ Hid (Hold w wr [(w4.heap.size, [.slice xa x.length xc, .slice xb 0 xd], tablT13), (w4.heap.size + 1, [.slice ya y.length yc, .slice yb 0 yd], tablT13), (lb, [.slice la lst.length lc, .slice lt 0 ld], tablT13), (rb, [.string (revK 0), .string (revK 1), .string (revK 2), .string (revK 3), .string (revK 4), .string (revK 5)], 9), (tb, [.slice sa p.length sk, .slice sb 0 sd], tablT13)] (Sep (PlP g l4 n' (3 + k + 1)) (Sep (RolP r l4) (Sep (TabS p [] sa sk sb sd) (Sep (TabS lst [] la lc lt ld) B)))))) (fun jv _ => 6 - (_root_.Go.RowKit.intOf jv).toNat)
      case atStart => exact ⟨0, by omega, rfl, H⟩
      case round =>
        clear H
        obtain ⟨j, hj, rfl, H⟩ := hrel
        have hj1 : IntKind.i64.wrap ((j : Int) + 1) = (j : Int) + 1 := IntWalk.i64_in _ ⟨by omega, by omega⟩
        by_cases hlt : j < 6
        · have d0 : decide ((j : Int) < 6) = true := decide_eq_true (by omega)
          have j1 : (0 : Int) ≤ (j : Int) := by omega
          have j2 : (j : Int) < 6 := by omega
          rename World => wr
          have HRV := H.out.mem.cell (i := 3) (o := j) rfl (rev13 j hlt)
          have HX := RB.out _ _ _ (H.out.map fun F h => Sep.assoc' (Sep.assoc' (Sep.assoc' h)))
          have HT1 := hold_rows3 H.out
          have HT2 := hold_rows4 H.out
          obtain ⟨nm, hnm⟩ : ∃ nm, revK j = nm := ⟨_, rfl⟩
          rw [hnm] at HRV
          obtain ⟨pl, hpl⟩ : ∃ q, wtL lst nm = q := ⟨_, rfl⟩
          obtain ⟨pr, hpr⟩ : ∃ q, wtL p nm = q := ⟨_, rfl⟩
          obtain ⟨px, hpx⟩ : ∃ q, wtL x nm = q := ⟨_, rfl⟩
          obtain ⟨py, hpy⟩ : ∃ q, wtL y nm = q := ⟨_, rfl⟩
          have up := UPP.out nm
          rw [hpl, hpr, hpx, hpy] at up
          have UP := Lib.hid up
          have WL := Lib.hid (fun w' (q : Grow.G wr w') => quiet13 (weight13_any la lst lc nm w' (by omega) (SlOf.later HT2.1 q)))
          have WR := Lib.hid (fun w' (q : Grow.G wr w') => quiet13 (weight13_any sa p sk nm w' (by omega) (SlOf.later HT1.1 q)))
          have WX := Lib.hid (fun w' (q : Grow.G wr w') => quiet13 (weight13_any xa x xc nm w' (by omega) (SlOf.later HX.1.1 q)))
          have WY := Lib.hid (fun w' (q : Grow.G wr w') => quiet13 (weight13_any ya y yc nm w' (by omega) (SlOf.later HX.2.1 q)))
          rw [hpl] at WL
          rw [hpr] at WR
          rw [hpx] at WX
          rw [hpy] at WY
          have KC := Lib.hid (fun (w' : World) (h : Chg (fun _ => False) wr w') => (⟨h.cell (H.out.mem.cell (i := 0) (o := 0) rfl rfl) id, h.cell (H.out.mem.cell (i := 1) (o := 0) rfl rfl) id, h.cell (H.out.mem.cell (i := 2) (o := 0) rfl rfl) id, h.cell (H.out.mem.cell (i := 4) (o := 0) rfl rfl) id, h.cell HRV id, trivial⟩ : w'.cell? ⟨w4.heap.size, 0, none⟩ = some (.slice xa x.length xc) ∧ w'.cell? ⟨w4.heap.size + 1, 0, none⟩ = some (.slice ya y.length yc) ∧ w'.cell? ⟨lb, 0, none⟩ = some (.slice la lst.length lc) ∧ w'.cell? ⟨tb, 0, none⟩ = some (.slice sa p.length sk) ∧ w'.cell? ⟨rb, j, none⟩ = some (.string nm) ∧ True))
          clear hpl hpr hpx hpy up hnm HRV HX HT1 HT2
          go_wp2_with fail
          refine wp_spec (fun a0 A W => ∃ x113 x114 x115 x116 x117 x118 x119 x120 x121 x122 x123 x124 x125 x126 x127 x128 x129 x130 x131 x132 x133 x134 x135 x136 x137 x138 x139 x140 x141 x142 x143 : Value, A = ((((((((((((((((((((((((((((((((a0.put (some 113) x113).put (some 114) x114).put (some 115) x115).put (some 116) x116).put (some 117) x117).put (some 118) x118).put (some 119) x119).put (some 120) x120).put (some 121) x121).put (some 122) x122).put (some 123) x123).put (some 124) x124).put (some 125) x125).put (some 126) x126).put (some 127) x127).put (some 128) x128).put (some 129) x129).put (some 130) x130).put (some 131) x131).put (some 132) x132).put (some 133) x133).put (some 134) x134).put (some 135) x135).put (some 136) x136).put (some 137) x137).put (some 138) x138).put (some 139) x139).put (some 140) x140).put (some 141) x141).put (some 142) x142).put (some 143) x143).put (some 144) (.bool false)) ∧ Grow.G wr W) ?_ ?_
          all_goals simp only [Act.put, L0, L1, L2]
          ·
            by_cases hge : px ≤ py
            · have g0 : decide (px ≤ py) = true := decide_eq_true hge
              have g1 : decide (py ≥ px) = true := decide_eq_true hge
              have u2 := UP.out hge
              have g2 : decide (pr < pl) = false := decide_eq_false (by omega)
              clear UP
              refine Evo2.start' (ℓ := none) (S := Chg (fun _ => False)) (E := Grow.G) (by kernel_rfl) ⟨Chg.pre _, by decide +kernel, (by intro c a d v w h; cases d <;> exact h), by decide +kernel⟩ (fun ok => ?_)
              refine Evo2.va ok 0 _ _ ?_
              first | (refine Evo2.vl ok 1 KC.out (Chg.refl (fun _ => False) _) _ _ ?_) | (refine Evo2.va ok 1 _ _ ?_)
              refine Evo2.va ok 2 _ _ ?_
              refine Evo2.va ok 3 _ _ ?_
              refine Evo2.va ok 4 _ _ ?_
              first | (refine Evo2.vl ok 5 KC.out (Chg.refl (fun _ => False) _) _ _ ?_) | (refine Evo2.va ok 5 _ _ ?_)
              (refine Evo2.cal ok 6 ?_ 26 ?_ ?_ ?_ ?_; rotate_left 2; (focus (intro w'; go_simp <;> with_reducible rfl)); (focus (intro w' g'; with_reducible exact WY.out w' ((Chg.trans (Chg.refl (fun _ => False) _) g').toGrow (fun _ _ => id)))); simp only [Act.put, L0, L1, L2])
              refine Evo2.va ok 7 _ _ ?_
              first | (refine Evo2.vl ok 8 KC.out (Chg.refl (fun _ => False) _) _ _ ?_) | (refine Evo2.va ok 8 _ _ ?_)
              refine Evo2.va ok 9 _ _ ?_
              refine Evo2.va ok 10 _ _ ?_
              refine Evo2.va ok 11 _ _ ?_
              first | (refine Evo2.vl ok 12 KC.out (Chg.refl (fun _ => False) _) _ _ ?_) | (refine Evo2.va ok 12 _ _ ?_)
              (refine Evo2.cal ok 13 ?_ 26 ?_ ?_ ?_ ?_; rotate_left 2; (focus (intro w'; go_simp <;> with_reducible rfl)); (focus (intro w' g'; with_reducible exact WX.out w' ((Chg.trans (Chg.refl (fun _ => False) _) g').toGrow (fun _ _ => id)))); simp only [Act.put, L0, L1, L2])
              refine Evo2.va ok 14 _ _ ?_
              refine Evo2.va ok 15 _ _ ?_
              first | (refine Evo2.va ok 16 _ _ ?_) | (refine Evo2.vi ok 16 _ ?_)
              first | (refine Evo2.vl ok 17 KC.out (Chg.refl (fun _ => False) _) _ _ ?_) | (refine Evo2.va ok 17 _ _ ?_) | (refine Evo2.vi ok 17 _ ?_)
              first | (refine Evo2.va ok 18 _ _ ?_) | (refine Evo2.vi ok 18 _ ?_)
              first | (refine Evo2.va ok 19 _ _ ?_) | (refine Evo2.vi ok 19 _ ?_)
              first | (refine Evo2.va ok 20 _ _ ?_) | (refine Evo2.vi ok 20 _ ?_)
              first | (refine Evo2.vl ok 21 KC.out (Chg.refl (fun _ => False) _) _ _ ?_) | (refine Evo2.va ok 21 _ _ ?_) | (refine Evo2.vi ok 21 _ ?_)
              first | (refine Evo2.cal ok 22 ?_ 26 ?_ ?_ ?_ ?_; rotate_left 2; (focus (intro w'; go_simp <;> with_reducible rfl)); (focus (intro w' g'; with_reducible exact WR.out w' ((Chg.trans (Chg.refl (fun _ => False) _) g').toGrow (fun _ _ => id)))); simp only [Act.put, L0, L1, L2]) | (refine Evo2.vi ok 22 _ ?_)
              first | (refine Evo2.va ok 23 _ _ ?_) | (refine Evo2.vi ok 23 _ ?_)
              first | (refine Evo2.vl ok 24 KC.out (Chg.refl (fun _ => False) _) _ _ ?_) | (refine Evo2.va ok 24 _ _ ?_) | (refine Evo2.vi ok 24 _ ?_)
              first | (refine Evo2.va ok 25 _ _ ?_) | (refine Evo2.vi ok 25 _ ?_)
              first | (refine Evo2.va ok 26 _ _ ?_) | (refine Evo2.vi ok 26 _ ?_)
              first | (refine Evo2.va ok 27 _ _ ?_) | (refine Evo2.vi ok 27 _ ?_)
              first | (refine Evo2.vl ok 28 KC.out (Chg.refl (fun _ => False) _) _ _ ?_) | (refine Evo2.va ok 28 _ _ ?_) | (refine Evo2.vi ok 28 _ ?_)
              first | (refine Evo2.cal ok 29 ?_ 26 ?_ ?_ ?_ ?_; rotate_left 2; (focus (intro w'; go_simp <;> with_reducible rfl)); (focus (intro w' g'; with_reducible exact WL.out w' ((Chg.trans (Chg.refl (fun _ => False) _) g').toGrow (fun _ _ => id)))); simp only [Act.put, L0, L1, L2]) | (refine Evo2.vi ok 29 _ ?_)
              first | (refine Evo2.va ok 30 _ _ ?_) | (refine Evo2.vi ok 30 _ ?_)
              refine Evo2.va ok 31 _ _ ?_
              refine Evo2.done (by decide +kernel) (fun wz gz => ?_)
              have AZ := Chg.trans (Chg.refl (fun _ => False) _) (Chg.grow gz)
              dsimp only [PostN] 
              (repeat apply Exists.intro) 
              exact ⟨rfl, AZ.toGrow (fun _ _ => id)⟩
            · have g0 : decide (px ≤ py) = false := decide_eq_false hge
              have g1 : decide (py ≥ px) = false := decide_eq_false hge
              clear UP
              refine Evo2.start' (ℓ := none) (S := Chg (fun _ => False)) (E := Grow.G) (by kernel_rfl) ⟨Chg.pre _, by decide +kernel, (by intro c a d v w h; cases d <;> exact h), by decide +kernel⟩ (fun ok => ?_)
              refine Evo2.va ok 0 _ _ ?_
              first | (refine Evo2.vl ok 1 KC.out (Chg.refl (fun _ => False) _) _ _ ?_) | (refine Evo2.va ok 1 _ _ ?_)
              refine Evo2.va ok 2 _ _ ?_
              refine Evo2.va ok 3 _ _ ?_
              refine Evo2.va ok 4 _ _ ?_
              first | (refine Evo2.vl ok 5 KC.out (Chg.refl (fun _ => False) _) _ _ ?_) | (refine Evo2.va ok 5 _ _ ?_)
              (refine Evo2.cal ok 6 ?_ 26 ?_ ?_ ?_ ?_; rotate_left 2; (focus (intro w'; go_simp <;> with_reducible rfl)); (focus (intro w' g'; with_reducible exact WY.out w' ((Chg.trans (Chg.refl (fun _ => False) _) g').toGrow (fun _ _ => id)))); simp only [Act.put, L0, L1, L2])
              refine Evo2.va ok 7 _ _ ?_
              first | (refine Evo2.vl ok 8 KC.out (Chg.refl (fun _ => False) _) _ _ ?_) | (refine Evo2.va ok 8 _ _ ?_)
              refine Evo2.va ok 9 _ _ ?_
              refine Evo2.va ok 10 _ _ ?_
              refine Evo2.va ok 11 _ _ ?_
              first | (refine Evo2.vl ok 12 KC.out (Chg.refl (fun _ => False) _) _ _ ?_) | (refine Evo2.va ok 12 _ _ ?_)
              (refine Evo2.cal ok 13 ?_ 26 ?_ ?_ ?_ ?_; rotate_left 2; (focus (intro w'; go_simp <;> with_reducible rfl)); (focus (intro w' g'; with_reducible exact WX.out w' ((Chg.trans (Chg.refl (fun _ => False) _) g').toGrow (fun _ _ => id)))); simp only [Act.put, L0, L1, L2])
              refine Evo2.va ok 14 _ _ ?_
              refine Evo2.va ok 15 _ _ ?_
              first | (refine Evo2.va ok 16 _ _ ?_) | (refine Evo2.vi ok 16 _ ?_)
              first | (refine Evo2.vl ok 17 KC.out (Chg.refl (fun _ => False) _) _ _ ?_) | (refine Evo2.va ok 17 _ _ ?_) | (refine Evo2.vi ok 17 _ ?_)
              first | (refine Evo2.va ok 18 _ _ ?_) | (refine Evo2.vi ok 18 _ ?_)
              first | (refine Evo2.va ok 19 _ _ ?_) | (refine Evo2.vi ok 19 _ ?_)
              first | (refine Evo2.va ok 20 _ _ ?_) | (refine Evo2.vi ok 20 _ ?_)
              first | (refine Evo2.vl ok 21 KC.out (Chg.refl (fun _ => False) _) _ _ ?_) | (refine Evo2.va ok 21 _ _ ?_) | (refine Evo2.vi ok 21 _ ?_)
              first | (refine Evo2.cal ok 22 ?_ 26 ?_ ?_ ?_ ?_; rotate_left 2; (focus (intro w'; go_simp <;> with_reducible rfl)); (focus (intro w' g'; with_reducible exact WR.out w' ((Chg.trans (Chg.refl (fun _ => False) _) g').toGrow (fun _ _ => id)))); simp only [Act.put, L0, L1, L2]) | (refine Evo2.vi ok 22 _ ?_)
              first | (refine Evo2.va ok 23 _ _ ?_) | (refine Evo2.vi ok 23 _ ?_)
              first | (refine Evo2.vl ok 24 KC.out (Chg.refl (fun _ => False) _) _ _ ?_) | (refine Evo2.va ok 24 _ _ ?_) | (refine Evo2.vi ok 24 _ ?_)
              first | (refine Evo2.va ok 25 _ _ ?_) | (refine Evo2.vi ok 25 _ ?_)
              first | (refine Evo2.va ok 26 _ _ ?_) | (refine Evo2.vi ok 26 _ ?_)
              first | (refine Evo2.va ok 27 _ _ ?_) | (refine Evo2.vi ok 27 _ ?_)
              first | (refine Evo2.vl ok 28 KC.out (Chg.refl (fun _ => False) _) _ _ ?_) | (refine Evo2.va ok 28 _ _ ?_) | (refine Evo2.vi ok 28 _ ?_)
              first | (refine Evo2.cal ok 29 ?_ 26 ?_ ?_ ?_ ?_; rotate_left 2; (focus (intro w'; go_simp <;> with_reducible rfl)); (focus (intro w' g'; with_reducible exact WL.out w' ((Chg.trans (Chg.refl (fun _ => False) _) g').toGrow (fun _ _ => id)))); simp only [Act.put, L0, L1, L2]) | (refine Evo2.vi ok 29 _ ?_)
              first | (refine Evo2.va ok 30 _ _ ?_) | (refine Evo2.vi ok 30 _ ?_)
              refine Evo2.va ok 31 _ _ ?_
              refine Evo2.done (by decide +kernel) (fun wz gz => ?_)
              have AZ := Chg.trans (Chg.refl (fun _ => False) _) (Chg.grow gz)
              dsimp only [PostN] 
              (repeat apply Exists.intro) 
              exact ⟨rfl, AZ.toGrow (fun _ _ => id)⟩
          ·
            rintro A wv ⟨x113, x114, x115, x116, x117, x118, x119, x120, x121, x122, x123, x124, x125, x126, x127, x128, x129, x130, x131, x132, x133, x134, x135, x136, x137, x138, x139, x140, x141, x142, x143, rfl, hg2⟩
            have H := Lib.hid (H.out.grow FS2.out hg2)
            clear KC WX WY WL WR hg2 UP
            go_wp2_with fail
            go_roundw
            case rel => exact ⟨j + 1, by omega, by go_num, H⟩
            case measure => simp [_root_.Go.RowKit.intOf]; omega
        · obtain rfl : j = 6 := by omega
          have d0 : decide (((6 : Nat) : Int) < 6) = false := by decide
          have z4a := H.out.mem.cell (i := 4) (o := 0) rfl rfl
          have z4b := H.out.mem.cell (i := 4) (o := 1) rfl rfl
          have z4l := H.out.mem.lt (i := 4) rfl
          go_wp2_with ((with_reducible refine Mem.isList ?_; refine Hold.storeAll 2 (t := 40) FS2.out rfl rfl rfl rfl (n := 2) (by kernel_rfl) H.out rfl rfl rfl rfl ?_; intro W13 HMm CW13))
          simp only [K0, K1, L1, L2, K2, K3, K4, K5, K6, K7, Nat.reduceAdd, Nat.reduceSub] at HMm
          replace H := Lib.hid HMm
          clear HMm
          refine Stay.go ?_
          clear CW13 z4a z4b z4l
          have H := Lib.hid ((H.out.take 4).weak fun F h => h.weakR fun F h => h.weakR fun F h => h.weakR fun F h => h.dropL)
          go_wp2_with fail
          go_roundw
          case rel => exact ⟨k + 1, l4, n', p, sa, sk, sb, sd, by omega, by omega, by omega, lp, rfl, by go_num, HJ, H⟩
          case measure => simp [_root_.Go.RowKit.intOf]; omega
    · have h3 : ¬ k < zs2.length ∨ (k < zs2.length ∧ ¬ k < 20) := by omega
      clear h12 HI
      rcases h3 with q1 | ⟨q1, q2⟩
      case' inl => have d1' : decide ((k : Int) < (zs2.length : Int)) = false := decide_eq_false (by omega)
      case' inr =>
        have d1' : decide ((k : Int) < (zs2.length : Int)) = true := decide_eq_true (by omega)
        have d2' : decide ((k : Int) < 20) = false := decide_eq_false (by omega)
      all_goals
        go_wp2_with fail
        go_ret
        exact ⟨rfl, H.out.below⟩
end Go.Proofs.Ytjhfjjkfnmnkgaa

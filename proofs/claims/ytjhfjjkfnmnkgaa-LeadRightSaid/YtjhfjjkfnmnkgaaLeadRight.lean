
/- The walk of LeadRight. -/
import Derived.Test.YtjhfjjkfnmnkgaaZ98L
namespace Go.Proofs.Ytjhfjjkfnmnkgaa
set_option maxRecDepth 100000
set_option linter.unusedVariables false
set_option linter.unusedSimpArgs false
set_option linter.unnecessarySimpa false
open Go.RowKit Go.Args

theorem rev13 (j : Nat) (hj : j < 6) : ([.string (revK 0), .string (revK 1), .string (revK 2), .string (revK 3), .string (revK 4), .string (revK 5)] : List Value)[j]? = some (.string (revK j)) := by
  match j, hj with
  | 0, _ => rfl
  | 1, _ => rfl
  | 2, _ => rfl
  | 3, _ => rfl
  | 4, _ => rfl
  | 5, _ => rfl
theorem right_true {a b : Option Addr} {sh : List Shr} {c d : Nat} (w : World) (h1 : ShSl w a sh ∧ TgSl w b ([] : List Tgo)) (s : Sd sh) :
    Calls Try.prog 23 #[.agg #[.slice a sh.length c, .slice b 0 d]] w fun e w' => e = .returned (.bool true) ∧ Grow.G w w' :=
  (rright_any a sh c b [] d w (by have := s.len; omega) (by decide) h1.1 h1.2 (sd_okS s) (fun t ht => by cases ht)).mono fun e w' ⟨q1, q2⟩ => ⟨by rw [q1]; unfold rightB; rw [s.sound]; rfl, q2⟩
/-- On the way what grows does not fall. -/
theorem roll_up {a b : List Shr} {s t n : Int} (ha : Sd a) (hb : Sd b) (hs : s ≤ t) (x : ByteArray) (h : wtL a x ≤ wtL b x) : wtL (rollL a b s n) x ≤ wtL (rollL a b t n) x := by
  by_cases hn : 0 < n
  · exact (roll_mono ha hb hn hs x).1 h
  · rw [roll_to (.inl (by omega)), roll_to (.inl (by omega))]; exact Int.le_refl _
set_option maxHeartbeats 64000000 in
theorem walkLeadRight (w : World) (v0 : Value) (zs0 : List Int) (hz0 : IntSlice w v0 zs0) (v1 : Value) (zs1 : List Int) (hz1 : IntSlice w v1 zs1) (whole : Int) (hwh : wf64 whole) (v2 : Value) (zs2 : List Int) (hz2 : IntSlice w v2 zs2) :
    Calls Try.prog 4 #[v0, v1, .int .i64 whole, v2] w fun e w' => e = .returned (.bool true) ∧ Below w.heap.size w w' := by
  have FE := Lib.hid Emp.foot
  have FP := Lib.hid (fun g l nw c => PlP.foot g l nw c)
  have FR := Lib.hid (fun g l => RolP.foot g l)
  have FT := Lib.hid (fun sh tg va vb => TabF.foot sh tg va vb)
  have KN := Lib.hid (known13_any w)
  have HZ0 := Lib.hid hz0
  have HZ1 := Lib.hid hz1
  obtain ⟨x, hx⟩ : ∃ x, mkS zs0 = x := ⟨_, rfl⟩
  obtain ⟨y, hy⟩ : ∃ y, mkS zs1 = y := ⟨_, rfl⟩
  have MX := Lib.hid (show MkT x [] from hx ▸ mk_tab zs0 [])
  have MY := Lib.hid (show MkT y [] from hy ▸ mk_tab zs1 [])
  have HXX := Lib.hid hx
  have HYY := Lib.hid hy
  have lx := MX.out.sd.len
  have ly := MY.out.sd.len
  clear hx hy hz0 hz1
  obtain ⟨na, nc, rfl, hwf, hnl, hnr⟩ := int_row hz2
  unfold maxLen at hnl
  have NR := Lib.hid hnr
  have W40 := Lib.hid (fun w => within13_any whole 40 w (by omega) (by omega) hwh.1 hwh.2)
  have rW := withinI_range whole 40 (by omega)
  obtain ⟨W, hW⟩ : ∃ W, withinI whole 40 = W := ⟨_, rfl⟩
  rw [hW] at W40 rW
  have W5 := Lib.hid (fun (k : Nat) w => within13_any (zs2.getD k 0) 5 w (by omega) (by omega) (hwf k).1 (hwf k).2)
  have R5 := Lib.hid (fun k => withinI_range (zs2.getD k 0) 5 (by omega))
  obtain ⟨l1, e1⟩ : ∃ l, turnW [] fr13 x [] 0 W = l := ⟨_, rfl⟩
  have f1 : findW l1 fr13 = some ⟨fr13, x, x, 0, W, x, []⟩ := by rw [← e1, findW_turn, show findW [] fr13 = none from rfl, stepW_none MX.out.sd]
  have i1 : WInv l1 1 := e1 ▸ WInv.nil.turn MX.out.sd MX.out.tl MX.out.zt (by omega)
  have s1 : (stepW (findW [] fr13) fr13 x [] 0 W).sh = x := by rw [show findW [] fr13 = none from rfl, stepW_none MX.out.sd]
  have RSD := Lib.hid (fun (t : Int) => roll_sd' (t := t) (n := W) MX.out.sd MY.out.sd)
  obtain ⟨R, hR⟩ : ∃ R : Int → List Shr, R = fun t => rollL x y t W := ⟨_, rfl⟩
  have two : stepW (some ⟨fr13, x, x, 0, W, x, []⟩) fr13 y [] 0 W = ⟨fr13, x, y, 0, W, R 0, []⟩ := by
    have := stepW_two (nm := fr13) (b := y) (s := []) (t := []) (now := 0) (wh := W) MX.out.sd
    rw [stepW_none MX.out.sd] at this
    rw [this, hR]
  obtain ⟨l2, e2⟩ : ∃ l, turnW l1 fr13 y [] 0 W = l := ⟨_, rfl⟩
  have f2 : findW l2 fr13 = some ⟨fr13, x, y, 0, W, R 0, []⟩ := by rw [← e2, findW_turn, f1, two]
  have i2 : WInv l2 2 := e2 ▸ i1.turn MY.out.sd MY.out.tl MY.out.zt (by omega)
  have s2 : (stepW (findW l1 fr13) fr13 y [] 0 W).sh = R 0 := by rw [f1, two]
  have RSD : Hid (∀ t, Sd (R t)) := Lib.hid (fun t => by rw [hR]; exact RSD.out t)
  have RTO : Hid (∀ t, W ≤ t → R t = y) := Lib.hid (fun t h => by rw [hR]; exact roll_to (.inr h))
  have RUP : Hid (∀ s t n, s ≤ t → wtL x n ≤ wtL y n → wtL (R s) n ≤ wtL (R t) n) := Lib.hid (fun s t n h1 h2 => by rw [hR]; exact roll_up MX.out.sd MY.out.sd h1 n h2)
  have RST : Hid (∀ z : Wa, z.fr = x → z.to = y → z.si = 0 → z.wh = W → ∀ t, (stepW (some z) fr13 y [] t W).sh = R t ∧ (stepW (some z) fr13 y [] t W).fr = x ∧ (stepW (some z) fr13 y [] t W).to = y ∧ (stepW (some z) fr13 y [] t W).si = 0 ∧ (stepW (some z) fr13 y [] t W).wh = W) := Lib.hid (fun z h1 h2 h3 h4 t => by
    rw [stepW_keep h2 h4, hR, h1, h2, h3, h4, Int.sub_zero]; exact ⟨rfl, rfl, rfl, rfl, rfl⟩)
  have HL := Lib.hid (And.intro (And.intro e1 s1) (And.intro (And.intro e2 s2) (And.intro i1 (And.intro i2 f2))))
  clear e1 f1 i1 s1 e2 s2 i2 f2 two hR hW hwh hz2 hwf hnr
  go_enter Try.func4, Try.ntmps4
  go_wp2_with fail
  refine KN.out.mono ?_
  rintro e w1 ⟨rfl, hg⟩
  have H := Lib.hid ((Hold.nil w).grow Emp.foot hg)
  clear hg KN
  go_wp2_with fail
  refine (hold_plnew H.out FE.out).mono ?_
  rintro e w2 ⟨g, rfl, hh⟩
  replace H := Lib.hid hh
  clear hh
  go_wp2_with fail
  skip
  refine (at_make H.out (FP.out _ _ _ _) FE.out HZ0.out (nilS _) HXX.out (show mkT [] = [] from rfl)).mono ?_
  rintro e w3 ⟨xa, xc, xb, xd, rfl, hh⟩
  replace H := Lib.hid hh
  clear hh 
  go_wp2_with fail
  refine (at_make H.out (FP.out _ _ _ _) ((FT.out _ _ _ _).sep FE.out) HZ1.out (nilS _) HYY.out (show mkT [] = [] from rfl)).mono ?_
  rintro e w4 ⟨ya, yc, yb, yd, rfl, hh⟩
  obtain ⟨w5, hw5⟩ : ∃ w5, w5 = (w4.alloc (.cells #[.slice xa x.length xc, .slice xb 0 xd] tablT13)).alloc (.cells #[.slice ya y.length yc, .slice yb 0 yd] tablT13) := ⟨_, rfl⟩
  obtain ⟨B, hB⟩ : ∃ B, B = Sep (TabS y [] ya yc yb yd) (Sep (TabS x [] xa xc xb xd) Emp) := ⟨_, rfl⟩
  have FB : Hid (Foot B) := Lib.hid (by rw [hB]; exact (FT.out _ _ _ _).sep ((FT.out _ _ _ _).sep FE.out))
  have RB : Hid (∀ (w' : World) L A, Hold w w' L (Sep A B) → (ShSl w' xa x ∧ TgSl w' xb ([] : List Tgo)) ∧ (ShSl w' ya y ∧ TgSl w' yb ([] : List Tgo))) := Lib.hid (fun w' L A h => by rw [hB] at h; exact ⟨hold_rows3 h, hold_rows2 h⟩)
  rw [← hB] at hh
  have H : Hid (Hold w w5 [(w4.heap.size, [.slice xa x.length xc, .slice xb 0 xd], tablT13), (w4.heap.size + 1, [.slice ya y.length yc, .slice yb 0 yd], tablT13)] (Sep (PlP g [] 0 0) B)) := Lib.hid (by rw [hw5]; exact (hh.alloc' ((FP.out _ _ _ _).sep FB.out) _ _ rfl).alloc' ((FP.out _ _ _ _).sep FB.out) _ _ (g := w4.heap.size + 1) (by simp))
  clear hh hB HZ0 HZ1 HXX HYY
  go_wp2_with fail
  refine (W40.out _).mono ?_
  rintro e wx ⟨rfl, rfl⟩
  rw [← hw5]
  clear hw5 W40
  have z0a := H.out.mem.cell (i := 0) (o := 0) rfl rfl
  have z0b := H.out.mem.cell (i := 0) (o := 1) rfl rfl
  have z0l := H.out.mem.lt (i := 0) rfl
  go_wp2_with fail
  refine (at_turn H.out FB.out fr13 (by decide) xa x xc xb [] xd 0 W (by omega) WInv.nil MX.out (RB.out _ _ _ H.out).1 (by omega) (by omega) (by omega) HL.out.1.1 HL.out.1.2).mono ?_
  rintro e w6 ⟨ra, rk, rb, rd, rfl, hh⟩
  clear z0a z0b z0l
  replace H := Lib.hid (hold_drop2 hh)
  clear hh
  have z1a := H.out.mem.cell (i := 1) (o := 0) rfl rfl
  have z1b := H.out.mem.cell (i := 1) (o := 1) rfl rfl
  have z1l := H.out.mem.lt (i := 1) rfl
  go_wp2_with fail
  refine (at_turn H.out FB.out fr13 (by decide) ya y yc yb [] yd 0 W (by omega) HL.out.2.2.1 MY.out (RB.out _ _ _ H.out).2 (by omega) (by omega) (by omega) HL.out.2.1.1 HL.out.2.1.2).mono ?_
  rintro e w7 ⟨la, lc, lt, ld, rfl, hh⟩
  clear z1a z1b z1l H
  have FS := Lib.hid (fun l nw c la lc lt ld t => (FP.out g l nw c).sep ((FT.out (R t) [] (.slice la (R t).length lc) (.slice lt 0 ld)).sep FB.out))
  have HA := hh.alloc' (FS.out _ _ _ _ _ _ _ 0) [.slice la (R 0).length lc, .slice lt 0 ld] tablT13 rfl
  obtain ⟨w8, hw8⟩ : ∃ w8, w8 = w7.alloc (.cells ([.slice la (R 0).length lc, .slice lt 0 ld] : List Value).toArray tablT13) := ⟨_, rfl⟩
  rw [← hw8] at HA
  clear hh
  go_wp2_with fail
  rw [← hw8]
  refine (revs_any w8).mono ?_
  rintro e w9 ⟨rfl, hbr, hgr⟩
  have H : Hid (Hold w w9 [(w4.heap.size, [.slice xa x.length xc, .slice xb 0 xd], tablT13), (w4.heap.size + 1, [.slice ya y.length yc, .slice yb 0 yd], tablT13), (w7.heap.size, [.slice la (R 0).length lc, .slice lt 0 ld], tablT13), (w8.heap.size, [.string (revK 0), .string (revK 1), .string (revK 2), .string (revK 3), .string (revK 4), .string (revK 5)], 9)] (Sep (PlP g l2 0 2) (Sep (TabS (R 0) [] la lc lt ld) B))) := Lib.hid (HA.add (FS.out _ _ _ _ _ _ _ 0) hgr hbr (Nat.le_refl _))
  clear HA hw8 hbr hgr
  generalize w8.heap.size = rb at *
  generalize w7.heap.size = lb at *
  go_wp2_with fail
  go_loopw [14, 16] (fun nv iv wr => ∃ (k : Nat) (l : List Wa) (now : Int) (la : Option Addr) (lc : Nat) (lt : Option Addr) (ld : Nat), k ≤ 30 ∧ 0 ≤ now ∧ now ≤ 4 * (k : Int) ∧ nv = .int .i64 now ∧ iv = .int .i64 (k : Int) ∧ Hid (WInv l (2 + k) ∧ ∃ z : Wa, findW l fr13 = some z ∧ z.fr = x ∧ z.to = y ∧ z.si = 0 ∧ z.wh = W) ∧ Hid (Hold w wr [(w4.heap.size, [.slice xa x.length xc, .slice xb 0 xd], tablT13), (w4.heap.size + 1, [.slice ya y.length yc, .slice yb 0 yd], tablT13), (lb, [.slice la (R now).length lc, .slice lt 0 ld], tablT13), (rb, [.string (revK 0), .string (revK 1), .string (revK 2), .string (revK 3), .string (revK 4), .string (revK 5)], 9)] (Sep (PlP g l now (2 + k)) (Sep (TabS (R now) [] la lc lt ld) B)))) (fun _ iv _ => 30 - (_root_.Go.RowKit.intOf iv).toNat)
  case atStart => exact ⟨0, l2, 0, la, lc, lt, ld, by omega, by omega, by omega, rfl, rfl, Lib.hid ⟨HL.out.2.2.2.1, _, HL.out.2.2.2.2, rfl, rfl, rfl, rfl⟩, H⟩
  case round =>
    clear H
    obtain ⟨k, l, now, la, lc, lt, ld, hk, hn0, hn1, rfl, rfl, HI, H⟩ := hrel
    have hk1 : IntKind.i64.wrap ((k : Int) + 1) = (k : Int) + 1 := IntWalk.i64_in _ ⟨by omega, by omega⟩
    by_cases h12 : k < zs2.length ∧ k < 30
    · obtain ⟨h1, h2⟩ := h12
      obtain ⟨bb, off, rfl, hcc⟩ := NR.out k h1
      have c0 := hcc wr H.out.below
      have hbl : bb < wr.heap.size := cell_in c0
      have WK := Lib.hid (W5.out k)
      have rk := R5.out k
      generalize zs2.getD k 0 = nk at *
      generalize withinI nk 5 = d at *
      obtain ⟨n', hn'⟩ : ∃ n', now + d = n' := ⟨_, rfl⟩
      have hwn : IntKind.i64.wrap (now + d) = n' := by rw [hn']; exact IntWalk.i64_in _ ⟨by omega, by omega⟩
      have hb' : now ≤ n' ∧ 0 ≤ n' ∧ n' ≤ 4 * ((k : Int) + 1) := by omega
      have d1' : decide ((k : Int) < (zs2.length : Int)) = true := decide_eq_true (by omega)
      have d2' : decide ((k : Int) < 30) = true := decide_eq_true (by omega)
      have k1 : (0 : Int) ≤ (k : Int) := by omega
      have k2 : (k : Int) < (zs2.length : Int) := by omega
      obtain ⟨z, hz, z1, z2, z3, z4⟩ := HI.out.2
      obtain ⟨l3, e3⟩ : ∃ l', turnW l fr13 y [] n' W = l' := ⟨_, rfl⟩
      obtain ⟨y1, y2, y3, y4, y5⟩ := RST.out z z1 z2 z3 z4 n'
      have s3 : (stepW (findW l fr13) fr13 y [] n' W).sh = R n' := by rw [hz, y1]
      have i3 : WInv l3 (2 + k + 1) := e3 ▸ HI.out.1.turn MY.out.sd MY.out.tl MY.out.zt (by omega)
      have f3 : ∃ z : Wa, findW l3 fr13 = some z ∧ z.fr = x ∧ z.to = y ∧ z.si = 0 ∧ z.wh = W := ⟨_, by rw [← e3, findW_turn, hz], y2, y3, y4, y5⟩
      have HT := Lib.hid (And.intro e3 s3)
      have HJ := Lib.hid (And.intro i3 f3)
      have lR := (RSD.out n').len
      have lN := (RSD.out now).len
      clear e3 s3 i3 f3 hcc rk hn' z1 z2 z3 z4 y1 y2 y3 y4 y5 hz
      go_wp2_with fail
      refine (WK.out _).mono ?_
      rintro e wx ⟨rfl, rfl⟩
      clear c0 hbl WK
      have z1a := H.out.mem.cell (i := 1) (o := 0) rfl rfl
      have z1b := H.out.mem.cell (i := 1) (o := 1) rfl rfl
      have z1l := H.out.mem.lt (i := 1) rfl
      go_wp2_with fail
      refine (at_turn H.out ((FT.out _ _ _ _).sep FB.out) fr13 (by decide) ya y yc yb [] yd n' W (by omega) HI.out.1 MY.out (RB.out _ _ _ (H.out.map fun F h => Sep.assoc' h)).2 (by omega) (by omega) (by omega) HT.out.1 HT.out.2).mono ?_
      rintro e w9 ⟨sa, sk, sb, sd, rfl, hh⟩
      clear H HI z1a z1b z1l
      have FS2 := Lib.hid ((FP.out g l3 n' (2 + k + 1)).sep ((FT.out (R n') [] (.slice sa (R n').length sk) (.slice sb 0 sd)).sep ((FT.out (R now) [] (.slice la (R now).length lc) (.slice lt 0 ld)).sep FB.out)))
      have HA := Lib.hid (hh.alloc' FS2.out [.slice sa (R n').length sk, .slice sb 0 sd] tablT13 rfl)
      have RT := Lib.hid (right_true _ (c := sk) (d := sd) (hold_rows2 HA.out) (RSD.out n'))
      clear hh
      go_wp2_with fail
      refine RT.out.mono ?_
      rintro e w10 ⟨rfl, hg⟩
      have H : Hid (Hold w w10 [(w4.heap.size, [.slice xa x.length xc, .slice xb 0 xd], tablT13), (w4.heap.size + 1, [.slice ya y.length yc, .slice yb 0 yd], tablT13), (lb, [.slice la (R now).length lc, .slice lt 0 ld], tablT13), (rb, [.string (revK 0), .string (revK 1), .string (revK 2), .string (revK 3), .string (revK 4), .string (revK 5)], 9), (w9.heap.size, [.slice sa (R n').length sk, .slice sb 0 sd], tablT13)] (Sep (PlP g l3 n' (2 + k + 1)) (Sep (TabS (R n') [] sa sk sb sd) (Sep (TabS (R now) [] la lc lt ld) B)))) := Lib.hid (HA.out.grow FS2.out hg)
      clear HA hg RT
      generalize w9.heap.size = tb at *
      go_wp2_with fail
      go_loopw [18] (fun jv wr => ∃ (j : Nat), j ≤ 6 ∧ jv = .int .i64 (j : Int) ∧ Hid (Hold w wr [(w4.heap.size, [.slice xa x.length xc, .slice xb 0 xd], tablT13), (w4.heap.size + 1, [.slice ya y.length yc, .slice yb 0 yd], tablT13), (lb, [.slice la (R now).length lc, .slice lt 0 ld], tablT13), (rb, [.string (revK 0), .string (revK 1), .string (revK 2), .string (revK 3), .string (revK 4), .string (revK 5)], 9), (tb, [.slice sa (R n').length sk, .slice sb 0 sd], tablT13)] (Sep (PlP g l3 n' (2 + k + 1)) (Sep (TabS (R n') [] sa sk sb sd) (Sep (TabS (R now) [] la lc lt ld) B))))) (fun jv _ => 6 - (_root_.Go.RowKit.intOf jv).toNat)
      case atStart => exact ⟨0, by omega, rfl, H⟩
      case round =>
        clear H
        obtain ⟨j, hj, rfl, H⟩ := hrel
        have hj1 : IntKind.i64.wrap ((j : Int) + 1) = (j : Int) + 1 := IntWalk.i64_in _ ⟨by omega, by omega⟩
        by_cases hlt : j < 6
        · have d0 : decide ((j : Int) < 6) = true := decide_eq_true (by omega)
          have j1 : (0 : Int) ≤ (j : Int) := by omega
          have j2 : (j : Int) < 6 := by omega
          rename World => wr
          have HRV := H.out.mem.cell (i := 3) (o := j) rfl (rev13 j hlt)
          have HX := RB.out _ _ _ (H.out.map fun F h => Sep.assoc' (Sep.assoc' h))
          have HT1 := hold_rows2 H.out
          have HT2 := hold_rows3 H.out
          obtain ⟨nm, hnm⟩ : ∃ nm, revK j = nm := ⟨_, rfl⟩
          rw [hnm] at HRV
          have HNM := Lib.hid hnm
          obtain ⟨pl, hpl⟩ : ∃ p, wtL (R now) nm = p := ⟨_, rfl⟩
          obtain ⟨pr, hpr⟩ : ∃ p, wtL (R n') nm = p := ⟨_, rfl⟩
          obtain ⟨px, hpx⟩ : ∃ p, wtL x nm = p := ⟨_, rfl⟩
          obtain ⟨py, hpy⟩ : ∃ p, wtL y nm = p := ⟨_, rfl⟩
          have up := RUP.out now n' nm (by omega)
          rw [hpl, hpr, hpx, hpy] at up
          have UP := Lib.hid up
          have WL := Lib.hid (fun w' (q : Grow.G wr w') => quiet13 (rweight_any la (R now) lc nm w' (by omega) (SlOf.later HT2.1 q)))
          have WR := Lib.hid (fun w' (q : Grow.G wr w') => quiet13 (rweight_any sa (R n') sk nm w' (by omega) (SlOf.later HT1.1 q)))
          have WX := Lib.hid (fun w' (q : Grow.G wr w') => quiet13 (rweight_any xa x xc nm w' (by omega) (SlOf.later HX.1.1 q)))
          have WY := Lib.hid (fun w' (q : Grow.G wr w') => quiet13 (rweight_any ya y yc nm w' (by omega) (SlOf.later HX.2.1 q)))
          rw [hpl] at WL
          rw [hpr] at WR
          rw [hpx] at WX
          rw [hpy] at WY
          have KC := Lib.hid (fun (w' : World) (h : Chg (fun _ => False) wr w') => (⟨h.cell (H.out.mem.cell (i := 2) (o := 0) rfl rfl) id, h.cell (H.out.mem.cell (i := 4) (o := 0) rfl rfl) id, h.cell HRV id, trivial⟩ : w'.cell? ⟨lb, 0, none⟩ = some (.slice la (R now).length lc) ∧ w'.cell? ⟨tb, 0, none⟩ = some (.slice sa (R n').length sk) ∧ w'.cell? ⟨rb, j, none⟩ = some (.string nm) ∧ True))
          clear hpl hpr hpx hpy up hnm HRV HX HT1 HT2
          go_wp2_with fail
          refine Evo2.start' (ℓ := none) (S := Chg (fun _ => False)) (E := Grow.G) (by kernel_rfl) ⟨Chg.pre _, by decide +kernel, (by intro c a d v w h; cases d <;> exact h), by decide +kernel⟩ (fun ok => ?_)
          refine Evo2.va ok 0 _ _ ?_
          first | (refine Evo2.vl ok 1 KC.out (Chg.refl (fun _ => False) _) _ _ ?_) | (refine Evo2.va ok 1 _ _ ?_)
          refine Evo2.va ok 2 _ _ ?_
          refine Evo2.va ok 3 _ _ ?_
          refine Evo2.va ok 4 _ _ ?_
          first | (refine Evo2.vl ok 5 KC.out (Chg.refl (fun _ => False) _) _ _ ?_) | (refine Evo2.va ok 5 _ _ ?_)
          (refine Evo2.cal ok 6 ?_ 24 ?_ ?_ ?_ ?_; rotate_left 2; (focus (intro w'; go_simp <;> with_reducible rfl)); (focus (intro w' g'; with_reducible exact WL.out w' ((Chg.trans (Chg.refl (fun _ => False) _) g').toGrow (fun _ _ => id)))); simp only [Act.put, L0, L1, L2])
          refine Evo2.va ok 7 _ _ ?_
          first | (refine Evo2.vl ok 8 KC.out (Chg.refl (fun _ => False) _) _ _ ?_) | (refine Evo2.va ok 8 _ _ ?_)
          refine Evo2.va ok 9 _ _ ?_
          refine Evo2.va ok 10 _ _ ?_
          refine Evo2.va ok 11 _ _ ?_
          first | (refine Evo2.vl ok 12 KC.out (Chg.refl (fun _ => False) _) _ _ ?_) | (refine Evo2.va ok 12 _ _ ?_)
          (refine Evo2.cal ok 13 ?_ 24 ?_ ?_ ?_ ?_; rotate_left 2; (focus (intro w'; go_simp <;> with_reducible rfl)); (focus (intro w' g'; with_reducible exact WR.out w' ((Chg.trans (Chg.refl (fun _ => False) _) g').toGrow (fun _ _ => id)))); simp only [Act.put, L0, L1, L2])
          refine Evo2.va ok 14 _ _ ?_
          refine Evo2.va ok 15 _ _ ?_
          refine Evo2.done (by decide +kernel) (fun wz gz => ?_)
          have AZ := Chg.trans (Chg.refl (fun _ => False) _) (Chg.grow gz)
          have G1 := Lib.hid (AZ.toGrow (fun _ _ => id))
          have H := Lib.hid (H.out.grow FS2.out G1.out)
          clear KC AZ gz WL WR
          go_wp2_with fail
          rename World => wq
          have KC := Lib.hid (fun (w' : World) (h : Chg (fun _ => False) wq w') => (⟨h.cell (H.out.mem.cell (i := 0) (o := 0) rfl rfl) id, h.cell (H.out.mem.cell (i := 1) (o := 0) rfl rfl) id, h.cell (H.out.mem.cell (i := 3) (o := j) rfl (by rw [rev13 j hlt, HNM.out])) id, trivial⟩ : w'.cell? ⟨w4.heap.size, 0, none⟩ = some (.slice xa x.length xc) ∧ w'.cell? ⟨w4.heap.size + 1, 0, none⟩ = some (.slice ya y.length yc) ∧ w'.cell? ⟨rb, j, none⟩ = some (.string nm) ∧ True))
          have WX2 := Lib.hid (fun w' (q : Grow.G wq w') => WX.out w' (Grow.G.trans G1.out q))
          have WY2 := Lib.hid (fun w' (q : Grow.G wq w') => WY.out w' (Grow.G.trans G1.out q))
          clear WX WY G1
          refine wp_spec (fun a0 A W => ∃ x86 x87 x88 x89 x90 x91 x92 x93 x94 x95 x96 x97 x98 x99 x100 x101 x102 x103 x104 : Value, A = ((((((((((((((((((((a0.put (some 86) x86).put (some 87) x87).put (some 88) x88).put (some 89) x89).put (some 90) x90).put (some 91) x91).put (some 92) x92).put (some 93) x93).put (some 94) x94).put (some 95) x95).put (some 96) x96).put (some 97) x97).put (some 98) x98).put (some 99) x99).put (some 100) x100).put (some 101) x101).put (some 102) x102).put (some 103) x103).put (some 104) x104).put (some 105) (.bool false)) ∧ Grow.G wq W) ?_ ?_
          all_goals simp only [Act.put, L0, L1, L2]
          ·
            by_cases hge : px ≤ py
            · have g0 : decide (px ≤ py) = true := decide_eq_true hge
              have g1 : decide (py ≥ px) = true := decide_eq_true hge
              have u2 := UP.out hge
              have g2 : decide (pr < pl) = false := decide_eq_false (by omega)
              clear UP
              refine Evo2.start' (ℓ := none) (S := Chg (fun _ => False)) (E := Grow.G) (by kernel_rfl) ⟨Chg.pre _, by decide +kernel, (by intro c a d v w h; cases d <;> exact h), by decide +kernel⟩ (fun ok => ?_)
              refine Evo2.va ok 0 _ _ ?_
              first | (refine Evo2.vl ok 1 KC.out (Chg.refl (fun _ => False) _) _ _ ?_) | (refine Evo2.va ok 1 _ _ ?_)
              refine Evo2.va ok 2 _ _ ?_
              refine Evo2.va ok 3 _ _ ?_
              refine Evo2.va ok 4 _ _ ?_
              first | (refine Evo2.vl ok 5 KC.out (Chg.refl (fun _ => False) _) _ _ ?_) | (refine Evo2.va ok 5 _ _ ?_)
              (refine Evo2.cal ok 6 ?_ 24 ?_ ?_ ?_ ?_; rotate_left 2; (focus (intro w'; go_simp <;> with_reducible rfl)); (focus (intro w' g'; with_reducible exact WY2.out w' ((Chg.trans (Chg.refl (fun _ => False) _) g').toGrow (fun _ _ => id)))); simp only [Act.put, L0, L1, L2])
              refine Evo2.va ok 7 _ _ ?_
              first | (refine Evo2.vl ok 8 KC.out (Chg.refl (fun _ => False) _) _ _ ?_) | (refine Evo2.va ok 8 _ _ ?_)
              refine Evo2.va ok 9 _ _ ?_
              refine Evo2.va ok 10 _ _ ?_
              refine Evo2.va ok 11 _ _ ?_
              first | (refine Evo2.vl ok 12 KC.out (Chg.refl (fun _ => False) _) _ _ ?_) | (refine Evo2.va ok 12 _ _ ?_)
              (refine Evo2.cal ok 13 ?_ 24 ?_ ?_ ?_ ?_; rotate_left 2; (focus (intro w'; go_simp <;> with_reducible rfl)); (focus (intro w' g'; with_reducible exact WX2.out w' ((Chg.trans (Chg.refl (fun _ => False) _) g').toGrow (fun _ _ => id)))); simp only [Act.put, L0, L1, L2])
              refine Evo2.va ok 14 _ _ ?_
              refine Evo2.va ok 15 _ _ ?_
              first | (refine Evo2.va ok 16 _ _ ?_) | (refine Evo2.vi ok 16 _ ?_)
              first | (refine Evo2.va ok 17 _ _ ?_) | (refine Evo2.vi ok 17 _ ?_)
              first | (refine Evo2.va ok 18 _ _ ?_) | (refine Evo2.vi ok 18 _ ?_)
              refine Evo2.va ok 19 _ _ ?_
              refine Evo2.done (by decide +kernel) (fun wz gz => ?_)
              have AZ := Chg.trans (Chg.refl (fun _ => False) _) (Chg.grow gz)
              dsimp only [PostN] 
              (repeat apply Exists.intro) 
              exact ⟨rfl, AZ.toGrow (fun _ _ => id)⟩
            · have g0 : decide (px ≤ py) = false := decide_eq_false hge
              have g1 : decide (py ≥ px) = false := decide_eq_false hge
              clear UP
              refine Evo2.start' (ℓ := none) (S := Chg (fun _ => False)) (E := Grow.G) (by kernel_rfl) ⟨Chg.pre _, by decide +kernel, (by intro c a d v w h; cases d <;> exact h), by decide +kernel⟩ (fun ok => ?_)
              refine Evo2.va ok 0 _ _ ?_
              first | (refine Evo2.vl ok 1 KC.out (Chg.refl (fun _ => False) _) _ _ ?_) | (refine Evo2.va ok 1 _ _ ?_)
              refine Evo2.va ok 2 _ _ ?_
              refine Evo2.va ok 3 _ _ ?_
              refine Evo2.va ok 4 _ _ ?_
              first | (refine Evo2.vl ok 5 KC.out (Chg.refl (fun _ => False) _) _ _ ?_) | (refine Evo2.va ok 5 _ _ ?_)
              (refine Evo2.cal ok 6 ?_ 24 ?_ ?_ ?_ ?_; rotate_left 2; (focus (intro w'; go_simp <;> with_reducible rfl)); (focus (intro w' g'; with_reducible exact WY2.out w' ((Chg.trans (Chg.refl (fun _ => False) _) g').toGrow (fun _ _ => id)))); simp only [Act.put, L0, L1, L2])
              refine Evo2.va ok 7 _ _ ?_
              first | (refine Evo2.vl ok 8 KC.out (Chg.refl (fun _ => False) _) _ _ ?_) | (refine Evo2.va ok 8 _ _ ?_)
              refine Evo2.va ok 9 _ _ ?_
              refine Evo2.va ok 10 _ _ ?_
              refine Evo2.va ok 11 _ _ ?_
              first | (refine Evo2.vl ok 12 KC.out (Chg.refl (fun _ => False) _) _ _ ?_) | (refine Evo2.va ok 12 _ _ ?_)
              (refine Evo2.cal ok 13 ?_ 24 ?_ ?_ ?_ ?_; rotate_left 2; (focus (intro w'; go_simp <;> with_reducible rfl)); (focus (intro w' g'; with_reducible exact WX2.out w' ((Chg.trans (Chg.refl (fun _ => False) _) g').toGrow (fun _ _ => id)))); simp only [Act.put, L0, L1, L2])
              refine Evo2.va ok 14 _ _ ?_
              refine Evo2.va ok 15 _ _ ?_
              first | (refine Evo2.va ok 16 _ _ ?_) | (refine Evo2.vi ok 16 _ ?_)
              first | (refine Evo2.va ok 17 _ _ ?_) | (refine Evo2.vi ok 17 _ ?_)
              first | (refine Evo2.va ok 18 _ _ ?_) | (refine Evo2.vi ok 18 _ ?_)
              refine Evo2.va ok 19 _ _ ?_
              refine Evo2.done (by decide +kernel) (fun wz gz => ?_)
              have AZ := Chg.trans (Chg.refl (fun _ => False) _) (Chg.grow gz)
              dsimp only [PostN] 
              (repeat apply Exists.intro) 
              exact ⟨rfl, AZ.toGrow (fun _ _ => id)⟩
          ·
            rintro A wv ⟨x86, x87, x88, x89, x90, x91, x92, x93, x94, x95, x96, x97, x98, x99, x100, x101, x102, x103, x104, rfl, hg2⟩
            have H := Lib.hid (H.out.grow FS2.out hg2)
            clear KC WX2 WY2 hg2 UP
            go_wp2_with fail
            go_roundw
            case rel => exact ⟨j + 1, by omega, by go_num, H⟩
            case measure => simp [_root_.Go.RowKit.intOf]; omega
        · obtain rfl : j = 6 := by omega
          have d0 : decide (((6 : Nat) : Int) < 6) = false := by decide
          have hr2 := hold_rows2 H.out
          have hry := (RB.out _ _ _ (H.out.map fun F h => Sep.assoc' (Sep.assoc' h))).2
          have HRN := Lib.hid (RTO.out n')
          have SMy := Lib.hid (fun (w' : World) (q : Grow.G _ w') (e : R n' = y) => (show Calls Try.prog 16 #[.agg #[.slice sa (R n').length sk, .slice sb 0 sd], .agg #[.slice ya y.length yc, .slice yb 0 yd]] w' fun e w'' => e = .returned (.bool true) ∧ Grow.G w' w'' from by
            have h1 := SlOf.later hr2.1 q
            have h2 := SlOf.later hr2.2 q
            rw [e] at h1 ⊢
            exact same_true (tg := []) w' ⟨h1, h2⟩ ⟨SlOf.later hry.1 q, SlOf.later hry.2 q⟩ (by omega) (by decide)))
          clear hr2 hry
          have z1a := H.out.mem.cell (i := 1) (o := 0) rfl rfl
          have z1b := H.out.mem.cell (i := 1) (o := 1) rfl rfl
          have z1l := H.out.mem.lt (i := 1) rfl
          have z4a := H.out.mem.cell (i := 4) (o := 0) rfl rfl
          have z4b := H.out.mem.cell (i := 4) (o := 1) rfl rfl
          have z4l := H.out.mem.lt (i := 4) rfl
          have hcase : n' < W ∨ W ≤ n' := by omega
          rcases hcase with hw' | hw'
          case' inl =>
            have g0 : decide (W ≤ n') = false := decide_eq_false (by omega)
            have g1 : decide (n' ≥ W) = false := decide_eq_false (by omega)
            clear SMy hw'
          case' inr =>
            have g0 : decide (W ≤ n') = true := decide_eq_true (by omega)
            have g1 : decide (n' ≥ W) = true := decide_eq_true (by omega)
            have SM := Lib.hid (SMy.out _ (Grow.G.refl _) (HRN.out hw'))
            clear SMy hw'
            go_wp2_with fail
            refine SM.out.mono ?_
            rintro e w12 ⟨rfl, hg⟩
            replace H := Lib.hid (H.out.grow FS2.out hg)
            clear SM hg z1a z1b z1l z4a z4b z4l
            have z1a := H.out.mem.cell (i := 1) (o := 0) rfl rfl
            have z1b := H.out.mem.cell (i := 1) (o := 1) rfl rfl
            have z1l := H.out.mem.lt (i := 1) rfl
            have z4a := H.out.mem.cell (i := 4) (o := 0) rfl rfl
            have z4b := H.out.mem.cell (i := 4) (o := 1) rfl rfl
            have z4l := H.out.mem.lt (i := 4) rfl

          all_goals
            go_wp2_with ((with_reducible refine Mem.isList ?_; refine Hold.storeAll 2 (t := 40) FS2.out rfl rfl rfl rfl (n := 2) (by kernel_rfl) H.out rfl rfl rfl rfl ?_; intro W13 HMm CW13))
            simp only [K0, K1, L1, L2, K2, K3, K4, K5, K6, K7, Nat.reduceAdd, Nat.reduceSub] at HMm
            replace H := Lib.hid HMm
            clear HMm
            refine Stay.go ?_
            clear CW13 z1a z1b z1l z4a z4b z4l
            have H := Lib.hid ((H.out.take 4).weak fun F h => h.weakR fun F h => h.weakR fun F h => h.dropL)
            go_wp2_with fail
            go_roundw
            case rel => exact ⟨k + 1, l3, n', sa, sk, sb, sd, by omega, by omega, by omega, rfl, by go_num, HJ, H⟩
            case measure => simp [_root_.Go.RowKit.intOf]; omega
    · have h3 : ¬ k < zs2.length ∨ (k < zs2.length ∧ ¬ k < 30) := by omega
      obtain ⟨z, hz, z1, z2, z3, z4⟩ := HI.out.2
      obtain ⟨y1, _⟩ := RST.out z z1 z2 z3 z4 (now + W)
      have s9 : (stepW (findW l fr13) fr13 y [] (now + W) W).sh = y := by rw [hz, y1]; exact RTO.out _ (by omega)
      obtain ⟨l9, e9⟩ : ∃ l', turnW l fr13 y [] (now + W) W = l' := ⟨_, rfl⟩
      have HT := Lib.hid (And.intro e9 s9)
      have HI1 := Lib.hid HI.out.1
      have ewn : IntKind.i64.wrap (now + W) = now + W := IntWalk.i64_in _ ⟨by omega, by omega⟩
      clear h12 z1 z2 z3 z4 y1 hz s9 e9 HI
      rename World => wr
      obtain ⟨F, hF⟩ := H.out.named
      have HF := Lib.hid hF
      have FS1 := Lib.hid ((FP.out g l now (2 + k)).sep ((FT.out (R now) [] (.slice la (R now).length lc) (.slice lt 0 ld)).sep FB.out))
      have FS3 := Lib.hid (fun ua uk ub ud => (FP.out g l9 (now + W) (2 + k + 1)).sep ((FT.out y [] (.slice ua y.length uk) (.slice ub 0 ud)).sep ((FT.out (R now) [] (.slice la (R now).length lc) (.slice lt 0 ld)).sep FB.out)))
      have KC := Lib.hid (fun (w' : World) (h : Chg (fun j => F j ∨ wr.heap.size ≤ j) wr w') => (⟨keepc HF.out h (i := 1) (o := 0) rfl rfl, keepc HF.out h (i := 1) (o := 1) rfl rfl, trivial⟩ : w'.cell? ⟨w4.heap.size + 1, 0, none⟩ = some (.slice ya y.length yc) ∧ w'.cell? ⟨w4.heap.size + 1, 1, none⟩ = some (.slice yb 0 yd) ∧ True))
      have S1 := Lib.hid (fun (w' : World) L F (h : HoldF w w' L (Sep (PlP g l now (2 + k)) (Sep (TabS (R now) [] la lc lt ld) B)) F) => at_turnF h ((FT.out _ _ _ _).sep FB.out) fr13 (by decide) ya y yc yb [] yd (now + W) W (by omega) HI1.out MY.out (RB.out _ _ _ (h.hold.map fun F h => Sep.assoc' h)).2 (by omega) (by omega) (by omega) HT.out.1 HT.out.2)
      have S2 := Lib.hid (fun (w' : World) L ua uk ub ud (h : Hold w w' L (Sep (PlP g l9 (now + W) (2 + k + 1)) (Sep (TabS y [] ua uk ub ud) (Sep (TabS (R now) [] la lc lt ld) B)))) => same_true w' (c := uk) (d := ud) (c2 := yc) (d2 := yd) (hold_rows2 h) (RB.out _ _ _ (h.map fun F h => Sep.assoc' (Sep.assoc' h))).2 (by omega) (by decide))
      clear hF H
      rcases h3 with q1 | ⟨q1, q2⟩
      case' inl => have d1' : decide ((k : Int) < (zs2.length : Int)) = false := decide_eq_false (by omega)
      case' inr =>
        have d1' : decide ((k : Int) < (zs2.length : Int)) = true := decide_eq_true (by omega)
        have d2' : decide ((k : Int) < 30) = false := decide_eq_false (by omega)
      all_goals
        go_wp2_with fail
        refine Evo2.start' (ℓ := none) (S := Chg (fun j => F j ∨ wr.heap.size ≤ j)) (E := Grow.G) (by kernel_rfl) ⟨Chg.pre _, by decide +kernel, (by intro c a d v w h; cases d <;> exact h), by decide +kernel⟩ (fun ok => ?_)
        refine Evo2.va ok 0 _ _ ?_
        first | (refine Evo2.vl ok 1 KC.out (Chg.refl (fun j => F j ∨ wr.heap.size ≤ j) _) _ _ ?_) | (refine Evo2.va ok 1 _ _ ?_)
        refine Evo2.va ok 2 _ _ ?_
        refine Evo2.va ok 3 _ _ ?_
        refine Evo2.va ok 4 _ _ ?_
        refine Evo2.va ok 5 _ _ ?_
        first | (refine Evo2.vl ok 7 KC.out (Chg.refl (fun j => F j ∨ wr.heap.size ≤ j) _) _ _ ?_) | (refine Evo2.va ok 7 _ _ ?_)
        refine Evo2.all [6] (by decide +kernel) rfl ?_
        intro wp1 gp1 iq hq
        simp only [List.mem_cons, List.mem_nil_iff, or_false] at hq
        have AP1 := Chg.trans (Chg.refl (fun j => F j ∨ wr.heap.size ≤ j) _) (Chg.grow gp1)
        (try replace HF1 := Lib.hid (HF1.out.grow (FS3.out _ _ _ _) gp1))
        subst hq
        refine Evo2.enters 17 _ (by rfl) (by rfl) (by go_simp; exact ⟨rfl, rfl⟩) ?_
        refine (S1.out wp1 _ F (HF.out.grow FS1.out gp1)).mono ?_
        rintro e wc1 ⟨ua, uk, ub, ud, rfl, F1, HF1, c1, -⟩; have CH1 : Chg (fun j => F j ∨ wr.heap.size ≤ j) _ _ := c1.mono (fun j _ h => .inl h); have HF1 := Lib.hid HF1
        refine ⟨_, rfl, .inr CH1, ?_⟩
        have AC1 := Chg.trans AP1 CH1
        simp only [Act.put, L0, L1, L2]
        refine Evo2.all [8] (by decide +kernel) rfl ?_
        intro wp2 gp2 iq hq
        simp only [List.mem_cons, List.mem_nil_iff, or_false] at hq
        have AP2 := Chg.trans AC1 (Chg.grow gp2)
        (try replace HF1 := Lib.hid (HF1.out.grow (FS3.out _ _ _ _) gp2))
        subst hq
        refine Evo2.enters 16 _ (by rfl) (by rfl) (by go_simp; exact ⟨rfl, rfl⟩) ?_
        refine (S2.out wp2 _ ua uk ub ud HF1.out.hold).mono ?_
        rintro e wc2 ⟨rfl, hg⟩; have CH2 : Chg (fun j => F j ∨ wr.heap.size ≤ j) _ _ := Chg.grow hg; replace HF1 := Lib.hid (HF1.out.grow (FS3.out _ _ _ _) hg)
        refine ⟨_, rfl, .inr CH2, ?_⟩
        have AC2 := Chg.trans AP2 CH2
        simp only [Act.put, L0, L1, L2]
        refine Evo2.va ok 9 _ _ ?_
        refine Evo2.done (by decide +kernel) (fun wz gz => ?_)
        have AZ := Chg.trans AC2 (Chg.grow gz)
        (try replace HF1 := Lib.hid (HF1.out.grow (FS3.out _ _ _ _) gz))
        have HB := Lib.hid HF1.out.hold.below
        clear HF HF1 KC S1 S2
        go_wp2_with fail
        go_ret
        exact ⟨rfl, HB.out⟩
end Go.Proofs.Ytjhfjjkfnmnkgaa

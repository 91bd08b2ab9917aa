/- My own texts LpT, laid in one file. -/
import Derived.Test.YtjhfjjkfnmnkgaaZ98I
import Derived.Test.YtjhfjjkfnmnkgaaZ98H
import Derived.Test.YtjhfjjkfnmnkgaaZ98C
import Derived.Test.YtjhfjjkfnmnkgaaZ98D
import Derived.Test.YtjhfjjkfnmnkgaaZ38

/- The program's roller: Turn (written by tools/gen_plturn.py). -/
namespace Go.Proofs.Ytjhfjjkfnmnkgaa
set_option maxRecDepth 100000
set_option linter.unusedVariables false
set_option linter.unusedSimpArgs false
set_option linter.unnecessarySimpa false
open Go.RowKit Go.Args Go.MapV Go.Maps

/-- What a turn is given. -/
structure PTurn (w : World) (a : Option Addr) (sh : List Shr) (b : Option Addr) (tg : List Tgo) : Prop where
  x : ShSl w a sh
  y : TgSl w b tg
  sd : Sd sh
  tl : tg.length ≤ 1000
  zt : ∀ t, t ∈ tg → SzT t
  hr : rightB sh tg = true
theorem sd_szS {l : List Shr} (h : Sd l) : ∀ s, s ∈ l → SzS s := h.size
theorem sd_okS {l : List Shr} (h : Sd l) : ∀ s, s ∈ l → s.ok := fun s hs => by
  have h1 := h.ok s hs
  have h2 := h.size s hs
  exact ⟨⟨by omega, by omega⟩, by omega⟩
theorem szT_ok {l : List Tgo} (h : ∀ t, t ∈ l → SzT t) : ∀ t, t ∈ l → t.ok := fun t ht => by
  have h1 := h t ht
  exact ⟨by have := h1.1; omega, by have := h1.2; omega⟩
theorem turn_new (xa : Option Addr) (sh : List Shr) (xc : Nat) (yb : Option Addr) (yn yd : Nat) (now wh : Int) (w : World) (hn : 0 ≤ now ∧ now ≤ 1000000) (hw : 0 ≤ wh ∧ wh ≤ 1000000) (hx : ShSl w xa sh) (hsd : Sd sh) :
    Calls Try.prog 31 #[.agg #[.slice none 0 0, .slice none 0 0, .int .i64 0, .int .i64 0, .slice xa sh.length xc, .slice yb yn yd], .agg #[.slice xa sh.length xc, .slice yb yn yd], .int .i64 now, .int .i64 wh] w fun e w' => ∃ u, e = .returned (.agg #[.slice xa sh.length xc, .slice xa sh.length xc, .int .i64 now, .int .i64 wh, u, .slice yb yn yd]) ∧ w'.ownsRow w.heap.size shareT13 2 u (rollL sh sh 0 wh).length ((rollL sh sh 0 wh).flatMap Shr.cells) ∧ Grow.G w w' := by
  by_cases e : wh = 0
  · subst e
    exact turn_go_sh none 0 0 none [] 0 0 xa sh xc yb yn yd xa sh xc yb yn yd now 0 w hx hsd (.inl rfl) (fun e => by have := hsd.pos; rw [← e] at this; exact absurd this (by decide)) hn hw hx hsd
  · exact turn_go_wh none 0 0 none [] 0 0 0 xa sh xc yb yn yd xa sh xc yb yn yd now wh w hx hsd (fun q => e q.symm) hn hw hx hsd
theorem turn_go (fa : Option Addr) (fn fc : Nat) (ta : Option Addr) (to : List Shr) (tc : Nat) (si wh0 : Int) (sa : Option Addr) (so : List Shr) (sc : Nat) (ga : Option Addr) (gn gc : Nat) (xa : Option Addr) (sh : List Shr) (xc : Nat) (yb : Option Addr) (yn yd : Nat) (now wh : Int) (w : World) (hso : ShSl w sa so) (sd1 : Sd so) (ht : ShSl w ta to) (hd : ¬ (wh0 = wh ∧ to = sh)) (hn : 0 ≤ now ∧ now ≤ 1000000) (hw : 0 ≤ wh ∧ wh ≤ 1000000) (hx : ShSl w xa sh) (hsd : Sd sh) :
    Calls Try.prog 31 #[.agg #[.slice fa fn fc, .slice ta to.length tc, .int .i64 si, .int .i64 wh0, .slice sa so.length sc, .slice ga gn gc], .agg #[.slice xa sh.length xc, .slice yb yn yd], .int .i64 now, .int .i64 wh] w fun e w' => ∃ u, e = .returned (.agg #[.slice sa so.length sc, .slice xa sh.length xc, .int .i64 now, .int .i64 wh, u, .slice yb yn yd]) ∧ w'.ownsRow w.heap.size shareT13 2 u (rollL so sh 0 wh).length ((rollL so sh 0 wh).flatMap Shr.cells) ∧ Grow.G w w' := by
  by_cases e : wh0 = wh
  · subst e
    exact turn_go_sh fa fn fc ta to tc si sa so sc ga gn gc xa sh xc yb yn yd now wh0 w hso sd1 ht (fun q => hd ⟨rfl, q⟩) hn hw hx hsd
  · exact turn_go_wh fa fn fc ta to tc si wh0 sa so sc ga gn gc xa sh xc yb yn yd now wh w hso sd1 e hn hw hx hsd
set_option maxHeartbeats 16000000 in
theorem hold_plturn_new {w0 w : World} {L : List MBox} {B : Hp} {g c : Nat} {nw : Int} {l : List Wa} (h : Hold w0 w L (Sep (PlP g l nw c) B)) (hB : Foot B) (s : ByteArray) (hs : s.size ≤ 100000) (a : Option Addr) (sh : List Shr) (ca : Nat) (b : Option Addr) (tg : List Tgo) (cb : Nat) (now wh : Int)
    (hc : c ≤ 1000) (hz : ∀ x, x ∈ l → WSd x) (hin : PTurn w a sh b tg) (hn : 0 ≤ now ∧ now ≤ 1000000) (hnw : nw ≤ now) (hw : 0 ≤ wh ∧ wh ≤ 1000000) (h1 : findW l s = none) :
    Calls Try.prog 17 #[pz g, .string s, .agg #[.slice a sh.length ca, .slice b tg.length cb], .int .i64 now, .int .i64 wh] w fun e w' => ∃ va vb, e = .returned (.agg #[va, vb]) ∧ Hold w0 w' L (Sep (PlP g (turnW l s sh tg now wh) now (c + 1)) (Sep (TabF (stepW (findW l s) s sh tg now wh).sh tg va vb) B)) := by
  obtain ⟨mb, n, f, hnc, hf, HS⟩ := hold_plopen h
  have hm : f s = none := by
    have hfs := hf s
    rw [h1] at hfs
    cases q : f s with
    | none => rfl
    | some m => rw [q] at hfs; cases hfs
  have HV : Hid (((f s).map WM.val).getD zW13 = .agg #[.slice none 0 0, .slice none 0 0, .int .i64 0, .int .i64 0, .slice none 0 0, .slice none 0 0]) := Lib.hid (by rw [hm]; rfl)
  have HC : Hid (((f s).map WM.val).isSome = false) := Lib.hid (by rw [hm]; rfl)
  have hsd0 := hin.sd
  have HST : Hid (stepW (findW l s) s sh tg now wh = newW s sh sh tg now wh) := Lib.hid (by rw [h1]; rfl)
  have HRS : Hid (Sd (rollL sh sh 0 wh)) := Lib.hid (roll_sd' hin.sd hin.sd)
  have TC := Lib.hid (fun (xa : Option Addr) (xc : Nat) (ya : Option Addr) (yc : Nat) (w' : World) (hx : ShSl w' xa sh) => turn_new xa sh xc ya tg.length yc now wh w' hn hw hx hsd0)
  have RT := Lib.hid (fun w' (q : Grow.G w w') => right_any a sh ca b tg cb w' (by have := hsd0.len; omega) (by have := hin.tl; omega) (SlOf.later hin.x q) (SlOf.later hin.y q) (sd_okS hsd0) (szT_ok hin.zt))
  rw [hin.hr] at RT
  have OT := Lib.hid (fun w' (q : Grow.G w w') => ownTable_any a sh ca b tg cb w' (SlOf.later hin.x q) (SlOf.later hin.y q) (by have := hsd0.len; omega) hin.tl (sd_szS hsd0) hin.zt)
  have OU := Lib.hid (fun (xa : Option Addr) (xc : Nat) (ya : Option Addr) (yc : Nat) (w' : World) (q1 : ShSl w' xa (rollL sh sh 0 wh)) (q2 : TgSl w' ya tg) => ownTable_any xa (rollL sh sh 0 wh) xc ya tg yc w' q1 q2 (by have := HRS.out.len; omega) hin.tl (sd_szS HRS.out) hin.zt)
  have HF := Lib.hid hf
  have hsm : s.size ≤ maxLen := by unfold maxLen; omega
  have hn9 : n ≤ 100000 := by omega
  have HNC := Lib.hid hnc
  skip
  have FB := Lib.hid hB
  have FP := Lib.hid (fun mb nw n f => PlS.foot g mb nw n f)
  have FT : Hid (∀ t cs T, Foot (BlkF t cs T)) := Lib.hid (fun t cs T => BlkF.foot _ _ _)
  have FX : Hid (∀ sh tg va vb, Foot (TabF sh tg va vb)) := Lib.hid (fun sh tg va vb => TabF.foot _ _ _ _)
  have FU : Hid (∀ v n xs, Foot (RowF 0 shareT13 2 v n xs)) := Lib.hid (fun v n xs => RowF.foot _ _ _ _ _ _)
  have CT : (Try.prog.info? tablT13).map (·.size) = some 2 := by kernel_rfl
  have CWY : (Try.prog.info? 71).map (·.size) = some 6 := by kernel_rfl
  have d1 : decide (now < nw) = false := decide_eq_false (by omega)
  have d2 : decide (1000000 < now) = false := decide_eq_false (by omega)
  have d3 : decide (wh < 0) = false := decide_eq_false (by omega)
  have d4 : decide (1000000 < wh) = false := decide_eq_false (by omega)
  have nd1 : ¬ now < nw := by omega
  have nd2 : ¬ 1000000 < now := by omega
  have nd3 : ¬ wh < 0 := by omega
  have nd4 : ¬ 1000000 < wh := by omega
  have y1 := Blk.at (HS.see (p := Blk w g ([.map mb, .int .i64 nw] : List Value).toArray lrT13) fun F ⟨_, _, hp, _⟩ => hp.hb) (k := 1) rfl
  have hgl := (HS.see (p := Blk w g ([.map mb, .int .i64 nw] : List Value).toArray lrT13) fun F ⟨_, _, hp, _⟩ => hp.hb).lt
  have H1 := Lib.hid HS
  clear h HS hf hm hin h1 hz hnc
  go_enter Try.func17, Try.ntmps17
  go_wp2_with fail
  have HA := hold_new1 H1.out (FP.out _ _ _ _) FB.out [.slice a sh.length ca, .slice b tg.length cb] tablT13 rfl
  have HB := hold_new1 (r := w.heap.size + 1) HA.rot (FT.out _ _ _) ((FP.out _ _ _ _).sep FB.out) [.slice none 0 0, .slice none 0 0] tablT13 (by simp)
  have G2 := Grow.G.alloc (Grow.G.alloc (Grow.G.refl w) (.cells #[.slice a sh.length ca, .slice b tg.length cb] tablT13)) (.cells #[.slice none 0 0, .slice none 0 0] tablT13)
  have y2 := cell_later G2 y1
  refine (RT.out _ G2).mono ?_
  rintro e w1 ⟨rfl, hg⟩
  have y3 := cell_later hg y2
  have G3 := Lib.hid (Grow.G.trans G2 hg)
  have HC1 := Lib.hid (HB.grow ((FT.out _ _ _).sep ((FT.out _ _ _).sep ((FP.out _ _ _ _).sep FB.out))) hg)
  have c0 := Blk.at (hold_b1 HC1.out) (k := 0) rfl
  have c1 := Blk.at (hold_b1 HC1.out) (k := 1) rfl
  have hl1 := (hold_b1 HC1.out).lt
  clear hg HA HB H1 y1 y2 RT G2
  go_wp2_with fail
  refine (OT.out _ G3.out).mono ?_
  rintro e w2 ⟨va, vb, rfl, hc⟩
  have HD := Lib.hid (hold_tab HC1.out (FT.out _ _ _) ((FT.out _ _ _).sep ((FP.out _ _ _ _).sep FB.out)) hc)
  obtain ⟨xa, xc, rfl⟩ := own_shape hc.1
  obtain ⟨ya, yc, rfl⟩ := own_shape hc.2.1
  clear hc OT HC1 c0 c1 y3 G3 hl1
  have FZ := Lib.hid ((FX.out sh tg (.slice xa sh.length xc) (.slice ya tg.length yc)).sep ((FT.out (w.heap.size + 1) [.slice none 0 0, .slice none 0 0] tablT13).sep ((FP.out mb nw n f).sep FB.out)))
  go_wp2_with (refine Hold.setB (off := 0) (vs := [.slice xa sh.length xc, .slice ya tg.length yc]) FZ.out rfl rfl rfl rfl rfl (n := 2) CT HD.out rfl (by simp) rfl ?_; intro w3 H2)
  refine Stay.go ?_
  have H2 : Hold w0 w3 L (Sep (BlkF w.heap.size [.slice xa sh.length xc, .slice ya tg.length yc] tablT13) _) := H2
  have H3 := Lib.hid H2
  clear H2 HD
  have y0 := Blk.at (H3.out.see (p := Blk w3 g ([.map mb, .int .i64 nw] : List Value).toArray lrT13) fun F ⟨_, _, _, ⟨_, _, _, ⟨_, _, _, ⟨_, _, hp, _⟩, _⟩, _⟩, _⟩ => hp.hb) (k := 0) rfl
  have hgl3 := (H3.out.see (p := Blk w3 g ([.map mb, .int .i64 nw] : List Value).toArray lrT13) fun F ⟨_, _, _, ⟨_, _, _, ⟨_, _, _, ⟨_, _, hp, _⟩, _⟩, _⟩, _⟩ => hp.hb).lt
  have HMn : Hid (MapN Try.prog 9 w3 mb n (fW f)) := Lib.hid (H3.out.see fun F ⟨_, _, _, ⟨_, _, _, ⟨_, _, _, ⟨_, _, hp, _⟩, _⟩, _⟩, _⟩ => hp.hm)
  have c0 := Blk.at (hold_b1 H3.out) (k := 0) rfl
  have c1 := Blk.at (hold_b1 H3.out) (k := 1) rfl
  have hl3 := (hold_b1 H3.out).lt
  have H4 := hold_new1 H3.out (FT.out _ _ _) FZ.out [.slice none 0 0, .slice none 0 0, .int .i64 0, .int .i64 0, .slice xa sh.length xc, .slice ya tg.length yc] 71 rfl
  go_wp2_with (at_lookup; refine look2v (.agg #[.slice none 0 0, .slice none 0 0, .int .i64 0, .int .i64 0, .slice none 0 0, .slice none 0 0]) false rfl rfl keyed13 Try.underlying62 zeroW13 rfl HMn.out rfl (keyS Try.underlying9 hsm) HV.out HC.out ?_)
  obtain ⟨w4, hw4⟩ : ∃ w4, w4 = (w3.alloc (.cells #[.slice none 0 0, .slice none 0 0, .int .i64 0, .int .i64 0, .slice xa sh.length xc, .slice ya tg.length yc] 71)) := ⟨_, rfl⟩
  have H6 : Hid (Hold w0 w4 L (Sep (BlkF w3.heap.size [.slice none 0 0, .slice none 0 0, .int .i64 0, .int .i64 0, .slice xa sh.length xc, .slice ya tg.length yc] 71) _)) := Lib.hid (by rw [hw4]; exact H4.rot)
  go_wp2_with fail
  rw [← hw4]
  clear H3 H4 HMn y0 hw4 c0 c1 hl3 hgl3
  have p0 := Blk.at (hold_b1 H6.out) (k := 0) rfl
  have p1 := Blk.at (hold_b1 H6.out) (k := 1) rfl
  have p2 := Blk.at (hold_b1 H6.out) (k := 2) rfl
  have p3 := Blk.at (hold_b1 H6.out) (k := 3) rfl
  have p4 := Blk.at (hold_b1 H6.out) (k := 4) rfl
  have p5 := Blk.at (hold_b1 H6.out) (k := 5) rfl
  have hpl := (hold_b1 H6.out).lt
  have c0 := Blk.at (hold_b1 H6.out.rot) (k := 0) rfl
  have c1 := Blk.at (hold_b1 H6.out.rot) (k := 1) rfl
  have hcl := (hold_b1 H6.out.rot).lt
  have HX : Hid (ShR w4 (.slice xa sh.length xc) sh ∧ TgR w4 (.slice ya tg.length yc) tg) := Lib.hid (H6.out.see fun F ⟨_, _, _, ⟨_, _, _, ⟨_, _, ⟨_, _, rx, ry, _⟩, _⟩, _⟩, _⟩ => ⟨rx.1, ry.1⟩)
  have TD := Lib.hid (TC.out xa xc ya yc w4 (ShR.sl HX.out.1))
  clear TC
  go_wp2_with fail
  refine TD.out.mono ?_
  rintro e w5 ⟨u, rfl, ho, hg5⟩
  have FW := Lib.hid ((FT.out w.heap.size [.slice xa sh.length xc, .slice ya tg.length yc] tablT13).sep FZ.out)
  have H7 := Lib.hid (hold_row1 H6.out (FT.out _ _ _) FW.out hg5 ho (Nat.le_refl _))
  obtain ⟨ua, uc, rfl⟩ := own_shape ho
  have FY := Lib.hid ((FU.out (.slice ua (rollL sh sh 0 wh).length uc) (rollL sh sh 0 wh).length ((rollL sh sh 0 wh).flatMap Shr.cells)).sep FW.out)
  clear H6 ho hg5 TD p0 p1 p2 p3 p4 p5 hpl c0 c1 hcl HX
  go_wp2_with (refine Hold.setB (off := 0) (vs := [.slice xa sh.length xc, .slice xa sh.length xc, .int .i64 now, .int .i64 wh, .slice ua (rollL sh sh 0 wh).length uc, .slice ya tg.length yc]) FY.out rfl rfl rfl rfl rfl (n := 6) CWY H7.out rfl (by simp) rfl ?_; intro w6 H8)
  refine Stay.go ?_
  have H8 : Hold w0 w6 L (Sep (BlkF w3.heap.size [.slice xa sh.length xc, .slice xa sh.length xc, .int .i64 now, .int .i64 wh, .slice ua (rollL sh sh 0 wh).length uc, .slice ya tg.length yc] 71) _) := H8
  have p0 := Blk.at (hold_b1 H8) (k := 0) rfl
  have p1 := Blk.at (hold_b1 H8) (k := 1) rfl
  have p2 := Blk.at (hold_b1 H8) (k := 2) rfl
  have p3 := Blk.at (hold_b1 H8) (k := 3) rfl
  have p4 := Blk.at (hold_b1 H8) (k := 4) rfl
  have p5 := Blk.at (hold_b1 H8) (k := 5) rfl
  have hpl := (hold_b1 H8).lt
  have HRW : RowsW w6 ⟨newW s sh sh tg now wh, 0, .slice xa sh.length xc, .slice xa sh.length xc, .slice ua (rollL sh sh 0 wh).length uc, .slice ya tg.length yc⟩ := H8.see fun F ⟨_, _, _, ⟨_, _, ru, ⟨_, _, _, ⟨_, _, ⟨_, _, rx, ry, _⟩, ⟨_, _, _, ⟨_, _, hp, _⟩, _⟩, _⟩, _⟩, _⟩, _⟩ => ⟨rx.1, rx.1, ru.1, ry.1⟩
  have H9 := H8.map fun F h => (Sep.pull5 h).under fun F h => Sep.assoc' (((Sep.pull3 h).under fun F h => Sep.rot h).rot)
  have FN := ((FT.out w3.heap.size [.slice xa sh.length xc, .slice xa sh.length xc, .int .i64 now, .int .i64 wh, .slice ua (rollL sh sh 0 wh).length uc, .slice ya tg.length yc] 71).sep ((FT.out w.heap.size [.slice xa sh.length xc, .slice ya tg.length yc] tablT13).sep ((FT.out (w.heap.size + 1) [.slice none 0 0, .slice none 0 0] tablT13).sep FB.out)))
  have KP := Lib.hid (hold_plkeep (m := ⟨newW s sh sh tg now wh, 0, .slice xa sh.length xc, .slice xa sh.length xc, .slice ua (rollL sh sh 0 wh).length uc, .slice ya tg.length yc⟩) (now := now) s hs H9 FN HRW (fun F2 hN k hk => by
    obtain ⟨Fa, Fb, ⟨_, ea⟩, ⟨Fc, Fd, ⟨_, ec⟩, ⟨_, ed⟩, _, e2⟩, _, e1⟩ := hN
    rcases hk with q | q | q | q
    · exact .inr ((e1 k).2 (.inr ((e2 k).2 (.inl ((ec k).2 q)))))
    · exact .inr ((e1 k).2 (.inr ((e2 k).2 (.inl ((ec k).2 q)))))
    · exact .inr ((e1 k).2 (.inl ((ea k).2 q)))
    · exact .inr ((e1 k).2 (.inr ((e2 k).2 (.inr ((ed k).2 q)))))) hn9)
  skip
  clear H7 H8 H9 FN HRW FY FW FZ
  go_wp2_with fail
  refine KP.out.mono ?_
  rintro e w7 ⟨rfl, bk, h10⟩
  have H10 := Lib.hid h10
  clear h10 KP p0 p1 p2 p3 p4 p5 hpl
  have q4 := Blk.at (hold_b1 H10.out.rot) (k := 4) rfl
  have q5 := Blk.at (hold_b1 H10.out.rot) (k := 5) rfl
  have hql := (hold_b1 H10.out.rot).lt
  have hr7 : RowsW w7 ⟨newW s sh sh tg now wh, 0, .slice xa sh.length xc, .slice xa sh.length xc, .slice ua (rollL sh sh 0 wh).length uc, .slice ya tg.length yc⟩ := H10.out.see fun F ⟨_, _, hp, _⟩ => hp.hr (s := s) (by unfold updW; rw [if_pos rfl])
  have hru : ShR w7 (.slice ua (rollL sh sh 0 wh).length uc) (rollL sh sh 0 wh) := hr7.2.2.1
  have OV := Lib.hid (OU.out ua uc ya yc w7 (ShR.sl hru) (SlOf.own (fun _ => rfl) hr7.2.2.2))
  clear OU hr7 hru
  go_wp2_with fail
  refine OV.out.mono ?_
  rintro e w8 ⟨va, vb, rfl, hc⟩
  have FN : Foot (Sep (BlkF w3.heap.size [.slice xa sh.length xc, .slice xa sh.length xc, .int .i64 now, .int .i64 wh, .slice ua (rollL sh sh 0 wh).length uc, .slice ya tg.length yc] 71) (Sep (BlkF w.heap.size [.slice xa sh.length xc, .slice ya tg.length yc] tablT13) (Sep (BlkF (w.heap.size + 1) [.slice none 0 0, .slice none 0 0] tablT13) B))) := ((FT.out w3.heap.size [.slice xa sh.length xc, .slice xa sh.length xc, .int .i64 now, .int .i64 wh, .slice ua (rollL sh sh 0 wh).length uc, .slice ya tg.length yc] 71).sep ((FT.out w.heap.size [.slice xa sh.length xc, .slice ya tg.length yc] tablT13).sep ((FT.out (w.heap.size + 1) [.slice none 0 0, .slice none 0 0] tablT13).sep FB.out)))
  have H11 := hold_tab H10.out (FP.out _ _ _ _) FN hc
  obtain ⟨ra, rc, rfl⟩ := own_shape hc.1
  obtain ⟨za, zc, rfl⟩ := own_shape hc.2.1
  have H12 := Lib.hid (H11.map fun F h => Sep.pull4 h)
  have FO := Lib.hid ((FP.out (some bk) now (n + 1) (updW f s ⟨newW s sh sh tg now wh, 0, .slice xa sh.length xc, .slice xa sh.length xc, .slice ua (rollL sh sh 0 wh).length uc, .slice ya tg.length yc⟩)).sep ((FX.out (rollL sh sh 0 wh) tg (.slice ra (rollL sh sh 0 wh).length rc) (.slice za tg.length zc)).sep ((FT.out w3.heap.size [.slice xa sh.length xc, .slice xa sh.length xc, .int .i64 now, .int .i64 wh, .slice ua (rollL sh sh 0 wh).length uc, .slice ya tg.length yc] 71).sep ((FT.out w.heap.size [.slice xa sh.length xc, .slice ya tg.length yc] tablT13).sep FB.out))))
  clear hc FN H11 H10 OV q4 q5 hql
  go_wp2_with (refine Hold.setB (off := 0) (vs := [.slice ra (rollL sh sh 0 wh).length rc, .slice za tg.length zc]) FO.out rfl rfl rfl rfl rfl (n := 2) CT H12.out rfl (by simp) rfl ?_; intro w9 H13)
  refine Stay.go ?_
  have H14 := Lib.hid H13
  have BF : Blk w9 (w.heap.size + 1) #[.slice ra (rollL sh sh 0 wh).length rc, .slice za tg.length zc] tablT13 := hold_b1 H13
  clear H13 H12 FO
  go_wp2_with fail
  refine bodyPost_ret (v := .agg #[.slice ra (rollL sh sh 0 wh).length rc, .slice za tg.length zc]) (by simp [results, Try.results17, go_sem, BF.cell]) rfl ?_
  refine ⟨_, _, rfl, ?_⟩
  have H15 := H14.out.weak fun F h => by
    obtain ⟨F1, h1, s1⟩ := h.dropL
    obtain ⟨F2, h2, s2⟩ := h1.weakR fun F h => h.weakR fun F h => h.dropL2
    exact ⟨F2, h2, fun k hk => s1 k (s2 k hk)⟩
  rw [HST.out]
  skip
  refine hold_plclose H15 (Nat.add_le_add_right HNC.out 1) fun x => ?_
  rw [turnW_find, HST.out]
  unfold updW
  by_cases e : x = s
  · rw [if_pos e, if_pos e]; rfl
  · rw [if_neg e, if_neg e]; exact HF.out x
set_option maxHeartbeats 16000000 in
theorem hold_plturn_go {w0 w : World} {L : List MBox} {B : Hp} {g c : Nat} {nw : Int} {l : List Wa} {x : Wa} (h : Hold w0 w L (Sep (PlP g l nw c) B)) (hB : Foot B) (s : ByteArray) (hs : s.size ≤ 100000) (a : Option Addr) (sh : List Shr) (ca : Nat) (b : Option Addr) (tg : List Tgo) (cb : Nat) (now wh : Int)
    (hc : c ≤ 1000) (hz : ∀ x, x ∈ l → WSd x) (hin : PTurn w a sh b tg) (hn : 0 ≤ now ∧ now ≤ 1000000) (hnw : nw ≤ now) (hw : 0 ≤ wh ∧ wh ≤ 1000000) (h1 : findW l s = some x) (hk : keepsW x sh wh = false) :
    Calls Try.prog 17 #[pz g, .string s, .agg #[.slice a sh.length ca, .slice b tg.length cb], .int .i64 now, .int .i64 wh] w fun e w' => ∃ va vb, e = .returned (.agg #[va, vb]) ∧ Hold w0 w' L (Sep (PlP g (turnW l s sh tg now wh) now (c + 1)) (Sep (TabF (stepW (findW l s) s sh tg now wh).sh tg va vb) B)) := by
  obtain ⟨mb, n, f, hnc, hf, HS⟩ := hold_plopen h
  have hfs := hf s
  rw [h1] at hfs
  obtain ⟨m, hm, rfl⟩ : ∃ m, f s = some m ∧ m.x = x := by cases q : f s with
    | none => rw [q] at hfs; cases hfs
    | some m => rw [q] at hfs; exact ⟨m, rfl, Option.some.inj hfs⟩
  have hsd := hz m.x (findW_mem h1).1
  have hxn : m.x.nm = s := (findW_mem h1).2
  have hrw := HS.see (p := RowsW w m) fun F ⟨_, _, hp, _⟩ => hp.hr hm
  obtain ⟨mx, mp, mf, mt, ms, mg⟩ := m
  dsimp only at *
  have r1 : ShR w mf mx.fr := hrw.1
  have r2 : ShR w mt mx.to := hrw.2.1
  have r3 : ShR w ms mx.sh := hrw.2.2.1
  have r4 : TgR w mg mx.tg := hrw.2.2.2
  obtain ⟨fa, fc, rfl⟩ := own_shape r1
  obtain ⟨ta, tc, rfl⟩ := own_shape r2
  obtain ⟨sa, sc, rfl⟩ := own_shape r3
  obtain ⟨ga, gc, rfl⟩ := own_shape r4
  have HFS := Lib.hid hm
  have HV : Hid (((f s).map WM.val).getD zW13 = .agg #[.slice fa mx.fr.length fc, .slice ta mx.to.length tc, .int .i64 mx.si, .int .i64 mx.wh, .slice sa mx.sh.length sc, .slice ga mx.tg.length gc]) := Lib.hid (by rw [hm]; rfl)
  have HC : Hid (((f s).map WM.val).isSome = true) := Lib.hid (by rw [hm]; rfl)
  have hts : mx.to.length ≤ 1000 := hsd.t.small.1
  have hsd0 := hin.sd
  have HST : Hid (stepW (findW l s) s sh tg now wh = newW s mx.sh sh tg now wh) := Lib.hid (by rw [h1]; unfold stepW; dsimp only; rw [hk]; rfl)
  have HRS : Hid (Sd (rollL mx.sh sh 0 wh)) := Lib.hid (roll_sd' hsd.s hin.sd)
  have TC := Lib.hid (fun (xa : Option Addr) (xc : Nat) (ya : Option Addr) (yc : Nat) (w' : World) (hx : ShSl w' xa sh) (hso : ShSl w' sa mx.sh) (hto : ShSl w' ta mx.to) => turn_go fa mx.fr.length fc ta mx.to tc mx.si mx.wh sa mx.sh sc ga mx.tg.length gc xa sh xc ya tg.length yc now wh w' hso hsd.s hto (fun q => by rw [keepsW_iff.2 q] at hk; cases hk) hn hw hx hsd0)
  have RT := Lib.hid (fun w' (q : Grow.G w w') => right_any a sh ca b tg cb w' (by have := hsd0.len; omega) (by have := hin.tl; omega) (SlOf.later hin.x q) (SlOf.later hin.y q) (sd_okS hsd0) (szT_ok hin.zt))
  rw [hin.hr] at RT
  have OT := Lib.hid (fun w' (q : Grow.G w w') => ownTable_any a sh ca b tg cb w' (SlOf.later hin.x q) (SlOf.later hin.y q) (by have := hsd0.len; omega) hin.tl (sd_szS hsd0) hin.zt)
  have OU := Lib.hid (fun (xa : Option Addr) (xc : Nat) (ya : Option Addr) (yc : Nat) (w' : World) (q1 : ShSl w' xa (rollL mx.sh sh 0 wh)) (q2 : TgSl w' ya tg) => ownTable_any xa (rollL mx.sh sh 0 wh) xc ya tg yc w' q1 q2 (by have := HRS.out.len; omega) hin.tl (sd_szS HRS.out) hin.zt)
  have HF := Lib.hid hf
  have hsm : s.size ≤ maxLen := by unfold maxLen; omega
  have hn9 : n ≤ 100000 := by omega
  have HNC := Lib.hid hnc
  skip
  have FB := Lib.hid hB
  have FP := Lib.hid (fun mb nw n f => PlS.foot g mb nw n f)
  have FT : Hid (∀ t cs T, Foot (BlkF t cs T)) := Lib.hid (fun t cs T => BlkF.foot _ _ _)
  have FX : Hid (∀ sh tg va vb, Foot (TabF sh tg va vb)) := Lib.hid (fun sh tg va vb => TabF.foot _ _ _ _)
  have FU : Hid (∀ v n xs, Foot (RowF 0 shareT13 2 v n xs)) := Lib.hid (fun v n xs => RowF.foot _ _ _ _ _ _)
  have CT : (Try.prog.info? tablT13).map (·.size) = some 2 := by kernel_rfl
  have CWY : (Try.prog.info? 71).map (·.size) = some 6 := by kernel_rfl
  have d1 : decide (now < nw) = false := decide_eq_false (by omega)
  have d2 : decide (1000000 < now) = false := decide_eq_false (by omega)
  have d3 : decide (wh < 0) = false := decide_eq_false (by omega)
  have d4 : decide (1000000 < wh) = false := decide_eq_false (by omega)
  have nd1 : ¬ now < nw := by omega
  have nd2 : ¬ 1000000 < now := by omega
  have nd3 : ¬ wh < 0 := by omega
  have nd4 : ¬ 1000000 < wh := by omega
  have y1 := Blk.at (HS.see (p := Blk w g ([.map mb, .int .i64 nw] : List Value).toArray lrT13) fun F ⟨_, _, hp, _⟩ => hp.hb) (k := 1) rfl
  have hgl := (HS.see (p := Blk w g ([.map mb, .int .i64 nw] : List Value).toArray lrT13) fun F ⟨_, _, hp, _⟩ => hp.hb).lt
  have H1 := Lib.hid HS
  clear h HS hf hm hin h1 hz hnc hfs hrw r1 r2 r3 r4 hsd hk
  go_enter Try.func17, Try.ntmps17
  go_wp2_with fail
  have HA := hold_new1 H1.out (FP.out _ _ _ _) FB.out [.slice a sh.length ca, .slice b tg.length cb] tablT13 rfl
  have HB := hold_new1 (r := w.heap.size + 1) HA.rot (FT.out _ _ _) ((FP.out _ _ _ _).sep FB.out) [.slice none 0 0, .slice none 0 0] tablT13 (by simp)
  have G2 := Grow.G.alloc (Grow.G.alloc (Grow.G.refl w) (.cells #[.slice a sh.length ca, .slice b tg.length cb] tablT13)) (.cells #[.slice none 0 0, .slice none 0 0] tablT13)
  have y2 := cell_later G2 y1
  refine (RT.out _ G2).mono ?_
  rintro e w1 ⟨rfl, hg⟩
  have y3 := cell_later hg y2
  have G3 := Lib.hid (Grow.G.trans G2 hg)
  have HC1 := Lib.hid (HB.grow ((FT.out _ _ _).sep ((FT.out _ _ _).sep ((FP.out _ _ _ _).sep FB.out))) hg)
  have c0 := Blk.at (hold_b1 HC1.out) (k := 0) rfl
  have c1 := Blk.at (hold_b1 HC1.out) (k := 1) rfl
  have hl1 := (hold_b1 HC1.out).lt
  clear hg HA HB H1 y1 y2 RT G2
  go_wp2_with fail
  refine (OT.out _ G3.out).mono ?_
  rintro e w2 ⟨va, vb, rfl, hc⟩
  have HD := Lib.hid (hold_tab HC1.out (FT.out _ _ _) ((FT.out _ _ _).sep ((FP.out _ _ _ _).sep FB.out)) hc)
  obtain ⟨xa, xc, rfl⟩ := own_shape hc.1
  obtain ⟨ya, yc, rfl⟩ := own_shape hc.2.1
  clear hc OT HC1 c0 c1 y3 G3 hl1
  have FZ := Lib.hid ((FX.out sh tg (.slice xa sh.length xc) (.slice ya tg.length yc)).sep ((FT.out (w.heap.size + 1) [.slice none 0 0, .slice none 0 0] tablT13).sep ((FP.out mb nw n f).sep FB.out)))
  go_wp2_with (refine Hold.setB (off := 0) (vs := [.slice xa sh.length xc, .slice ya tg.length yc]) FZ.out rfl rfl rfl rfl rfl (n := 2) CT HD.out rfl (by simp) rfl ?_; intro w3 H2)
  refine Stay.go ?_
  have H2 : Hold w0 w3 L (Sep (BlkF w.heap.size [.slice xa sh.length xc, .slice ya tg.length yc] tablT13) _) := H2
  have H3 := Lib.hid H2
  clear H2 HD
  have y0 := Blk.at (H3.out.see (p := Blk w3 g ([.map mb, .int .i64 nw] : List Value).toArray lrT13) fun F ⟨_, _, _, ⟨_, _, _, ⟨_, _, _, ⟨_, _, hp, _⟩, _⟩, _⟩, _⟩ => hp.hb) (k := 0) rfl
  have hgl3 := (H3.out.see (p := Blk w3 g ([.map mb, .int .i64 nw] : List Value).toArray lrT13) fun F ⟨_, _, _, ⟨_, _, _, ⟨_, _, _, ⟨_, _, hp, _⟩, _⟩, _⟩, _⟩ => hp.hb).lt
  have HMn : Hid (MapN Try.prog 9 w3 mb n (fW f)) := Lib.hid (H3.out.see fun F ⟨_, _, _, ⟨_, _, _, ⟨_, _, _, ⟨_, _, hp, _⟩, _⟩, _⟩, _⟩ => hp.hm)
  have c0 := Blk.at (hold_b1 H3.out) (k := 0) rfl
  have c1 := Blk.at (hold_b1 H3.out) (k := 1) rfl
  have hl3 := (hold_b1 H3.out).lt
  have H4 := hold_new1 H3.out (FT.out _ _ _) FZ.out [.slice fa mx.fr.length fc, .slice ta mx.to.length tc, .int .i64 mx.si, .int .i64 mx.wh, .slice sa mx.sh.length sc, .slice ga mx.tg.length gc] 71 rfl
  go_wp2_with (at_lookup; refine look2v (.agg #[.slice fa mx.fr.length fc, .slice ta mx.to.length tc, .int .i64 mx.si, .int .i64 mx.wh, .slice sa mx.sh.length sc, .slice ga mx.tg.length gc]) true rfl rfl keyed13 Try.underlying62 zeroW13 rfl HMn.out rfl (keyS Try.underlying9 hsm) HV.out HC.out ?_)
  obtain ⟨w4, hw4⟩ : ∃ w4, w4 = (w3.alloc (.cells #[.slice fa mx.fr.length fc, .slice ta mx.to.length tc, .int .i64 mx.si, .int .i64 mx.wh, .slice sa mx.sh.length sc, .slice ga mx.tg.length gc] 71)) := ⟨_, rfl⟩
  have H6 : Hid (Hold w0 w4 L (Sep (BlkF w3.heap.size [.slice fa mx.fr.length fc, .slice ta mx.to.length tc, .int .i64 mx.si, .int .i64 mx.wh, .slice sa mx.sh.length sc, .slice ga mx.tg.length gc] 71) _)) := Lib.hid (by rw [hw4]; exact H4.rot)
  go_wp2_with fail
  rw [← hw4]
  clear H3 H4 HMn y0 hw4 c0 c1 hl3 hgl3
  have p0 := Blk.at (hold_b1 H6.out) (k := 0) rfl
  have p1 := Blk.at (hold_b1 H6.out) (k := 1) rfl
  have p2 := Blk.at (hold_b1 H6.out) (k := 2) rfl
  have p3 := Blk.at (hold_b1 H6.out) (k := 3) rfl
  have p4 := Blk.at (hold_b1 H6.out) (k := 4) rfl
  have p5 := Blk.at (hold_b1 H6.out) (k := 5) rfl
  have hpl := (hold_b1 H6.out).lt
  have c0 := Blk.at (hold_b1 H6.out.rot) (k := 0) rfl
  have c1 := Blk.at (hold_b1 H6.out.rot) (k := 1) rfl
  have hcl := (hold_b1 H6.out.rot).lt
  have HX : Hid (ShR w4 (.slice xa sh.length xc) sh ∧ TgR w4 (.slice ya tg.length yc) tg) := Lib.hid (H6.out.see fun F ⟨_, _, _, ⟨_, _, _, ⟨_, _, ⟨_, _, rx, ry, _⟩, _⟩, _⟩, _⟩ => ⟨rx.1, ry.1⟩)
  have HR : Hid (RowsW w4 ⟨mx, mp, .slice fa mx.fr.length fc, .slice ta mx.to.length tc, .slice sa mx.sh.length sc, .slice ga mx.tg.length gc⟩) := Lib.hid (H6.out.see fun F ⟨_, _, _, ⟨_, _, _, ⟨_, _, _, ⟨_, _, _, ⟨_, _, hp, _⟩, _⟩, _⟩, _⟩, _⟩ => hp.hr HFS.out)
  have TD := Lib.hid (TC.out xa xc ya yc w4 (ShR.sl HX.out.1) (ShR.sl HR.out.2.2.1) (ShR.sl HR.out.2.1))
  clear TC
  go_wp2_with fail
  refine TD.out.mono ?_
  rintro e w5 ⟨u, rfl, ho, hg5⟩
  have FW := Lib.hid ((FT.out w.heap.size [.slice xa sh.length xc, .slice ya tg.length yc] tablT13).sep FZ.out)
  have H7 := Lib.hid (hold_row1 H6.out (FT.out _ _ _) FW.out hg5 ho (Nat.le_refl _))
  obtain ⟨ua, uc, rfl⟩ := own_shape ho
  have FY := Lib.hid ((FU.out (.slice ua (rollL mx.sh sh 0 wh).length uc) (rollL mx.sh sh 0 wh).length ((rollL mx.sh sh 0 wh).flatMap Shr.cells)).sep FW.out)
  clear H6 ho hg5 TD p0 p1 p2 p3 p4 p5 hpl c0 c1 hcl HR HX
  go_wp2_with (refine Hold.setB (off := 0) (vs := [.slice sa mx.sh.length sc, .slice xa sh.length xc, .int .i64 now, .int .i64 wh, .slice ua (rollL mx.sh sh 0 wh).length uc, .slice ya tg.length yc]) FY.out rfl rfl rfl rfl rfl (n := 6) CWY H7.out rfl (by simp) rfl ?_; intro w6 H8)
  refine Stay.go ?_
  have H8 : Hold w0 w6 L (Sep (BlkF w3.heap.size [.slice sa mx.sh.length sc, .slice xa sh.length xc, .int .i64 now, .int .i64 wh, .slice ua (rollL mx.sh sh 0 wh).length uc, .slice ya tg.length yc] 71) _) := H8
  have p0 := Blk.at (hold_b1 H8) (k := 0) rfl
  have p1 := Blk.at (hold_b1 H8) (k := 1) rfl
  have p2 := Blk.at (hold_b1 H8) (k := 2) rfl
  have p3 := Blk.at (hold_b1 H8) (k := 3) rfl
  have p4 := Blk.at (hold_b1 H8) (k := 4) rfl
  have p5 := Blk.at (hold_b1 H8) (k := 5) rfl
  have hpl := (hold_b1 H8).lt
  have HRW : RowsW w6 ⟨newW s mx.sh sh tg now wh, 0, .slice sa mx.sh.length sc, .slice xa sh.length xc, .slice ua (rollL mx.sh sh 0 wh).length uc, .slice ya tg.length yc⟩ := H8.see fun F ⟨_, _, _, ⟨_, _, ru, ⟨_, _, _, ⟨_, _, ⟨_, _, rx, ry, _⟩, ⟨_, _, _, ⟨_, _, hp, _⟩, _⟩, _⟩, _⟩, _⟩, _⟩ => ⟨(hp.hr HFS.out).2.2.1, rx.1, ru.1, ry.1⟩
  have H9 := H8.map fun F h => (Sep.pull5 h).under fun F h => Sep.assoc' (((Sep.pull3 h).under fun F h => Sep.rot h).rot)
  have FN := ((FT.out w3.heap.size [.slice sa mx.sh.length sc, .slice xa sh.length xc, .int .i64 now, .int .i64 wh, .slice ua (rollL mx.sh sh 0 wh).length uc, .slice ya tg.length yc] 71).sep ((FT.out w.heap.size [.slice xa sh.length xc, .slice ya tg.length yc] tablT13).sep ((FT.out (w.heap.size + 1) [.slice none 0 0, .slice none 0 0] tablT13).sep FB.out)))
  have KP := Lib.hid (hold_plkeep (m := ⟨newW s mx.sh sh tg now wh, 0, .slice sa mx.sh.length sc, .slice xa sh.length xc, .slice ua (rollL mx.sh sh 0 wh).length uc, .slice ya tg.length yc⟩) (now := now) s hs H9 FN HRW (fun F2 hN k hk => by
    obtain ⟨Fa, Fb, ⟨_, ea⟩, ⟨Fc, Fd, ⟨_, ec⟩, ⟨_, ed⟩, _, e2⟩, _, e1⟩ := hN
    rcases hk with q | q | q | q
    · exact .inl ⟨s, _, HFS.out, .inr (.inr (.inl q))⟩
    · exact .inr ((e1 k).2 (.inr ((e2 k).2 (.inl ((ec k).2 q)))))
    · exact .inr ((e1 k).2 (.inl ((ea k).2 q)))
    · exact .inr ((e1 k).2 (.inr ((e2 k).2 (.inr ((ed k).2 q)))))) hn9)
  skip
  clear H7 H8 H9 FN HRW FY FW FZ
  go_wp2_with fail
  refine KP.out.mono ?_
  rintro e w7 ⟨rfl, bk, h10⟩
  have H10 := Lib.hid h10
  clear h10 KP p0 p1 p2 p3 p4 p5 hpl
  have q4 := Blk.at (hold_b1 H10.out.rot) (k := 4) rfl
  have q5 := Blk.at (hold_b1 H10.out.rot) (k := 5) rfl
  have hql := (hold_b1 H10.out.rot).lt
  have hr7 : RowsW w7 ⟨newW s mx.sh sh tg now wh, 0, .slice sa mx.sh.length sc, .slice xa sh.length xc, .slice ua (rollL mx.sh sh 0 wh).length uc, .slice ya tg.length yc⟩ := H10.out.see fun F ⟨_, _, hp, _⟩ => hp.hr (s := s) (by unfold updW; rw [if_pos rfl])
  have hru : ShR w7 (.slice ua (rollL mx.sh sh 0 wh).length uc) (rollL mx.sh sh 0 wh) := hr7.2.2.1
  have OV := Lib.hid (OU.out ua uc ya yc w7 (ShR.sl hru) (SlOf.own (fun _ => rfl) hr7.2.2.2))
  clear OU hr7 hru
  go_wp2_with fail
  refine OV.out.mono ?_
  rintro e w8 ⟨va, vb, rfl, hc⟩
  have FN : Foot (Sep (BlkF w3.heap.size [.slice sa mx.sh.length sc, .slice xa sh.length xc, .int .i64 now, .int .i64 wh, .slice ua (rollL mx.sh sh 0 wh).length uc, .slice ya tg.length yc] 71) (Sep (BlkF w.heap.size [.slice xa sh.length xc, .slice ya tg.length yc] tablT13) (Sep (BlkF (w.heap.size + 1) [.slice none 0 0, .slice none 0 0] tablT13) B))) := ((FT.out w3.heap.size [.slice sa mx.sh.length sc, .slice xa sh.length xc, .int .i64 now, .int .i64 wh, .slice ua (rollL mx.sh sh 0 wh).length uc, .slice ya tg.length yc] 71).sep ((FT.out w.heap.size [.slice xa sh.length xc, .slice ya tg.length yc] tablT13).sep ((FT.out (w.heap.size + 1) [.slice none 0 0, .slice none 0 0] tablT13).sep FB.out)))
  have H11 := hold_tab H10.out (FP.out _ _ _ _) FN hc
  obtain ⟨ra, rc, rfl⟩ := own_shape hc.1
  obtain ⟨za, zc, rfl⟩ := own_shape hc.2.1
  have H12 := Lib.hid (H11.map fun F h => Sep.pull4 h)
  have FO := Lib.hid ((FP.out (some bk) now (n + 1) (updW f s ⟨newW s mx.sh sh tg now wh, 0, .slice sa mx.sh.length sc, .slice xa sh.length xc, .slice ua (rollL mx.sh sh 0 wh).length uc, .slice ya tg.length yc⟩)).sep ((FX.out (rollL mx.sh sh 0 wh) tg (.slice ra (rollL mx.sh sh 0 wh).length rc) (.slice za tg.length zc)).sep ((FT.out w3.heap.size [.slice sa mx.sh.length sc, .slice xa sh.length xc, .int .i64 now, .int .i64 wh, .slice ua (rollL mx.sh sh 0 wh).length uc, .slice ya tg.length yc] 71).sep ((FT.out w.heap.size [.slice xa sh.length xc, .slice ya tg.length yc] tablT13).sep FB.out))))
  clear hc FN H11 H10 OV q4 q5 hql
  go_wp2_with (refine Hold.setB (off := 0) (vs := [.slice ra (rollL mx.sh sh 0 wh).length rc, .slice za tg.length zc]) FO.out rfl rfl rfl rfl rfl (n := 2) CT H12.out rfl (by simp) rfl ?_; intro w9 H13)
  refine Stay.go ?_
  have H14 := Lib.hid H13
  have BF : Blk w9 (w.heap.size + 1) #[.slice ra (rollL mx.sh sh 0 wh).length rc, .slice za tg.length zc] tablT13 := hold_b1 H13
  clear H13 H12 FO
  go_wp2_with fail
  refine bodyPost_ret (v := .agg #[.slice ra (rollL mx.sh sh 0 wh).length rc, .slice za tg.length zc]) (by simp [results, Try.results17, go_sem, BF.cell]) rfl ?_
  refine ⟨_, _, rfl, ?_⟩
  have H15 := H14.out.weak fun F h => by
    obtain ⟨F1, h1, s1⟩ := h.dropL
    obtain ⟨F2, h2, s2⟩ := h1.weakR fun F h => h.weakR fun F h => h.dropL2
    exact ⟨F2, h2, fun k hk => s1 k (s2 k hk)⟩
  rw [HST.out]
  skip
  refine hold_plclose H15 (Nat.add_le_add_right HNC.out 1) fun x => ?_
  rw [turnW_find, HST.out]
  unfold updW
  by_cases e : x = s
  · rw [if_pos e, if_pos e]; rfl
  · rw [if_neg e, if_neg e]; exact HF.out x
set_option maxHeartbeats 16000000 in
theorem hold_plturn_keep {w0 w : World} {L : List MBox} {B : Hp} {g c : Nat} {nw : Int} {l : List Wa} {x : Wa} (h : Hold w0 w L (Sep (PlP g l nw c) B)) (hB : Foot B) (s : ByteArray) (hs : s.size ≤ 100000) (a : Option Addr) (sh : List Shr) (ca : Nat) (b : Option Addr) (tg : List Tgo) (cb : Nat) (now wh : Int)
    (hc : c ≤ 1000) (hz : ∀ x, x ∈ l → WSd x) (hin : PTurn w a sh b tg) (hn : 0 ≤ now ∧ now ≤ 1000000) (hnw : nw ≤ now) (hw : 0 ≤ wh ∧ wh ≤ 1000000) (h1 : findW l s = some x) (hk : keepsW x sh wh = true) (hsi : 0 ≤ x.si ∧ x.si ≤ 1000000) :
    Calls Try.prog 17 #[pz g, .string s, .agg #[.slice a sh.length ca, .slice b tg.length cb], .int .i64 now, .int .i64 wh] w fun e w' => ∃ va vb, e = .returned (.agg #[va, vb]) ∧ Hold w0 w' L (Sep (PlP g (turnW l s sh tg now wh) now (c + 1)) (Sep (TabF (stepW (findW l s) s sh tg now wh).sh tg va vb) B)) := by
  obtain ⟨mb, n, f, hnc, hf, HS⟩ := hold_plopen h
  have hfs := hf s
  rw [h1] at hfs
  obtain ⟨m, hm, rfl⟩ : ∃ m, f s = some m ∧ m.x = x := by cases q : f s with
    | none => rw [q] at hfs; cases hfs
    | some m => rw [q] at hfs; exact ⟨m, rfl, Option.some.inj hfs⟩
  have hsd := hz m.x (findW_mem h1).1
  have hxn : m.x.nm = s := (findW_mem h1).2
  have hrw := HS.see (p := RowsW w m) fun F ⟨_, _, hp, _⟩ => hp.hr hm
  obtain ⟨mx, mp, mf, mt, ms, mg⟩ := m
  dsimp only at *
  have r1 : ShR w mf mx.fr := hrw.1
  have r2 : ShR w mt mx.to := hrw.2.1
  have r3 : ShR w ms mx.sh := hrw.2.2.1
  have r4 : TgR w mg mx.tg := hrw.2.2.2
  obtain ⟨fa, fc, rfl⟩ := own_shape r1
  obtain ⟨ta, tc, rfl⟩ := own_shape r2
  obtain ⟨sa, sc, rfl⟩ := own_shape r3
  obtain ⟨ga, gc, rfl⟩ := own_shape r4
  have HFS := Lib.hid hm
  have HV : Hid (((f s).map WM.val).getD zW13 = .agg #[.slice fa mx.fr.length fc, .slice ta mx.to.length tc, .int .i64 mx.si, .int .i64 wh, .slice sa mx.sh.length sc, .slice ga mx.tg.length gc]) := Lib.hid (by rw [hm, ← (keepsW_iff.1 hk).1]; rfl)
  have HC : Hid (((f s).map WM.val).isSome = true) := Lib.hid (by rw [hm]; rfl)
  have hts : mx.to.length ≤ 1000 := hsd.t.small.1
  have hsd0 := hin.sd
  have HST : Hid (stepW (findW l s) s sh tg now wh = oldW mx tg now) := Lib.hid (by rw [h1]; unfold stepW; dsimp only; rw [hk]; rfl)
  have HRS : Hid (Sd (rollL mx.fr mx.to (now - mx.si) wh)) := Lib.hid (roll_sd' hsd.f hsd.t)
  have TC := Lib.hid (fun (xa : Option Addr) (xc : Nat) (ya : Option Addr) (yc : Nat) (w' : World) (hx : ShSl w' xa sh) (hfo : ShSl w' fa mx.fr) (hto : ShSl w' ta mx.to) => turn_keep fa mx.fr fc ta mx.to tc mx.si sa mx.sh.length sc ga mx.tg.length gc xa sh xc ya tg.length yc now wh w' hfo hto hsd.f hsd.t (keepsW_iff.1 hk).2 hsi hn hw hx hsd0)
  have RT := Lib.hid (fun w' (q : Grow.G w w') => right_any a sh ca b tg cb w' (by have := hsd0.len; omega) (by have := hin.tl; omega) (SlOf.later hin.x q) (SlOf.later hin.y q) (sd_okS hsd0) (szT_ok hin.zt))
  rw [hin.hr] at RT
  have OT := Lib.hid (fun w' (q : Grow.G w w') => ownTable_any a sh ca b tg cb w' (SlOf.later hin.x q) (SlOf.later hin.y q) (by have := hsd0.len; omega) hin.tl (sd_szS hsd0) hin.zt)
  have OU := Lib.hid (fun (xa : Option Addr) (xc : Nat) (ya : Option Addr) (yc : Nat) (w' : World) (q1 : ShSl w' xa (rollL mx.fr mx.to (now - mx.si) wh)) (q2 : TgSl w' ya tg) => ownTable_any xa (rollL mx.fr mx.to (now - mx.si) wh) xc ya tg yc w' q1 q2 (by have := HRS.out.len; omega) hin.tl (sd_szS HRS.out) hin.zt)
  have HF := Lib.hid hf
  have hsm : s.size ≤ maxLen := by unfold maxLen; omega
  have hn9 : n ≤ 100000 := by omega
  have HNC := Lib.hid hnc
  have HWE := Lib.hid (keepsW_iff.1 hk).1
  have FB := Lib.hid hB
  have FP := Lib.hid (fun mb nw n f => PlS.foot g mb nw n f)
  have FT : Hid (∀ t cs T, Foot (BlkF t cs T)) := Lib.hid (fun t cs T => BlkF.foot _ _ _)
  have FX : Hid (∀ sh tg va vb, Foot (TabF sh tg va vb)) := Lib.hid (fun sh tg va vb => TabF.foot _ _ _ _)
  have FU : Hid (∀ v n xs, Foot (RowF 0 shareT13 2 v n xs)) := Lib.hid (fun v n xs => RowF.foot _ _ _ _ _ _)
  have CT : (Try.prog.info? tablT13).map (·.size) = some 2 := by kernel_rfl
  have CWY : (Try.prog.info? 71).map (·.size) = some 6 := by kernel_rfl
  have d1 : decide (now < nw) = false := decide_eq_false (by omega)
  have d2 : decide (1000000 < now) = false := decide_eq_false (by omega)
  have d3 : decide (wh < 0) = false := decide_eq_false (by omega)
  have d4 : decide (1000000 < wh) = false := decide_eq_false (by omega)
  have nd1 : ¬ now < nw := by omega
  have nd2 : ¬ 1000000 < now := by omega
  have nd3 : ¬ wh < 0 := by omega
  have nd4 : ¬ 1000000 < wh := by omega
  have y1 := Blk.at (HS.see (p := Blk w g ([.map mb, .int .i64 nw] : List Value).toArray lrT13) fun F ⟨_, _, hp, _⟩ => hp.hb) (k := 1) rfl
  have hgl := (HS.see (p := Blk w g ([.map mb, .int .i64 nw] : List Value).toArray lrT13) fun F ⟨_, _, hp, _⟩ => hp.hb).lt
  have H1 := Lib.hid HS
  clear h HS hf hm hin h1 hz hnc hfs hrw r1 r2 r3 r4 hsd hk hsi
  go_enter Try.func17, Try.ntmps17
  go_wp2_with fail
  have HA := hold_new1 H1.out (FP.out _ _ _ _) FB.out [.slice a sh.length ca, .slice b tg.length cb] tablT13 rfl
  have HB := hold_new1 (r := w.heap.size + 1) HA.rot (FT.out _ _ _) ((FP.out _ _ _ _).sep FB.out) [.slice none 0 0, .slice none 0 0] tablT13 (by simp)
  have G2 := Grow.G.alloc (Grow.G.alloc (Grow.G.refl w) (.cells #[.slice a sh.length ca, .slice b tg.length cb] tablT13)) (.cells #[.slice none 0 0, .slice none 0 0] tablT13)
  have y2 := cell_later G2 y1
  refine (RT.out _ G2).mono ?_
  rintro e w1 ⟨rfl, hg⟩
  have y3 := cell_later hg y2
  have G3 := Lib.hid (Grow.G.trans G2 hg)
  have HC1 := Lib.hid (HB.grow ((FT.out _ _ _).sep ((FT.out _ _ _).sep ((FP.out _ _ _ _).sep FB.out))) hg)
  have c0 := Blk.at (hold_b1 HC1.out) (k := 0) rfl
  have c1 := Blk.at (hold_b1 HC1.out) (k := 1) rfl
  have hl1 := (hold_b1 HC1.out).lt
  clear hg HA HB H1 y1 y2 RT G2
  go_wp2_with fail
  refine (OT.out _ G3.out).mono ?_
  rintro e w2 ⟨va, vb, rfl, hc⟩
  have HD := Lib.hid (hold_tab HC1.out (FT.out _ _ _) ((FT.out _ _ _).sep ((FP.out _ _ _ _).sep FB.out)) hc)
  obtain ⟨xa, xc, rfl⟩ := own_shape hc.1
  obtain ⟨ya, yc, rfl⟩ := own_shape hc.2.1
  clear hc OT HC1 c0 c1 y3 G3 hl1
  have FZ := Lib.hid ((FX.out sh tg (.slice xa sh.length xc) (.slice ya tg.length yc)).sep ((FT.out (w.heap.size + 1) [.slice none 0 0, .slice none 0 0] tablT13).sep ((FP.out mb nw n f).sep FB.out)))
  go_wp2_with (refine Hold.setB (off := 0) (vs := [.slice xa sh.length xc, .slice ya tg.length yc]) FZ.out rfl rfl rfl rfl rfl (n := 2) CT HD.out rfl (by simp) rfl ?_; intro w3 H2)
  refine Stay.go ?_
  have H2 : Hold w0 w3 L (Sep (BlkF w.heap.size [.slice xa sh.length xc, .slice ya tg.length yc] tablT13) _) := H2
  have H3 := Lib.hid H2
  clear H2 HD
  have y0 := Blk.at (H3.out.see (p := Blk w3 g ([.map mb, .int .i64 nw] : List Value).toArray lrT13) fun F ⟨_, _, _, ⟨_, _, _, ⟨_, _, _, ⟨_, _, hp, _⟩, _⟩, _⟩, _⟩ => hp.hb) (k := 0) rfl
  have hgl3 := (H3.out.see (p := Blk w3 g ([.map mb, .int .i64 nw] : List Value).toArray lrT13) fun F ⟨_, _, _, ⟨_, _, _, ⟨_, _, _, ⟨_, _, hp, _⟩, _⟩, _⟩, _⟩ => hp.hb).lt
  have HMn : Hid (MapN Try.prog 9 w3 mb n (fW f)) := Lib.hid (H3.out.see fun F ⟨_, _, _, ⟨_, _, _, ⟨_, _, _, ⟨_, _, hp, _⟩, _⟩, _⟩, _⟩ => hp.hm)
  have c0 := Blk.at (hold_b1 H3.out) (k := 0) rfl
  have c1 := Blk.at (hold_b1 H3.out) (k := 1) rfl
  have hl3 := (hold_b1 H3.out).lt
  have H4 := hold_new1 H3.out (FT.out _ _ _) FZ.out [.slice fa mx.fr.length fc, .slice ta mx.to.length tc, .int .i64 mx.si, .int .i64 wh, .slice sa mx.sh.length sc, .slice ga mx.tg.length gc] 71 rfl
  go_wp2_with (at_lookup; refine look2v (.agg #[.slice fa mx.fr.length fc, .slice ta mx.to.length tc, .int .i64 mx.si, .int .i64 wh, .slice sa mx.sh.length sc, .slice ga mx.tg.length gc]) true rfl rfl keyed13 Try.underlying62 zeroW13 rfl HMn.out rfl (keyS Try.underlying9 hsm) HV.out HC.out ?_)
  obtain ⟨w4, hw4⟩ : ∃ w4, w4 = (w3.alloc (.cells #[.slice fa mx.fr.length fc, .slice ta mx.to.length tc, .int .i64 mx.si, .int .i64 wh, .slice sa mx.sh.length sc, .slice ga mx.tg.length gc] 71)) := ⟨_, rfl⟩
  have H6 : Hid (Hold w0 w4 L (Sep (BlkF w3.heap.size [.slice fa mx.fr.length fc, .slice ta mx.to.length tc, .int .i64 mx.si, .int .i64 wh, .slice sa mx.sh.length sc, .slice ga mx.tg.length gc] 71) _)) := Lib.hid (by rw [hw4]; exact H4.rot)
  go_wp2_with fail
  rw [← hw4]
  clear H3 H4 HMn y0 hw4 c0 c1 hl3 hgl3
  have p0 := Blk.at (hold_b1 H6.out) (k := 0) rfl
  have p1 := Blk.at (hold_b1 H6.out) (k := 1) rfl
  have p2 := Blk.at (hold_b1 H6.out) (k := 2) rfl
  have p3 := Blk.at (hold_b1 H6.out) (k := 3) rfl
  have p4 := Blk.at (hold_b1 H6.out) (k := 4) rfl
  have p5 := Blk.at (hold_b1 H6.out) (k := 5) rfl
  have hpl := (hold_b1 H6.out).lt
  have c0 := Blk.at (hold_b1 H6.out.rot) (k := 0) rfl
  have c1 := Blk.at (hold_b1 H6.out.rot) (k := 1) rfl
  have hcl := (hold_b1 H6.out.rot).lt
  have HX : Hid (ShR w4 (.slice xa sh.length xc) sh ∧ TgR w4 (.slice ya tg.length yc) tg) := Lib.hid (H6.out.see fun F ⟨_, _, _, ⟨_, _, _, ⟨_, _, ⟨_, _, rx, ry, _⟩, _⟩, _⟩, _⟩ => ⟨rx.1, ry.1⟩)
  have HR : Hid (RowsW w4 ⟨mx, mp, .slice fa mx.fr.length fc, .slice ta mx.to.length tc, .slice sa mx.sh.length sc, .slice ga mx.tg.length gc⟩) := Lib.hid (H6.out.see fun F ⟨_, _, _, ⟨_, _, _, ⟨_, _, _, ⟨_, _, _, ⟨_, _, hp, _⟩, _⟩, _⟩, _⟩, _⟩ => hp.hr HFS.out)
  have TD := Lib.hid (TC.out xa xc ya yc w4 (ShR.sl HX.out.1) (ShR.sl HR.out.1) (ShR.sl HR.out.2.1))
  clear TC
  go_wp2_with fail
  refine TD.out.mono ?_
  rintro e w5 ⟨u, rfl, ho, hg5⟩
  have FW := Lib.hid ((FT.out w.heap.size [.slice xa sh.length xc, .slice ya tg.length yc] tablT13).sep FZ.out)
  have H7 := Lib.hid (hold_row1 H6.out (FT.out _ _ _) FW.out hg5 ho (Nat.le_refl _))
  obtain ⟨ua, uc, rfl⟩ := own_shape ho
  have FY := Lib.hid ((FU.out (.slice ua (rollL mx.fr mx.to (now - mx.si) wh).length uc) (rollL mx.fr mx.to (now - mx.si) wh).length ((rollL mx.fr mx.to (now - mx.si) wh).flatMap Shr.cells)).sep FW.out)
  clear H6 ho hg5 TD p0 p1 p2 p3 p4 p5 hpl c0 c1 hcl HR HX
  go_wp2_with (refine Hold.setB (off := 0) (vs := [.slice fa mx.fr.length fc, .slice ta mx.to.length tc, .int .i64 mx.si, .int .i64 wh, .slice ua (rollL mx.fr mx.to (now - mx.si) wh).length uc, .slice ya tg.length yc]) FY.out rfl rfl rfl rfl rfl (n := 6) CWY H7.out rfl (by simp) rfl ?_; intro w6 H8)
  refine Stay.go ?_
  have H8 : Hold w0 w6 L (Sep (BlkF w3.heap.size [.slice fa mx.fr.length fc, .slice ta mx.to.length tc, .int .i64 mx.si, .int .i64 wh, .slice ua (rollL mx.fr mx.to (now - mx.si) wh).length uc, .slice ya tg.length yc] 71) _) := H8
  have p0 := Blk.at (hold_b1 H8) (k := 0) rfl
  have p1 := Blk.at (hold_b1 H8) (k := 1) rfl
  have p2 := Blk.at (hold_b1 H8) (k := 2) rfl
  have p3 := Blk.at (hold_b1 H8) (k := 3) rfl
  have p4 := Blk.at (hold_b1 H8) (k := 4) rfl
  have p5 := Blk.at (hold_b1 H8) (k := 5) rfl
  have hpl := (hold_b1 H8).lt
  have HRW : RowsW w6 ⟨oldW mx tg now, 0, .slice fa mx.fr.length fc, .slice ta mx.to.length tc, .slice ua (rollL mx.fr mx.to (now - mx.si) wh).length uc, .slice ya tg.length yc⟩ := H8.see fun F ⟨_, _, _, ⟨_, _, ru, ⟨_, _, _, ⟨_, _, ⟨_, _, rx, ry, _⟩, ⟨_, _, _, ⟨_, _, hp, _⟩, _⟩, _⟩, _⟩, _⟩, _⟩ => ⟨(hp.hr HFS.out).1, (hp.hr HFS.out).2.1, by rw [show (oldW mx tg now).sh = rollL mx.fr mx.to (now - mx.si) wh from by unfold oldW; rw [HWE.out]]; exact ru.1, ry.1⟩
  have H9 := H8.map fun F h => (Sep.pull5 h).under fun F h => Sep.assoc' (((Sep.pull3 h).under fun F h => Sep.rot h).rot)
  have FN := ((FT.out w3.heap.size [.slice fa mx.fr.length fc, .slice ta mx.to.length tc, .int .i64 mx.si, .int .i64 wh, .slice ua (rollL mx.fr mx.to (now - mx.si) wh).length uc, .slice ya tg.length yc] 71).sep ((FT.out w.heap.size [.slice xa sh.length xc, .slice ya tg.length yc] tablT13).sep ((FT.out (w.heap.size + 1) [.slice none 0 0, .slice none 0 0] tablT13).sep FB.out)))
  have KP := Lib.hid (hold_plkeep (m := ⟨oldW mx tg now, 0, .slice fa mx.fr.length fc, .slice ta mx.to.length tc, .slice ua (rollL mx.fr mx.to (now - mx.si) wh).length uc, .slice ya tg.length yc⟩) (now := now) s hs H9 FN HRW (fun F2 hN k hk => by
    obtain ⟨Fa, Fb, ⟨_, ea⟩, ⟨Fc, Fd, ⟨_, ec⟩, ⟨_, ed⟩, _, e2⟩, _, e1⟩ := hN
    rcases hk with q | q | q | q
    · exact .inl ⟨s, _, HFS.out, .inl q⟩
    · exact .inl ⟨s, _, HFS.out, .inr (.inl q)⟩
    · exact .inr ((e1 k).2 (.inl ((ea k).2 q)))
    · exact .inr ((e1 k).2 (.inr ((e2 k).2 (.inr ((ed k).2 q)))))) hn9)
  rw [show WM.val ⟨oldW mx tg now, 0, .slice fa mx.fr.length fc, .slice ta mx.to.length tc, .slice ua (rollL mx.fr mx.to (now - mx.si) wh).length uc, .slice ya tg.length yc⟩ = .agg #[.slice fa mx.fr.length fc, .slice ta mx.to.length tc, .int .i64 mx.si, .int .i64 wh, .slice ua (rollL mx.fr mx.to (now - mx.si) wh).length uc, .slice ya tg.length yc] from by unfold WM.val oldW; rw [HWE.out]] at KP
  clear H7 H8 H9 FN HRW FY FW FZ
  go_wp2_with fail
  refine KP.out.mono ?_
  rintro e w7 ⟨rfl, bk, h10⟩
  have H10 := Lib.hid h10
  clear h10 KP p0 p1 p2 p3 p4 p5 hpl
  have q4 := Blk.at (hold_b1 H10.out.rot) (k := 4) rfl
  have q5 := Blk.at (hold_b1 H10.out.rot) (k := 5) rfl
  have hql := (hold_b1 H10.out.rot).lt
  have hr7 : RowsW w7 ⟨oldW mx tg now, 0, .slice fa mx.fr.length fc, .slice ta mx.to.length tc, .slice ua (rollL mx.fr mx.to (now - mx.si) wh).length uc, .slice ya tg.length yc⟩ := H10.out.see fun F ⟨_, _, hp, _⟩ => hp.hr (s := s) (by unfold updW; rw [if_pos rfl])
  have hru : ShR w7 (.slice ua (rollL mx.fr mx.to (now - mx.si) wh).length uc) (rollL mx.fr mx.to (now - mx.si) wh) := by have := hr7.2.2.1; rw [show (oldW mx tg now).sh = rollL mx.fr mx.to (now - mx.si) wh from by unfold oldW; rw [HWE.out]] at this; exact this
  have OV := Lib.hid (OU.out ua uc ya yc w7 (ShR.sl hru) (SlOf.own (fun _ => rfl) hr7.2.2.2))
  clear OU hr7 hru
  go_wp2_with fail
  refine OV.out.mono ?_
  rintro e w8 ⟨va, vb, rfl, hc⟩
  have FN : Foot (Sep (BlkF w3.heap.size [.slice fa mx.fr.length fc, .slice ta mx.to.length tc, .int .i64 mx.si, .int .i64 wh, .slice ua (rollL mx.fr mx.to (now - mx.si) wh).length uc, .slice ya tg.length yc] 71) (Sep (BlkF w.heap.size [.slice xa sh.length xc, .slice ya tg.length yc] tablT13) (Sep (BlkF (w.heap.size + 1) [.slice none 0 0, .slice none 0 0] tablT13) B))) := ((FT.out w3.heap.size [.slice fa mx.fr.length fc, .slice ta mx.to.length tc, .int .i64 mx.si, .int .i64 wh, .slice ua (rollL mx.fr mx.to (now - mx.si) wh).length uc, .slice ya tg.length yc] 71).sep ((FT.out w.heap.size [.slice xa sh.length xc, .slice ya tg.length yc] tablT13).sep ((FT.out (w.heap.size + 1) [.slice none 0 0, .slice none 0 0] tablT13).sep FB.out)))
  have H11 := hold_tab H10.out (FP.out _ _ _ _) FN hc
  obtain ⟨ra, rc, rfl⟩ := own_shape hc.1
  obtain ⟨za, zc, rfl⟩ := own_shape hc.2.1
  have H12 := Lib.hid (H11.map fun F h => Sep.pull4 h)
  have FO := Lib.hid ((FP.out (some bk) now (n + 1) (updW f s ⟨oldW mx tg now, 0, .slice fa mx.fr.length fc, .slice ta mx.to.length tc, .slice ua (rollL mx.fr mx.to (now - mx.si) wh).length uc, .slice ya tg.length yc⟩)).sep ((FX.out (rollL mx.fr mx.to (now - mx.si) wh) tg (.slice ra (rollL mx.fr mx.to (now - mx.si) wh).length rc) (.slice za tg.length zc)).sep ((FT.out w3.heap.size [.slice fa mx.fr.length fc, .slice ta mx.to.length tc, .int .i64 mx.si, .int .i64 wh, .slice ua (rollL mx.fr mx.to (now - mx.si) wh).length uc, .slice ya tg.length yc] 71).sep ((FT.out w.heap.size [.slice xa sh.length xc, .slice ya tg.length yc] tablT13).sep FB.out))))
  clear hc FN H11 H10 OV q4 q5 hql
  go_wp2_with (refine Hold.setB (off := 0) (vs := [.slice ra (rollL mx.fr mx.to (now - mx.si) wh).length rc, .slice za tg.length zc]) FO.out rfl rfl rfl rfl rfl (n := 2) CT H12.out rfl (by simp) rfl ?_; intro w9 H13)
  refine Stay.go ?_
  have H14 := Lib.hid H13
  have BF : Blk w9 (w.heap.size + 1) #[.slice ra (rollL mx.fr mx.to (now - mx.si) wh).length rc, .slice za tg.length zc] tablT13 := hold_b1 H13
  clear H13 H12 FO
  go_wp2_with fail
  refine bodyPost_ret (v := .agg #[.slice ra (rollL mx.fr mx.to (now - mx.si) wh).length rc, .slice za tg.length zc]) (by simp [results, Try.results17, go_sem, BF.cell]) rfl ?_
  refine ⟨_, _, rfl, ?_⟩
  have H15 := H14.out.weak fun F h => by
    obtain ⟨F1, h1, s1⟩ := h.dropL
    obtain ⟨F2, h2, s2⟩ := h1.weakR fun F h => h.weakR fun F h => h.dropL2
    exact ⟨F2, h2, fun k hk => s1 k (s2 k hk)⟩
  rw [HST.out]
  rw [show (oldW mx tg now).sh = rollL mx.fr mx.to (now - mx.si) wh from by unfold oldW; rw [HWE.out]]
  refine hold_plclose H15 (Nat.add_le_add_right HNC.out 1) fun x => ?_
  rw [turnW_find, HST.out]
  unfold updW
  by_cases e : x = s
  · rw [if_pos e, if_pos e]; rfl
  · rw [if_neg e, if_neg e]; exact HF.out x
end Go.Proofs.Ytjhfjjkfnmnkgaa

/- My own texts LrN, LrD, laid in one file. -/
import Derived.Test.YtjhfjjkfnmnkgaaZ98D

/- The second form's roller: Turn of a new name. -/
namespace Go.Proofs.Ytjhfjjkfnmnkgaa
set_option maxRecDepth 100000
set_option linter.unusedVariables false
set_option linter.unusedSimpArgs false
set_option linter.unnecessarySimpa false
open Go.RowKit Go.Args

theorem fin_new {w w0 : World} {L : List MBox} {r t g : Nat} {rs ts : List Value} {T : TypeId} {X2 U T1 B : Hp} {v : Value} {lm : List WM} (m1 m' : WM) (hp : m1.p = m'.p) (h : Hold w0 w L (Sep (BlkF r rs T) (Sep (BlkF m'.p m'.cells wayT13) (Sep X2 (Sep U (Sep (BlkF t ts T) (Sep T1 (Sep (BlkF g [v] rolT13) (Sep (RowF 0 wptT13 1 v (lm.length + 1) (wptrs (lm ++ [m1]))) (Sep (SepL WmF lm) B))))))))))
    (hr : ∀ w F D, Sep U (Sep T1 D) w F → ∃ F', Sep (WrF m') D w F' ∧ ∀ k, F' k → F k) : Hold w0 w L (Sep (RolS g v (lm ++ [m'])) (Sep X2 B)) := by
  have e1 : wptrs (lm ++ [m1]) = wptrs (lm ++ [m']) := by unfold wptrs; rw [List.map_append, List.map_append, List.map_singleton, List.map_singleton, hp]
  have e2 : lm.length + 1 = (lm ++ [m']).length := by rw [List.length_append]; rfl
  rw [e1, e2] at h
  exact h.weak fun F h => by
    obtain ⟨F1, h1, s1⟩ := h.dropL
    obtain ⟨F2, h2, s2⟩ := h1.weakR fun F h => by
      have h3 : Sep U (Sep (BlkF t ts T) (Sep T1 (Sep (BlkF g [v] rolT13) (Sep (RowF 0 wptT13 1 v (lm ++ [m']).length (wptrs (lm ++ [m']))) (Sep (SepL WmF lm) (Sep X2 B)))))) w F := Sep.push6 h
      obtain ⟨F3, h4, s4⟩ := (Sep.rot h3).dropL
      obtain ⟨F4, h5, s5⟩ := hr _ _ _ h4
      exact ⟨F4, h5, fun k hk => s4 k (s5 k hk)⟩
    refine ⟨F2, ?_, fun k hk => s1 k (s2 k hk)⟩
    have h6 := Sep.assoc' (h2.under fun F h => Sep.assoc' (h.under fun F h => Sep.assoc' (h.under fun F h => Sep.assoc' h)))
    exact h6.over fun F h => RolS.snoc13 h
set_option maxHeartbeats 16000000 in
theorem hold_rolturn_new {w0 w : World} {L : List MBox} {B : Hp} {g : Nat} {l : List Wa} (h : Hold w0 w L (Sep (RolP g l) B)) (hB : Foot B) (s : ByteArray) (a : Option Addr) (sh : List Shr) (c : Nat) (b : Option Addr) (tg : List Tgo) (d : Nat) (now wh : Int)
    (hl : l.length ≤ 1000) (hin : TurnIn w a sh b tg) (hn : 0 ≤ now ∧ now ≤ 1000000) (hw : 0 ≤ wh ∧ wh ≤ 1000000) (h1 : findW l s = none) :
    Calls Try.prog 19 #[pz g, .string s, .agg #[.slice a sh.length c, .slice b tg.length d], .int .i64 now, .int .i64 wh] w fun e w' => ∃ va vb, e = .returned (.agg #[va, vb]) ∧ Hold w0 w' L (Sep (RolP g (turnW l s sh tg now wh)) (Sep (TabF (rollL sh sh 0 wh) tg va vb) B)) := by
  obtain ⟨v, lm, e1, ok, HS⟩ := hold_rolopen h
  obtain ⟨F, hS⟩ := hold_rolS HS
  have hll : lm.length ≤ 1000 := by rw [← e1, List.length_map] at hl; exact hl
  have FD : Hid (∀ w' F', RolS g v lm w' F' → _) := Lib.hid (fun w' F' (q : RolS g v lm w' F') => rolfind_any g v lm s w' F' q hll)
  have hmap := findM13_map lm s
  rw [e1, h1] at hmap
  have hn0 : findM13 lm s = none := by cases q : findM13 lm s with
    | none => rfl
    | some _ => rw [q] at hmap; cases hmap
  rw [hn0] at FD
  dsimp only [ptrW] at FD
  have HT : Hid (turnW l s sh tg now wh = lm.map WM.x ++ [newW s sh sh tg now wh]) := Lib.hid (by unfold turnW; rw [h1, e1]; rfl)
  have HO := Lib.hid (ok.turn s sh tg now wh)
  have H1 := Lib.hid ((HS.map fun F h => (Sep.assoc h).under fun F h => Sep.assoc h))
  obtain ⟨va0, vc0, rfl⟩ := hS.sl
  have hgl := hS.hb.lt
  have CP := Lib.hid (fun w' (q : Grow.G w w') => rcopy_any a sh c b tg d w' (hin.a.grow q) (hin.b.grow q) (by have := sd_len hin.sd; omega) hin.tl)
  have sm2 := hin.sd.small
  have FG : Hid (∀ cs, Foot (BlkF g cs rolT13)) := Lib.hid (fun cs => BlkF.foot _ _ _)
  have FM : Hid (∀ mp cs, Foot (BlkF mp cs wayT13)) := Lib.hid (fun mp cs => BlkF.foot _ _ _)
  have FT : Hid (∀ t cs, Foot (BlkF t cs tablT13)) := Lib.hid (fun t cs => BlkF.foot _ _ _)
  have FX : Hid (∀ sh tg va vb, Foot (TabF sh tg va vb)) := Lib.hid (fun sh tg va vb => TabF.foot _ _ _ _)
  have FU : Hid (∀ v n xs, Foot (RowF 0 shareT13 2 v n xs)) := Lib.hid (fun v n xs => RowF.foot _ _ _ _ _ _)
  have FRw : Hid (∀ v n xs, Foot (RowF 0 wptT13 1 v n xs)) := Lib.hid (fun v n xs => RowF.foot _ _ _ _ _ _)
  have FSL : Hid (Foot (Sep (SepL WmF lm) B)) := Lib.hid ((SepL.foot WmF.foot lm).sep hB)
  have RG : Hid (∀ xa xc w', SlOf w' Shr.cells 2 xa sh → _) := Lib.hid (fun xa xc w' (h2 : SlOf w' Shr.cells 2 xa sh) => rroll_any xa sh xc xa sh xc 0 wh w' sm2 sm2 (by omega) (by omega) h2 h2)
  have HRL := Lib.hid (show (rollL sh sh 0 wh).length ≤ 1000 by have q : Sd (rollL sh sh 0 wh) := roll_sd' hin.sd hin.sd; have := sd_len q; omega)
  have HTL := Lib.hid hin.tl
  have CT : (Try.prog.info? tablT13).map (·.size) = some 2 := by kernel_rfl
  have h00 : IntKind.i64.wrap (now - now) = 0 := by rw [Int.sub_self]; rfl
  have FD0 := Lib.hid ((FRw.out (.slice va0 lm.length vc0) lm.length (wptrs lm)).sep FSL.out)
  clear hS HS h hmap h1 hin ok sm2 hn0 e1
  go_enter Try.func19, Try.ntmps19
  go_wp2_with fail
  have HA := hold_new1 H1.out (FG.out _) FD0.out [.slice a sh.length c, .slice b tg.length d] tablT13 rfl
  have HB := hold_new1 (r := w.heap.size + 1) HA.rot (FT.out _ _) ((FG.out _).sep FD0.out) [.slice none 0 0, .slice none 0 0] tablT13 (by simp)
  refine (CP.out _ (Grow.G.alloc (Grow.G.alloc (Grow.G.refl _) _) _)).mono ?_
  rintro e w1 ⟨va, vb, rfl, hc⟩
  have HC := Lib.hid (hold_tab HB (FT.out _ _) ((FT.out _ _).sep ((FG.out _).sep FD0.out)) hc)
  obtain ⟨xa, xc, rfl⟩ := own_shape hc.1
  obtain ⟨ya, yc, rfl⟩ := own_shape hc.2.1
  have hwl : w.heap.size + 2 ≤ w1.heap.size := by have := hc.2.2.2.size; simp at this; omega
  clear hc CP HA HB H1
  have FZ := Lib.hid ((FX.out sh tg (.slice xa sh.length xc) (.slice ya tg.length yc)).sep ((FT.out (w.heap.size + 1) [.slice none 0 0, .slice none 0 0]).sep ((FG.out [.slice va0 lm.length vc0]).sep FD0.out)))
  go_wp2_with (refine Hold.setB (off := 0) (vs := [.slice xa sh.length xc, .slice ya tg.length yc]) FZ.out rfl rfl rfl rfl rfl (n := 2) CT HC.out rfl (by simp) rfl ?_; intro w2 H2)
  refine Stay.go ?_
  have H2 : Hold w0 w2 L (Sep (BlkF w.heap.size [.slice xa sh.length xc, .slice ya tg.length yc] tablT13) _) := H2
  have H3 := Lib.hid H2
  clear H2 HC
  have FD2 : Hid (∃ F2, RolS g (.slice va0 lm.length vc0) lm w2 F2) := Lib.hid (hold_rolS (H3.out.map fun F h => Sep.assoc' ((Sep.pull3 h).under fun F h => Sep.assoc' ((Sep.pull3 h).under fun F h => Sep.pull3 h))))
  go_wp2_with fail
  refine (FD.out _ _ FD2.out.choose_spec).mono ?_
  rintro e w3 ⟨rfl, rfl⟩
  clear FD FD2
  have t0 := Blk.at (hold_b1 H3.out) (k := 0) rfl
  have g0 := Blk.at (hold_b1 (H3.out.map fun F h => Sep.pull3 h)) (k := 0) rfl
  have tl := (hold_b1 H3.out).lt
  have gl2 := (hold_b1 (H3.out.map fun F h => Sep.pull3 h)).lt
  have H4 := hold_new1 H3.out (FT.out _ _) FZ.out [.string s, .slice xa sh.length xc, .slice xa sh.length xc, .int .i64 now, .int .i64 wh, .slice none 0 0, .slice none 0 0] wayT13 rfl
  have FY := Lib.hid ((FM.out w2.heap.size [.string s, .slice xa sh.length xc, .slice xa sh.length xc, .int .i64 now, .int .i64 wh, .slice none 0 0, .slice none 0 0]).sep FZ.out)
  have H5 := hold_new1 (r := w2.heap.size + 1) H4 (FT.out _ _) FY.out [pz w2.heap.size] wptT13 (by simp)
  have FP := Lib.hid (fun r cs => BlkF.foot r cs wptT13)
  have SR : Hid (Fr.Src ((w2.alloc (.cells ([.string s, .slice xa sh.length xc, .slice xa sh.length xc, .int .i64 now, .int .i64 wh, .slice none 0 0, .slice none 0 0] : List Value).toArray wayT13)).alloc (.cells ([pz w2.heap.size] : List Value).toArray wptT13)) (some ⟨w2.heap.size + 1, 0, none⟩) [pz w2.heap.size]) := Lib.hid (blk_srcP (hold_b1 H5.rot))
  have SR2 : Hid (∀ k, k = w2.heap.size → Fr.Src _ (some ⟨w2.heap.size + 1, 0, none⟩) [pz k]) := Lib.hid (fun k e => by rw [e]; exact SR.out)
  have H6 : Hid (Hold w0 ((w2.alloc (.cells ([.string s, .slice xa sh.length xc, .slice xa sh.length xc, .int .i64 now, .int .i64 wh, .slice none 0 0, .slice none 0 0] : List Value).toArray wayT13)).alloc (.cells ([pz w2.heap.size] : List Value).toArray wptT13)) L _) := Lib.hid (H5.map fun F h => h.under fun F h => Sep.pull5 h)
  clear H3 H4 H5
  obtain ⟨m1, hm1⟩ : ∃ m1 : WM, m1.p = w2.heap.size := ⟨⟨newW s sh sh tg now wh, w2.heap.size, .slice xa sh.length xc, .slice xa sh.length xc, .slice xa sh.length xc, .slice ya tg.length yc⟩, rfl⟩
  have FBB := Lib.hid ((FP.out (w2.heap.size + 1) [pz w2.heap.size]).sep (FY.out))
  have FB2 := Lib.hid ((FP.out (w2.heap.size + 1) [pz w2.heap.size]).sep ((FM.out w2.heap.size [.string s, .slice xa sh.length xc, .slice xa sh.length xc, .int .i64 now, .int .i64 wh, .slice none 0 0, .slice none 0 0]).sep ((FX.out sh tg (.slice xa sh.length xc) (.slice ya tg.length yc)).sep ((FT.out (w.heap.size + 1) [.slice none 0 0, .slice none 0 0]).sep ((FG.out [.slice va0 lm.length vc0]).sep FSL.out)))))
  go_wp2_with (refine wpList_appW (ls := lm) (m := m1) rfl (.tmp 32) (.tmp 34) rfl H6.out (FT.out _ _) FB2.out rfl rfl (SR2.out m1.p hm1) (by omega) ?_; intro a10 c10 w10 H10)
  refine Stay.go ?_
  have H11 := Lib.hid (H10.map fun F h => Sep.pull6 h)
  have FB3 := Lib.hid ((FT.out w.heap.size [.slice xa sh.length xc, .slice ya tg.length yc]).sep ((FRw.out (.slice a10 (lm.length + 1) c10) (lm.length + 1) (wptrs (lm ++ [m1]))).sep ((FP.out (w2.heap.size + 1) [pz w2.heap.size]).sep ((FM.out w2.heap.size [.string s, .slice xa sh.length xc, .slice xa sh.length xc, .int .i64 now, .int .i64 wh, .slice none 0 0, .slice none 0 0]).sep ((FX.out sh tg (.slice xa sh.length xc) (.slice ya tg.length yc)).sep ((FT.out (w.heap.size + 1) [.slice none 0 0, .slice none 0 0]).sep FSL.out))))))
  clear H10 H6 SR SR2 FBB FB2 t0 g0
  go_wp2_with (refine Hold.setB (off := 0) (vs := [.slice a10 (lm.length + 1) c10]) FB3.out rfl rfl rfl rfl rfl (n := 1) (by kernel_rfl) H11.out rfl (by simp) rfl ?_; intro w11 H12)
  refine Stay.go ?_
  have H12 : Hold w0 w11 L (Sep (BlkF g [.slice a10 (lm.length + 1) c10] rolT13) _) := H12
  have H7 := Lib.hid (H12.weak fun F h => (Sep.pull4 h).weakR fun F h => (Sep.rot h).weakR fun F h => (Sep.pull3 h).weakR fun F h => (Sep.pull3 h).weakR fun F h => (Sep.pull2 h).dropL)
  have FF := Lib.hid ((FT.out w.heap.size [.slice xa sh.length xc, .slice ya tg.length yc]).sep ((FX.out sh tg (.slice xa sh.length xc) (.slice ya tg.length yc)).sep ((FT.out (w.heap.size + 1) [.slice none 0 0, .slice none 0 0]).sep ((FG.out [.slice a10 (lm.length + 1) c10]).sep ((FRw.out (.slice a10 (lm.length + 1) c10) (lm.length + 1) (wptrs (lm ++ [m1]))).sep FSL.out)))))
  clear H11 H12 FB3
  have HR8 : Hid (ShR w11 (.slice xa sh.length xc) sh) := Lib.hid (H7.out.see fun F ⟨_, _, _, ⟨_, _, _, ⟨_, _, ⟨_, _, rx, _, _, _⟩, _⟩, _⟩, _⟩ => rx.1)
  have hp8 := (hold_b1 H7.out).lt
  go_wp2_with fail
  rename World => W8
  have B8 := Lib.hid (hold_b1 H7.out)
  have t8 := hold_b1 H7.out.rot
  have KC := Lib.hid (fun (w' : World) (h : Chg (fun _ => False) W8 w') => (have q := B8.out.chg h id; ⟨Blk.at q (k := 1) rfl, Blk.at q (k := 2) rfl, Blk.at q (k := 3) rfl, Blk.at (t8.chg h id) (k := 1) rfl, trivial⟩ : w'.cell? ⟨w2.heap.size, 1, none⟩ = some (.slice xa sh.length xc) ∧ w'.cell? ⟨w2.heap.size, 2, none⟩ = some (.slice xa sh.length xc) ∧ w'.cell? ⟨w2.heap.size, 3, none⟩ = some (.int .i64 now) ∧ w'.cell? ⟨w.heap.size, 1, none⟩ = some (.slice ya tg.length yc) ∧ True))
  clear t8
  have RH := Lib.hid (fun w' (q : Grow.G W8 w') => RG.out xa xc w' (SlOf.later (ShR.sl HR8.out) q))
  refine Evo2.start' (ℓ := some 22) (S := Chg (fun _ => False)) (E := Grow.G) (by kernel_rfl) ⟨Chg.pre _, by decide +kernel, (by intro c a d v w h; cases d <;> exact h), by decide +kernel⟩ (fun ok => ?_)
  refine Evo2.va ok 0 _ _ ?_
  refine Evo2.va ok 1 _ _ ?_
  refine Evo2.va ok 2 _ _ ?_
  refine Evo2.va ok 3 _ _ ?_
  first | (refine Evo2.vl ok 4 KC.out (Chg.refl (fun _ => False) _) _ _ ?_) | (refine Evo2.va ok 4 _ _ ?_)
  refine Evo2.va ok 5 _ _ ?_
  refine Evo2.va ok 6 _ _ ?_
  refine Evo2.va ok 7 _ _ ?_
  first | (refine Evo2.vl ok 8 KC.out (Chg.refl (fun _ => False) _) _ _ ?_) | (refine Evo2.va ok 8 _ _ ?_)
  refine Evo2.va ok 9 _ _ ?_
  refine Evo2.va ok 10 _ _ ?_
  refine Evo2.va ok 11 _ _ ?_
  refine Evo2.va ok 12 _ _ ?_
  first | (refine Evo2.vl ok 13 KC.out (Chg.refl (fun _ => False) _) _ _ ?_) | (refine Evo2.va ok 13 _ _ ?_)
  refine Evo2.va ok 14 _ _ ?_
  refine Evo2.va ok 15 _ _ ?_
  refine Evo2.va ok 17 _ _ ?_
  first | (refine Evo2.vl ok 18 KC.out (Chg.refl (fun _ => False) _) _ _ ?_) | (refine Evo2.va ok 18 _ _ ?_)
  refine Evo2.all [16] (by decide +kernel) rfl ?_
  intro wp1 gp1 iq hq
  simp only [List.mem_cons, List.mem_nil_iff, or_false] at hq
  have AP1 := Chg.trans (Chg.refl (fun _ => False) _) (Chg.grow gp1)
  (try replace RO := Lib.hid (own_later RO.out gp1))
  subst hq
  refine Evo2.enters 34 _ (by rfl) (by rfl) (by go_simp; exact ⟨rfl, rfl⟩) ?_
  refine (RH.out wp1 (Chg.toGrow AP1 (fun _ _ => id))).mono ?_
  rintro e wc1 ⟨u, rfl, ho, hg⟩; obtain ⟨ua, uc, rfl⟩ := own_shape ho; have CH1 := Chg.grow (G := fun _ => False) hg; have RO := Lib.hid (own_base ho gp1.size)
  refine ⟨_, rfl, .inr CH1, ?_⟩
  have AC1 := Chg.trans AP1 CH1
  simp only [Act.put, L0, L1, L2]
  refine Evo2.va ok 19 _ _ ?_
  refine Evo2.va ok 20 _ _ ?_
  refine Evo2.va ok 21 _ _ ?_
  refine Evo2.all [22] (by decide +kernel) rfl ?_
  intro wp2 gp2 iq hq
  simp only [List.mem_cons, List.mem_nil_iff, or_false] at hq
  have AP2 := Chg.trans AC1 (Chg.grow gp2)
  (try replace RO := Lib.hid (own_later RO.out gp2))
  subst hq
  refine upStoreAt (by rfl) (by rfl) rfl rfl rfl (B8.out.chg AP2 id)  (v := .agg #[.slice ua (rollL sh sh 0 wh).length uc, .slice ya tg.length yc]) ⟨by kernel_rfl, by rw [show Try.prog.cellsOf tablT13 = 2 by kernel_rfl]; rfl⟩ (by show 5 + 2 ≤ 7; decide) (by intro u hu; simp [Value.cells] at hu; rcases hu with rfl | rfl <;> rfl) ?_
  intro wc2 BZ CW2
  refine ⟨.inl (by first | rfl | trivial), ?_⟩
  simp only [Act.put, L0, L1, L2]
  refine Evo2.done (by decide +kernel) (fun wz gz => ?_)
  have AZ := AP2
  have BZ : Blk wc2 w2.heap.size [.string s, .slice xa sh.length xc, .slice xa sh.length xc, .int .i64 now, .int .i64 wh, .slice ua (rollL sh sh 0 wh).length uc, .slice ya tg.length yc].toArray wayT13 := BZ
  have H8 := hold_row1 H7.out (FM.out _ _) FF.out (AZ.toGrow (fun _ _ => id)) RO.out (Nat.le_refl _)
  have FGU := Lib.hid ((FU.out (.slice ua (rollL sh sh 0 wh).length uc) (rollL sh sh 0 wh).length ((rollL sh sh 0 wh).flatMap Shr.cells)).sep FF.out)
  have H9 := Lib.hid ((hold_chg1 H8 FGU.out CW2 BZ).grow ((FM.out _ _).sep FGU.out) gz)
  clear AZ H8 BZ CW2 gz RO RH HR8 B8 KC H7
  rename World => W9
  have B9 := hold_b1 H9.out
  have c5 := Blk.at B9 (k := 5) rfl
  have c6 := Blk.at B9 (k := 6) rfl
  have hp9 := B9.lt
  have HR9 : Hid (ShR W9 (.slice ua (rollL sh sh 0 wh).length uc) (rollL sh sh 0 wh) ∧ TgR W9 (.slice ya tg.length yc) tg) := Lib.hid (H9.out.see fun F ⟨_, _, _, ⟨_, _, ru, ⟨_, _, _, ⟨_, _, ⟨_, _, _, ry, _, _⟩, _⟩, _⟩, _⟩, _⟩ => ⟨ru.1, ry.1⟩)
  have CP := Lib.hid (fun w' (q : Grow.G W9 w') => rcopy_any ua (rollL sh sh 0 wh) uc ya tg yc w' ((ShR.src HR9.out.1).grow q) ((TgR.src HR9.out.2).grow q) HRL.out HTL.out)
  clear HR9 B9
  go_wp2_with fail
  refine (CP.out _ (Grow.G.refl _)).mono ?_
  rintro e w5 ⟨va, vb, rfl, hc⟩
  have H10 := hold_tab H9.out (FM.out _ _) FGU.out hc
  obtain ⟨ra, rc, rfl⟩ := own_shape hc.1
  obtain ⟨za, zc, rfl⟩ := own_shape hc.2.1
  have H11 := Lib.hid (H10.map fun F h => Sep.pull5 h)
  have FH := Lib.hid ((FM.out w2.heap.size [.string s, .slice xa sh.length xc, .slice xa sh.length xc, .int .i64 now, .int .i64 wh, .slice ua (rollL sh sh 0 wh).length uc, .slice ya tg.length yc]).sep ((FX.out (rollL sh sh 0 wh) tg (.slice ra (rollL sh sh 0 wh).length rc) (.slice za tg.length zc)).sep ((FU.out (.slice ua (rollL sh sh 0 wh).length uc) (rollL sh sh 0 wh).length ((rollL sh sh 0 wh).flatMap Shr.cells)).sep ((FT.out w.heap.size [.slice xa sh.length xc, .slice ya tg.length yc]).sep ((FX.out sh tg (.slice xa sh.length xc) (.slice ya tg.length yc)).sep ((FG.out [.slice a10 (lm.length + 1) c10]).sep ((FRw.out (.slice a10 (lm.length + 1) c10) (lm.length + 1) (wptrs (lm ++ [m1]))).sep FSL.out)))))))
  clear hc H10 H9 CP c5 c6
  go_wp2_with (refine Hold.setB (off := 0) (vs := [.slice ra (rollL sh sh 0 wh).length rc, .slice za tg.length zc]) FH.out rfl rfl rfl rfl rfl (n := 2) CT H11.out rfl (by simp) rfl ?_; intro w7 H7)
  refine Stay.go ?_
  have H12 := Lib.hid H7
  have BF : Blk w7 (w.heap.size + 1) #[.slice ra (rollL sh sh 0 wh).length rc, .slice za tg.length zc] tablT13 := hold_b1 H7
  clear H7 H11 FH
  go_wp2_with fail
  refine bodyPost_ret (v := .agg #[.slice ra (rollL sh sh 0 wh).length rc, .slice za tg.length zc]) (by simp [results, Try.results19, go_sem, BF.cell]) rfl ?_
  refine ⟨_, _, rfl, ?_⟩
  have H13 := fin_new m1 ⟨newW s sh sh tg now wh, w2.heap.size, .slice xa sh.length xc, .slice xa sh.length xc, .slice ua (rollL sh sh 0 wh).length uc, .slice ya tg.length yc⟩ hm1 H12.out (by intro w F D h; exact rows_new h rfl rfl rfl rfl rfl rfl rfl ⟨rfl, rfl⟩)
  rw [HT.out]
  exact hold_rolclose H13 (by rw [List.map_append]; rfl) (HT.out ▸ HO.out)

/-- A new one. -/
theorem rol_new {w0 w : World} {L : List MBox} {A : Hp} (h : Hold w0 w L A) (hA : Foot A) : Hold w0 (w.alloc (.cells #[.slice none 0 0] rolT13)) L (Sep (RolP w.heap.size []) A) := by
  refine h.beside hA (F₁ := fun k => k = w.heap.size) (Grow.G.alloc (Grow.G.refl _) _) ⟨.slice none 0 0, [], rfl, List.Pairwise.nil, fun k => k = w.heap.size, fun k => False, ⟨Blk.new w _ _, fun k => Iff.rfl⟩, ⟨fun k => False, fun k => False, ⟨⟨rfl, .inl ⟨rfl, rfl⟩⟩, fun k => ⟨False.elim, fun q => by cases q⟩⟩, SepL.nil _, fun k q => q.elim, fun k => by simp⟩, fun k q1 q2 => q2.elim, fun k => by simp⟩ (fun k hk => by have hk : k = w.heap.size := hk; omega)
theorem map_filter13 (lm : List WM) (s : ByteArray) : (lm.filter fun m => !decide (m.x.nm = s)).map WM.x = dropW (lm.map WM.x) s := by
  unfold dropW
  rw [List.filter_map]
  rfl
theorem fin_drop {w w0 : World} {L : List MBox} {g : Nat} {v u : Value} {lm : List WM} {B : Hp} (f : WM → Bool) (h : Hold w0 w L (Sep (BlkF g [u] rolT13) (Sep (RowF 0 wptT13 1 u (lm.filter f).length (wptrs (lm.filter f))) (Sep (RowF 0 wptT13 1 v lm.length (wptrs lm)) (Sep (SepL WmF lm) B))))) : Hold w0 w L (Sep (RolS g u (lm.filter f)) B) :=
  h.weak fun F h => by
    obtain ⟨F2, h2, s2⟩ := h.weakR (C := Sep (RowF 0 wptT13 1 u (lm.filter f).length (wptrs (lm.filter f))) (Sep (SepL WmF (lm.filter f)) B)) fun F h => h.weakR fun F h => by
      obtain ⟨F3, h4, s4⟩ := h.dropL
      obtain ⟨F4, h5, s5⟩ := h4.weakL fun F h => SepL.sub (List.filter_sublist (p := f)) h
      exact ⟨F4, h5, fun k hk => s4 k (s5 k hk)⟩
    exact ⟨F2, Sep.assoc' (h2.under fun F h => Sep.assoc' h), s2⟩
set_option maxHeartbeats 4000000 in
theorem hold_roldrop {w0 w : World} {L : List MBox} {B : Hp} {g : Nat} {l : List Wa} (h : Hold w0 w L (Sep (RolP g l) B)) (hB : Foot B) (s : ByteArray) (hl : l.length ≤ 1000) :
    Calls Try.prog 14 #[pz g, .string s] w fun e w' => e = .returned (.tuple #[]) ∧ Hold w0 w' L (Sep (RolP g (dropW l s)) B) := by
  obtain ⟨v, lm, e1, ok, HS⟩ := hold_rolopen h
  obtain ⟨F, hS⟩ := hold_rolS HS
  have hll0 : lm.length ≤ 1000 := by rw [← e1, List.length_map] at hl; exact hl
  obtain ⟨a, c, rfl⟩ := hS.sl
  have HE := Lib.hid e1
  have HO := Lib.hid (ok.drop s)
  have FB := Lib.hid hB
  have FG : Hid (∀ cs, Foot (BlkF g cs rolT13)) := Lib.hid (fun cs => BlkF.foot _ _ _)
  have FRw : Hid (∀ v n xs, Foot (RowF 0 wptT13 1 v n xs)) := Lib.hid (fun v n xs => RowF.foot _ _ _ _ _ _)
  have FSL : Hid (Foot (Sep (SepL WmF lm) B)) := Lib.hid ((SepL.foot WmF.foot lm).sep hB)
  obtain ⟨f, hf⟩ : ∃ f : WM → Bool, f = fun m => !decide (m.x.nm = s) := ⟨_, rfl⟩
  have hnil : ∀ w, RowF 0 wptT13 1 (.slice none 0 0) 0 [] w (fun _ => False) := fun w => ⟨⟨rfl, .inl ⟨rfl, rfl⟩⟩, fun k => ⟨False.elim, fun q => by cases q⟩⟩
  have H0 : Hold w0 w L (Sep (BlkF g [.slice a lm.length c] rolT13) (Sep (RowF 0 wptT13 1 (.slice a lm.length c) lm.length (wptrs lm)) (Sep (SepL WmF lm) B))) := HS.map fun F h => (Sep.assoc h).under fun F h => Sep.assoc h
  have H : Hid (Hold w0 w L (Sep (BlkF g [.slice a lm.length c] rolT13) (Sep (RowF 0 wptT13 1 (.slice none 0 0) ([] : List WM).length (wptrs [])) (Sep (RowF 0 wptT13 1 (.slice a lm.length c) lm.length (wptrs lm)) (Sep (SepL WmF lm) B))))) := Lib.hid (H0.beside2 (FG.out _) ((FRw.out _ _ _).sep FSL.out) (Grow.G.refl _) (hnil w) (fun k hk => hk.elim))
  have HF : Hid (∀ k m, lm[k]? = some m → (lm.take (k + 1)).filter f = (lm.take k).filter f ++ if f m = true then [m] else []) := Lib.hid (fun k m hm => by
    rw [List.take_add_one, hm, List.filter_append]
    congr 1
    show List.filter _ [m] = _
    rw [List.filter_cons, List.filter_nil])
  have HF2 : Hid (∀ m, f m = !decide (m.x.nm = s)) := Lib.hid (fun m => by rw [hf])
  clear h hS HS H0 e1 ok hnil hf
  go_enter Try.func14, Try.ntmps14
  go_wp2_with fail
  go_loopw [4, 5] (fun u i wr => ∃ (k : Nat) (a2 : Option Addr) (c2 : Nat), k ≤ lm.length ∧ u = .slice a2 ((lm.take k).filter f).length c2 ∧ i = .int .i64 k ∧ Hid (Hold w0 wr L (Sep (BlkF g [.slice a lm.length c] rolT13) (Sep (RowF 0 wptT13 1 (.slice a2 ((lm.take k).filter f).length c2) ((lm.take k).filter f).length (wptrs ((lm.take k).filter f))) (Sep (RowF 0 wptT13 1 (.slice a lm.length c) lm.length (wptrs lm)) (Sep (SepL WmF lm) B)))))) (fun _ i _ => lm.length - (_root_.Go.RowKit.intOf i).toNat)
  case atStart => exact ⟨0, none, 0, by omega, rfl, rfl, H⟩
  case round =>
    clear H
    obtain ⟨k, a2, c2, hk, rfl, rfl, H⟩ := hrel
    obtain ⟨F2, hS⟩ := hold_rolS (H.out.map fun F h => Sep.assoc' (h.under fun F h => Sep.assoc' (Sep.push2 h)))
    have cg : wr.cell? ⟨g, 0, none⟩ = some (.slice a lm.length c) := (hS.hb.cell 0).trans rfl
    have hgl := hS.hb.lt
    by_cases hlt : k < lm.length
    · obtain ⟨m, hm⟩ : ∃ m, lm[k]? = some m := ⟨_, List.getElem?_eq_getElem hlt⟩
      obtain ⟨q, c', e, cr, hql⟩ := hS.at hm
      cases e
      have hB2 := (hS.ob hm).hb
      have cb : wr.cell? ⟨m.p, 0, none⟩ = some (.string m.x.nm) := (hB2.cell 0).trans rfl
      have hbl := hB2.lt
      have d0 : decide ((k : Int) < (lm.length : Int)) = true := decide_eq_true (by omega)
      have hk1 : IntKind.i64.wrap ((k : Int) + 1) = (k : Int) + 1 := IntWalk.i64_in _ ⟨by omega, by omega⟩
      have k1 : (0 : Int) ≤ (k : Int) := by omega
      have k2 : (k : Int) < (lm.length : Int) := by omega
      have hll : ((lm.take k).filter f).length ≤ lm.length := Nat.le_trans (List.length_filter_le _ _) (by rw [List.length_take]; omega)
      have hsn := HF.out k m hm
      by_cases e : m.x.nm = s
      · have d1 : (m.x.nm.toList == s.toList) = true := eqS_iff.2 e
        have HN : Hid ((lm.take (k + 1)).filter f = (lm.take k).filter f) := Lib.hid (by rw [hsn, if_neg (by rw [HF2.out, decide_eq_true e]; decide), List.append_nil])
        clear hm hB2 hS hsn e
        go_wp2_with fail
        go_roundw
        case rel => exact ⟨k + 1, a2, c2, by omega, by rw [HN.out], by go_num, by rw [HN.out]; exact H⟩
        case measure => simp [_root_.Go.RowKit.intOf]; omega
      · have d1 : (m.x.nm.toList == s.toList) = false := neS_iff.2 e
        have HN : Hid ((lm.take (k + 1)).filter f = (lm.take k).filter f ++ [m]) := Lib.hid (by rw [hsn, if_pos (by rw [HF2.out, decide_eq_false e]; rfl)])
        obtain ⟨ls, hls⟩ : ∃ ls, (lm.take k).filter f = ls := ⟨_, rfl⟩
        rw [hls] at H HN hll ⊢
        have HA := Lib.hid (H.out.grow ((FG.out _).sep ((FRw.out _ _ _).sep ((FRw.out _ _ _).sep FSL.out))) (Grow.G.alloc (Grow.G.refl _) (.cells #[pz m.p] wptT13)))
        have SR := Lib.hid (blk_srcP (Blk.new wr #[pz m.p] wptT13))
        have FZ := Lib.hid ((FRw.out (.slice (some ⟨q, 0, none⟩) lm.length c) lm.length (wptrs lm)).sep FSL.out)
        clear hm hB2 hS hsn e hls
        go_wp2_with (refine wpList_appW (m := m) rfl (.tmp 27) (.tmp 35) rfl HA.out (FG.out _) FZ.out rfl rfl SR.out (by omega) ?_; intro a10 c10 w10 H10)
        refine Stay.go ?_
        have H11 := Lib.hid H10
        clear H10 HA SR FZ
        go_wp2_with fail
        go_roundw
        case rel => exact ⟨k + 1, a10, c10, by omega, by rw [HN.out, List.length_append, List.length_singleton], by go_num, by rw [HN.out, List.length_append, List.length_singleton]; exact H11⟩
        case measure => simp [_root_.Go.RowKit.intOf]; omega
    · obtain rfl : k = lm.length := by omega
      have d0 : decide ((lm.length : Int) < (lm.length : Int)) = false := decide_eq_false (by omega)
      rw [List.take_length] at H ⊢
      obtain ⟨n, hn⟩ : ∃ n, (lm.filter f).length = n := ⟨_, rfl⟩
      have HN := Lib.hid hn
      rw [hn] at H ⊢
      have FZ := Lib.hid ((FRw.out (.slice a2 n c2) n (wptrs (lm.filter f))).sep ((FRw.out (.slice a lm.length c) lm.length (wptrs lm)).sep FSL.out))
      clear hS hn hlt
      go_wp2_with (refine Hold.setB (off := 0) (vs := [.slice a2 n c2]) FZ.out rfl rfl rfl rfl rfl (n := 1) (by kernel_rfl) H.out rfl (by simp) rfl ?_; intro w11 H12)
      refine Stay.go ?_
      have H13 : Hid (Hold w0 w11 L (Sep (BlkF g [.slice a2 n c2] rolT13) _)) := Lib.hid H12
      clear H12 H FZ
      go_wp2_with fail
      go_end0
      have H14 := H13.out
      rw [← HN.out] at H14
      refine ⟨rfl, hold_rolclose (fin_drop f H14) ?_ HO.out⟩
      have e : f = fun m => !decide (m.x.nm = s) := funext HF2.out
      rw [e, map_filter13, HE.out]
end Go.Proofs.Ytjhfjjkfnmnkgaa

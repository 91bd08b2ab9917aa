
/- The walk of LeadTags. -/
import Derived.Test.YtjhfjjkfnmnkgaaZ98L
namespace Go.Proofs.Ytjhfjjkfnmnkgaa
set_option maxRecDepth 100000
set_option linter.unusedVariables false
set_option linter.unusedSimpArgs false
set_option linter.unnecessarySimpa false
open Go.RowKit Go.Args

set_option maxHeartbeats 64000000 in
theorem walkLeadTags (w : World) (v0 : Value) (zs0 : List Int) (hz0 : IntSlice w v0 zs0) (v1 : Value) (zs1 : List Int) (hz1 : IntSlice w v1 zs1) (v2 : Value) (zs2 : List Int) (hz2 : IntSlice w v2 zs2) (v3 : Value) (zs3 : List Int) (hz3 : IntSlice w v3 zs3) (ta : Int) (hta : wf64 ta) :
    Calls Try.prog 7 #[v0, v1, v2, v3, .int .i64 ta] w fun e w' => e = .returned (.bool true) ∧ Below w.heap.size w w' := by
  have FE := Lib.hid Emp.foot
  have FP := Lib.hid (fun g l nw c => PlP.foot g l nw c)
  have FR := Lib.hid (fun g l => RolP.foot g l)
  have FT := Lib.hid (fun sh tg va vb => TabF.foot sh tg va vb)
  have KN := Lib.hid (known13_any w)
  have HZ0 := Lib.hid hz0
  have HZ1 := Lib.hid hz1
  obtain ⟨x, hx⟩ : ∃ x, mkS zs0 = x := ⟨_, rfl⟩
  obtain ⟨y, hy⟩ : ∃ y, mkS zs1 = y := ⟨_, rfl⟩
  have HZ2 := Lib.hid hz2
  have HZ3 := Lib.hid hz3
  obtain ⟨tx, htx⟩ : ∃ t, mkT zs2 = t := ⟨_, rfl⟩
  obtain ⟨ty, hty⟩ : ∃ t, mkT zs3 = t := ⟨_, rfl⟩
  have MX := Lib.hid (show MkT x tx from hx ▸ htx ▸ mk_tab zs0 zs2)
  have MY := Lib.hid (show MkT y ty from hy ▸ hty ▸ mk_tab zs1 zs3)
  have HTX := Lib.hid htx
  have HTY := Lib.hid hty
  have ltx : tx.length ≤ 4 := htx ▸ mkT_len zs2
  have lty : ty.length ≤ 4 := hty ▸ mkT_len zs3
  clear hz2 hz3 htx hty
  have HXX := Lib.hid hx
  have HYY := Lib.hid hy
  have lx := MX.out.sd.len
  have ly := MY.out.sd.len
  clear hx hy hz0 hz1
  have WT := Lib.hid (fun w => within13_any ta 50 w (by omega) (by omega) hta.1 hta.2)
  have rT := withinI_range ta 50 (by omega)
  obtain ⟨T, hT⟩ : ∃ T, withinI ta 50 = T := ⟨_, rfl⟩
  rw [hT] at WT rT
  obtain ⟨l1, e1⟩ : ∃ l, turnW [] fr13 x tx 0 50 = l := ⟨_, rfl⟩
  have f1 : findW l1 fr13 = some ⟨fr13, x, x, 0, 50, x, tx⟩ := by rw [← e1, findW_turn, show findW [] fr13 = none from rfl, stepW_none MX.out.sd]
  have i1 : WInv l1 1 := e1 ▸ WInv.nil.turn MX.out.sd MX.out.tl MX.out.zt (by omega)
  have s1 : (stepW (findW [] fr13) fr13 x tx 0 50).sh = x := by rw [show findW [] fr13 = none from rfl, stepW_none MX.out.sd]
  obtain ⟨l2, e2⟩ : ∃ l, turnW l1 fr13 y ty T 50 = l := ⟨_, rfl⟩
  have s2 : (stepW (findW l1 fr13) fr13 y ty T 50).sh = x := by rw [f1]; exact stepW_later MX.out.sd MY.out.sd (by omega) rT.1 rfl
  have i2 : WInv l2 2 := e2 ▸ i1.turn MY.out.sd MY.out.tl MY.out.zt (by omega)
  obtain ⟨st, hst⟩ : ∃ st, stepW (findW l1 fr13) fr13 y ty T 50 = st := ⟨_, rfl⟩
  have f2 : findW l2 fr13 = some st := by rw [← e2, findW_turn, hst]
  have t2 : st.tg = ty := by rw [← hst, stepW_tg]
  have t1 : st.sh = x := by rw [← hst, s2]
  have WTG := Lib.hid (fun w => quiet13 (WT.out w))
  have HL := Lib.hid (And.intro (And.intro e1 s1) (And.intro (And.intro e2 s2) (And.intro f2 (And.intro t1 t2))))
  have HI := Lib.hid (And.intro i1 i2)
  clear e1 f1 i1 s1 e2 s2 i2 hst f2 t2 t1 hT hta
  go_enter Try.func7, Try.ntmps7
  go_wp2_with fail
  refine KN.out.mono ?_
  rintro e w1 ⟨rfl, hg⟩
  have H := Lib.hid ((Hold.nil w).grow Emp.foot hg)
  clear hg KN
  go_wp2_with fail
  refine (hold_plnew H.out FE.out).mono ?_
  rintro e w2 ⟨g, rfl, hh⟩
  replace H := Lib.hid hh
  clear hh
  go_wp2_with fail
  skip
  refine (at_make H.out (FP.out _ _ _ _) FE.out HZ0.out HZ2.out HXX.out HTX.out).mono ?_
  rintro e w3 ⟨xa, xc, xb, xd, rfl, hh⟩
  replace H := Lib.hid hh
  clear hh 
  go_wp2_with fail
  refine (at_make H.out (FP.out _ _ _ _) ((FT.out _ _ _ _).sep FE.out) HZ1.out HZ3.out HYY.out HTY.out).mono ?_
  rintro e w4 ⟨ya, yc, yb, yd, rfl, hh⟩
  obtain ⟨w5, hw5⟩ : ∃ w5, w5 = (w4.alloc (.cells #[.slice xa x.length xc, .slice xb tx.length xd] tablT13)).alloc (.cells #[.slice ya y.length yc, .slice yb ty.length yd] tablT13) := ⟨_, rfl⟩
  obtain ⟨B, hB⟩ : ∃ B, B = Sep (TabS y ty ya yc yb yd) (Sep (TabS x tx xa xc xb xd) Emp) := ⟨_, rfl⟩
  have FB : Hid (Foot B) := Lib.hid (by rw [hB]; exact (FT.out _ _ _ _).sep ((FT.out _ _ _ _).sep FE.out))
  have RB : Hid (∀ (w' : World) L A, Hold w w' L (Sep A B) → (ShSl w' xa x ∧ TgSl w' xb (tx : List Tgo)) ∧ (ShSl w' ya y ∧ TgSl w' yb (ty : List Tgo))) := Lib.hid (fun w' L A h => by rw [hB] at h; exact ⟨hold_rows3 h, hold_rows2 h⟩)
  rw [← hB] at hh
  have H : Hid (Hold w w5 [(w4.heap.size, [.slice xa x.length xc, .slice xb tx.length xd], tablT13), (w4.heap.size + 1, [.slice ya y.length yc, .slice yb ty.length yd], tablT13)] (Sep (PlP g [] 0 0) B)) := Lib.hid (by rw [hw5]; exact (hh.alloc' ((FP.out _ _ _ _).sep FB.out) _ _ rfl).alloc' ((FP.out _ _ _ _).sep FB.out) _ _ (g := w4.heap.size + 1) (by simp))
  clear hh hB HZ0 HZ1 HXX HYY HZ2 HZ3 HTX HTY
  have z0a := H.out.mem.cell (i := 0) (o := 0) rfl rfl
  have z0b := H.out.mem.cell (i := 0) (o := 1) rfl rfl
  have z0l := H.out.mem.lt (i := 0) rfl
  go_wp2_with fail
  rw [← hw5]
  clear hw5
  refine (at_turn H.out FB.out fr13 (by decide) xa x xc xb tx xd 0 50 (by omega) WInv.nil MX.out (RB.out _ _ _ H.out).1 (by omega) (by omega) (by omega) HL.out.1.1 HL.out.1.2).mono ?_
  rintro e w6 ⟨ra, rk, rb, rd, rfl, hh⟩
  clear z0a z0b z0l
  replace H := Lib.hid (hold_drop2 hh)
  clear hh
  obtain ⟨F, hF⟩ := H.out.named
  have HF := Lib.hid hF
  have FS := Lib.hid (fun l nw c => (FP.out g l nw c).sep FB.out)
  have FS2 := Lib.hid (fun l nw c ua uk ub ud => (FP.out g l nw c).sep ((FT.out x ty (.slice ua x.length uk) (.slice ub ty.length ud)).sep FB.out))
  have KC := Lib.hid (fun (w' : World) (h : Chg (fun j => F j ∨ w6.heap.size ≤ j) w6 w') => (⟨keepc HF.out h (i := 1) (o := 0) rfl rfl, keepc HF.out h (i := 1) (o := 1) rfl rfl, trivial⟩ : w'.cell? ⟨w4.heap.size + 1, 0, none⟩ = some (.slice ya y.length yc) ∧ w'.cell? ⟨w4.heap.size + 1, 1, none⟩ = some (.slice yb ty.length yd) ∧ True))
  have S1 := Lib.hid (fun (w' : World) L F (h : HoldF w w' L (Sep (PlP g l1 0 1) B) F) => at_turnF h FB.out fr13 (by decide) ya y yc yb ty yd T 50 (by omega) HI.out.1 MY.out (RB.out _ _ _ h.hold).2 (by omega) (by omega) (by omega) HL.out.2.1.1 HL.out.2.1.2)
  have HG := HF
  clear hF H
  go_wp2_with fail
  refine wp_spec (fun a0 A W => ∃ x32 x33 x34 x35 x36 : Value, ∃ (bt : Nat) (ua : Option Addr) (uk : Nat) (ub : Option Addr) (ud : Nat), A = ((((((a0.put (some 14) (pz bt)).put (some 32) x32).put (some 33) x33).put (some 34) x34).put (some 35) x35).put (some 36) x36) ∧ Hid (Hold w W [(w4.heap.size, [.slice xa x.length xc, .slice xb tx.length xd], tablT13), (w4.heap.size + 1, [.slice ya y.length yc, .slice yb ty.length yd], tablT13), (bt, [.slice ua x.length uk, .slice ub ty.length ud], tablT13)] (Sep (PlP g l2 T (1 + 1)) (Sep (TabS x ty ua uk ub ud) B)))) ?_ ?_
  all_goals simp only [Act.put, L0, L1, L2]
  ·
    refine Evo2.start' (ℓ := some 6) (S := Chg (fun j => F j ∨ w6.heap.size ≤ j)) (E := Grow.G) (by kernel_rfl) ⟨Chg.pre _, by decide +kernel, (by intro c a d v w h; cases d <;> exact h), by decide +kernel⟩ (fun ok => ?_)
    refine Evo2.va ok 0 _ _ ?_
    first | (refine Evo2.vl ok 1 KC.out (Chg.refl (fun j => F j ∨ w6.heap.size ≤ j) _) _ _ ?_) | (refine Evo2.va ok 1 _ _ ?_)
    refine Evo2.va ok 2 _ _ ?_
    (refine Evo2.cal ok 3 ?_ 12 ?_ ?_ ?_ ?_; rotate_left 2; (focus (intro w'; go_simp <;> with_reducible rfl)); (focus (intro w' g'; with_reducible exact WTG.out w')); simp only [Act.put, L0, L1, L2])
    refine Evo2.all [4, 5] (by decide +kernel) rfl ?_
    intro wp1 gp1 iq hq
    simp only [List.mem_cons, List.mem_nil_iff, or_false] at hq
    have AP1 := Chg.trans (Chg.refl (fun j => F j ∨ w6.heap.size ≤ j) _) (Chg.grow gp1)
    (try replace HF1 := Lib.hid (HF1.out.grow (FS2.out _ _ _ _ _ _ _) gp1))
    (try replace HG := Lib.hid (HG.out.grow (FS.out _ _ _) gp1))
    rcases hq with rfl | rfl
    ·
      refine Evo2.enters 17 _ (by rfl) (by rfl) (by go_simp; exact ⟨rfl, rfl⟩) ?_
      refine (S1.out wp1 _ F HG.out).mono ?_
      rintro e wc1 ⟨ua, uk, ub, ud, rfl, F1, HF1, c1, fr1⟩; have CH1 : Chg (fun j => F j ∨ w6.heap.size ≤ j) _ _ := c1.mono (fun j _ h => .inl h); have HF1 := Lib.hid HF1; clear HG
      refine ⟨_, rfl, .inr CH1, ?_⟩
      have AC1 := Chg.trans AP1 CH1
      simp only [Act.put, L0, L1, L2]
      refine Evo2.all [5] (by decide +kernel) rfl ?_
      intro wp2 gp2 iq hq
      simp only [List.mem_cons, List.mem_nil_iff, or_false] at hq
      have AP2 := Chg.trans AC1 (Chg.grow gp2)
      (try replace HF1 := Lib.hid (HF1.out.grow (FS2.out _ _ _ _ _ _ _) gp2))
      (try replace HG := Lib.hid (HG.out.grow (FS.out _ _ _) gp2))
      subst hq
      refine Evo2.runs (by rfl) (by rfl) (fun K' hK' => ?_)
      (try obtain ⟨q1, q2⟩ := KC.out wp2 AP2)
      go_simp
      (try (simp only [Evo.after_value, Evo.after_skip]))
      refine hK'.out _ _ ?_
      clear hK'
      simp only [Act.put, L0, L1, L2]
      (try clear q1 q2)
      refine ⟨.inr (Chg.alloc (Chg.refl _ _) _), ?_⟩
      generalize hG2 : World.alloc wp2 _ = wg2
      have GG2 : Grow.G wp2 wg2 := hG2 ▸ Grow.G.alloc (Grow.G.refl _) _
      have NC2 := (congrArg (fun W : World => W.heap[wp2.heap.size]?) hG2).symm.trans (MapKept.heap_alloc wp2 _).1
      have NL2 : wp2.heap.size < wg2.heap.size := by rw [← hG2]; simp
      clear hG2
      (first | (replace HF1 := Lib.hid (addF HF1.out (FS2.out _ _ _ _ _ _ _) GG2 (b := wp2.heap.size) (cs := [.slice none 0 0, .slice none 0 0]) (T := tablT13) NC2 (Nat.le_refl _))) | (replace HG := Lib.hid (addF HG.out (FS.out _ _ _) GG2 (b := wp2.heap.size) (cs := [.slice none 0 0, .slice none 0 0]) (T := tablT13) NC2 (Nat.le_refl _)))); have NB := Lib.hid (show w6.heap.size ≤ wp2.heap.size from AP2.size)
      refine Evo2.all [6] (by decide +kernel) rfl ?_
      intro wp3 gp3 iq hq
      simp only [List.mem_cons, List.mem_nil_iff, or_false] at hq
      have AP3 := Chg.trans (Chg.trans AP2 (Chg.grow GG2)) (Chg.grow gp3)
      (try replace HF1 := Lib.hid (HF1.out.grow (FS2.out _ _ _ _ _ _ _) gp3))
      (try replace HG := Lib.hid (HG.out.grow (FS.out _ _ _) gp3))
      have NC2 := (gp3.block _ NL2).trans NC2
      have NL2 := Nat.lt_of_lt_of_le NL2 gp3.size
      subst hq
      refine upStoreAll (by rfl) (by rfl) rfl rfl rfl (n := 2) (by kernel_rfl) (HF1.out.mem.blk (i := 2) rfl) rfl rfl rfl ?_
      intro wc3 BZ CW3
      have CH3 : Chg (fun j => F j ∨ w6.heap.size ≤ j) _ _ := CW3.mono (fun j _ e => .inr (by have e : j = _ := e; rw [e]; exact NB.out))
      have HA := Lib.hid (HF1.out.hold.set (FS2.out _ _ _ _ _ _ _) (i := 2) rfl BZ CW3); simp only [List.nil_append, List.cons_append, List.set_cons_zero, List.set_cons_succ] at HA
      refine ⟨.inl (by first | rfl | trivial), ?_⟩
      simp only [Act.put, L0, L1, L2]
      refine Evo2.done (by decide +kernel) (fun wz gz => ?_)
      have AZ := Chg.trans (Chg.trans AP3 CH3) (Chg.grow gz)
      (try replace HF1 := Lib.hid (HF1.out.grow (FS2.out _ _ _ _ _ _ _) gz))
      (try replace HG := Lib.hid (HG.out.grow (FS.out _ _ _) gz))
      have HA := Lib.hid (HA.out.grow (FS2.out _ _ _ _ _ _ _) gz) 
      dsimp only [PostN] 
      (repeat apply Exists.intro) 
      exact ⟨rfl, HA⟩
    ·
      refine Evo2.runs (by rfl) (by rfl) (fun K' hK' => ?_)
      (try obtain ⟨q1, q2⟩ := KC.out wp1 AP1)
      go_simp
      (try (simp only [Evo.after_value, Evo.after_skip]))
      refine hK'.out _ _ ?_
      clear hK'
      simp only [Act.put, L0, L1, L2]
      (try clear q1 q2)
      refine ⟨.inr (Chg.alloc (Chg.refl _ _) _), ?_⟩
      generalize hG1 : World.alloc wp1 _ = wg1
      have GG1 : Grow.G wp1 wg1 := hG1 ▸ Grow.G.alloc (Grow.G.refl _) _
      have NC1 := (congrArg (fun W : World => W.heap[wp1.heap.size]?) hG1).symm.trans (MapKept.heap_alloc wp1 _).1
      have NL1 : wp1.heap.size < wg1.heap.size := by rw [← hG1]; simp
      clear hG1
      (first | (replace HF1 := Lib.hid (addF HF1.out (FS2.out _ _ _ _ _ _ _) GG1 (b := wp1.heap.size) (cs := [.slice none 0 0, .slice none 0 0]) (T := tablT13) NC1 (Nat.le_refl _))) | (replace HG := Lib.hid (addF HG.out (FS.out _ _ _) GG1 (b := wp1.heap.size) (cs := [.slice none 0 0, .slice none 0 0]) (T := tablT13) NC1 (Nat.le_refl _)))); have NB := Lib.hid (show w6.heap.size ≤ wp1.heap.size from AP1.size)
      refine Evo2.all [4] (by decide +kernel) rfl ?_
      intro wp2 gp2 iq hq
      simp only [List.mem_cons, List.mem_nil_iff, or_false] at hq
      have AP2 := Chg.trans (Chg.trans AP1 (Chg.grow GG1)) (Chg.grow gp2)
      (try replace HF1 := Lib.hid (HF1.out.grow (FS2.out _ _ _ _ _ _ _) gp2))
      (try replace HG := Lib.hid (HG.out.grow (FS.out _ _ _) gp2))
      have NC1 := (gp2.block _ NL1).trans NC1
      have NL1 := Nat.lt_of_lt_of_le NL1 gp2.size
      subst hq
      refine Evo2.enters 17 _ (by rfl) (by rfl) (by go_simp; exact ⟨rfl, rfl⟩) ?_
      refine (S1.out wp2 _ F HG.out).mono ?_
      rintro e wc2 ⟨ua, uk, ub, ud, rfl, F1, HF1, c2, fr2⟩; have CH2 : Chg (fun j => F j ∨ w6.heap.size ≤ j) _ _ := c2.mono (fun j _ h => .inl h); have HF1 := Lib.hid HF1; clear HG
      refine ⟨_, rfl, .inr CH2, ?_⟩
      have AC2 := Chg.trans AP2 CH2
      simp only [Act.put, L0, L1, L2]
      refine Evo2.all [6] (by decide +kernel) rfl ?_
      intro wp3 gp3 iq hq
      simp only [List.mem_cons, List.mem_nil_iff, or_false] at hq
      have AP3 := Chg.trans AC2 (Chg.grow gp3)
      (try replace HF1 := Lib.hid (HF1.out.grow (FS2.out _ _ _ _ _ _ _) gp3))
      (try replace HG := Lib.hid (HG.out.grow (FS.out _ _ _) gp3))
      subst hq
      refine upStoreAll (by rfl) (by rfl) rfl rfl rfl (n := 2) (by kernel_rfl) (HF1.out.mem.blk (i := 2) rfl) rfl rfl rfl ?_
      intro wc3 BZ CW3
      have CH3 : Chg (fun j => F j ∨ w6.heap.size ≤ j) _ _ := CW3.mono (fun j _ e => .inr (by have e : j = _ := e; rw [e]; exact NB.out))
      have HA := Lib.hid (HF1.out.hold.set (FS2.out _ _ _ _ _ _ _) (i := 2) rfl BZ CW3); simp only [List.nil_append, List.cons_append, List.set_cons_zero, List.set_cons_succ] at HA
      refine ⟨.inl (by first | rfl | trivial), ?_⟩
      simp only [Act.put, L0, L1, L2]
      refine Evo2.done (by decide +kernel) (fun wz gz => ?_)
      have AZ := Chg.trans (Chg.trans AP3 CH3) (Chg.grow gz)
      (try replace HF1 := Lib.hid (HF1.out.grow (FS2.out _ _ _ _ _ _ _) gz))
      (try replace HG := Lib.hid (HG.out.grow (FS.out _ _ _) gz))
      have HA := Lib.hid (HA.out.grow (FS2.out _ _ _ _ _ _ _) gz) 
      dsimp only [PostN] 
      (repeat apply Exists.intro) 
      exact ⟨rfl, HA⟩
  ·
    rintro A w8 ⟨x32, x33, x34, x35, x36, bt, ua, uk, ub, ud, rfl, H8⟩
    clear HF KC S1
    have FB2 := Lib.hid ((FT.out x ty (.slice ua x.length uk) (.slice ub ty.length ud)).sep FB.out)
    go_wp2_with fail
    refine (at_table H8.out FB2.out fr13 (by decide) HI.out.2 HL.out.2.2.1 HL.out.2.2.2.1 HL.out.2.2.2.2).mono ?_
    rintro e w9 ⟨va, vk, vb, vd, rfl, hh⟩
    clear H8
    have H := Lib.hid hh
    have z1a := H.out.mem.cell (i := 1) (o := 0) rfl rfl
    have z1b := H.out.mem.cell (i := 1) (o := 1) rfl rfl
    have z1l := H.out.mem.lt (i := 1) rfl
    have z2a := H.out.mem.cell (i := 2) (o := 0) rfl rfl
    have z2b := H.out.mem.cell (i := 2) (o := 1) rfl rfl
    have z2l := H.out.mem.lt (i := 2) rfl
    have FA := Lib.hid ((FP.out g l2 T 2).sep ((FT.out x ty (.slice va x.length vk) (.slice vb ty.length vd)).sep FB2.out))
    have HA := Lib.hid (hh.alloc' FA.out [.slice va x.length vk, .slice vb ty.length vd] tablT13 rfl)
    have SM := Lib.hid (same_true _ (c := uk) (d := ud) (c2 := vk) (d2 := vd) (hold_rows3 HA.out) (hold_rows2 HA.out) (by omega) (by omega))
    clear hh
    go_wp2_with fail
    refine SM.out.mono ?_
    rintro e w10 ⟨rfl, hg⟩
    replace H : Hid (Hold w w10 [(w4.heap.size, [.slice xa x.length xc, .slice xb tx.length xd], tablT13), (w4.heap.size + 1, [.slice ya y.length yc, .slice yb ty.length yd], tablT13), (bt, [.slice ua x.length uk, .slice ub ty.length ud], tablT13), (w9.heap.size, [.slice va x.length vk, .slice vb ty.length vd], tablT13)] (Sep (PlP g l2 T 2) (Sep (TabS x ty va vk vb vd) (Sep (TabS x ty ua uk ub ud) B)))) := Lib.hid (HA.out.grow FA.out hg)
    clear HA SM hg z1a z1b z1l z2a z2b z2l
    go_wp2_with fail
    go_loopw [17] (fun iv wr => ∃ (k : Nat), k ≤ ty.length ∧ iv = .int .i64 (k : Int) ∧ Hid (Hold w wr [(w4.heap.size, [.slice xa x.length xc, .slice xb tx.length xd], tablT13), (w4.heap.size + 1, [.slice ya y.length yc, .slice yb ty.length yd], tablT13), (bt, [.slice ua x.length uk, .slice ub ty.length ud], tablT13), (w9.heap.size, [.slice va x.length vk, .slice vb ty.length vd], tablT13)] (Sep (PlP g l2 T 2) (Sep (TabS x ty va vk vb vd) (Sep (TabS x ty ua uk ub ud) B))))) (fun iv _ => ty.length - (_root_.Go.RowKit.intOf iv).toNat)
    case atStart => exact ⟨0, by omega, rfl, H⟩
    case round =>
      clear H
      obtain ⟨k, hk, rfl, H⟩ := hrel
      have hk1 : IntKind.i64.wrap ((k : Int) + 1) = (k : Int) + 1 := IntWalk.i64_in _ ⟨by omega, by omega⟩
      have z0a := H.out.mem.cell (i := 0) (o := 0) rfl rfl
      have z0b := H.out.mem.cell (i := 0) (o := 1) rfl rfl
      have z0l := H.out.mem.lt (i := 0) rfl
      have z1a := H.out.mem.cell (i := 1) (o := 0) rfl rfl
      have z1b := H.out.mem.cell (i := 1) (o := 1) rfl rfl
      have z1l := H.out.mem.lt (i := 1) rfl
      have z2a := H.out.mem.cell (i := 2) (o := 0) rfl rfl
      have z2b := H.out.mem.cell (i := 2) (o := 1) rfl rfl
      have z2l := H.out.mem.lt (i := 2) rfl
      have hR := hold_rows3 H.out
      have hRB := RB.out _ _ _ (H.out.map fun F h => Sep.assoc' (Sep.assoc' h))
      by_cases hlt : k < ty.length
      · obtain ⟨s, hs⟩ : ∃ s, ty[k]? = some s := ⟨_, List.getElem?_eq_getElem hlt⟩
        obtain ⟨b1, o1, rfl, hc1⟩ := hR.2.spot hlt
        obtain ⟨b2, o2, rfl, hc2⟩ := hRB.2.2.spot hlt
        have c0 := hc1 k s hs 0 _ rfl
        have c1 := hc1 k s hs 1 _ rfl
        have c2 := hc2 k s hs 0 _ rfl
        have c3 := hc2 k s hs 1 _ rfl
        rw [Nat.add_zero] at c0 c2
        have d1 : decide ((k : Int) < (ty.length : Int)) = true := decide_eq_true (by omega)
        have k1 : (0 : Int) ≤ (k : Int) := by omega
        have k2 : (k : Int) < (ty.length : Int) := by omega
        obtain ⟨m0, m1⟩ := s
        dsimp only at c0 c1 c2 c3
        have KC := Lib.hid (fun (w' : World) (h : Chg (fun _ => False) wr w') => (⟨h.cell c0 id, h.cell c1 id, h.cell c2 id, h.cell c3 id, h.cell z2b id, h.cell z1b id, trivial⟩ : w'.cell? ⟨b1, o1 + k * 2, none⟩ = some (.string m0) ∧ w'.cell? ⟨b1, o1 + k * 2 + 1, none⟩ = some (.string m1) ∧ w'.cell? ⟨b2, o2 + k * 2, none⟩ = some (.string m0) ∧ w'.cell? ⟨b2, o2 + k * 2 + 1, none⟩ = some (.string m1) ∧ w'.cell? ⟨bt, 1, none⟩ = some (.slice (some ⟨b1, o1, none⟩) ty.length ud) ∧ w'.cell? ⟨w4.heap.size + 1, 1, none⟩ = some (.slice (some ⟨b2, o2, none⟩) ty.length yd) ∧ True))
        clear hc1 hc2 hs hR hRB c0 c1 c2 c3
        go_wp2_with fail
        refine Evo2.start' (ℓ := none) (S := Chg (fun _ => False)) (E := Grow.G) (by kernel_rfl) ⟨Chg.pre _, by decide +kernel, (by intro c a d v w h; cases d <;> exact h), by decide +kernel⟩ (fun ok => ?_)
        refine Evo2.va ok 0 _ _ ?_
        first | (refine Evo2.vl ok 1 KC.out (Chg.refl (fun _ => False) _) _ _ ?_) | (refine Evo2.va ok 1 _ _ ?_)
        refine Evo2.va ok 2 _ _ ?_
        refine Evo2.va ok 3 _ _ ?_
        first | (refine Evo2.vl ok 4 KC.out (Chg.refl (fun _ => False) _) _ _ ?_) | (refine Evo2.va ok 4 _ _ ?_)
        refine Evo2.va ok 5 _ _ ?_
        first | (refine Evo2.vl ok 6 KC.out (Chg.refl (fun _ => False) _) _ _ ?_) | (refine Evo2.va ok 6 _ _ ?_)
        refine Evo2.va ok 7 _ _ ?_
        refine Evo2.va ok 8 _ _ ?_
        first | (refine Evo2.vl ok 9 KC.out (Chg.refl (fun _ => False) _) _ _ ?_) | (refine Evo2.va ok 9 _ _ ?_)
        refine Evo2.va ok 10 _ _ ?_
        refine Evo2.done (by decide +kernel) (fun wz gz => ?_)
        have AZ := Chg.trans (Chg.refl (fun _ => False) _) (Chg.grow gz)
        have H := Lib.hid (H.out.grow FA.out (AZ.toGrow (fun _ _ => id)))
        clear KC AZ gz z0a z0b z0l z1a z1b z1l z2a z2b z2l
        go_wp2_with fail
        go_roundw
        case rel => exact ⟨k + 1, by omega, by go_num, H⟩
        case measure => simp [_root_.Go.RowKit.intOf]; omega
      · obtain rfl : k = ty.length := by omega
        have d1 : decide ((ty.length : Int) < (ty.length : Int)) = false := decide_eq_false (by omega)
        have SH := Lib.hid (sameAt uk xc wr (by omega) hR.1 hRB.1.1)
        have HB := Lib.hid H.out.below
        clear hR hRB H
        go_wp2_with fail
        refine SH.out.mono ?_
        rintro e w12 ⟨rfl, hg⟩
        have HB2 := Lib.hid (HB.out.trans hg)
        clear hg SH
        go_wp2_with fail
        go_ret
        exact ⟨rfl, HB2.out⟩
end Go.Proofs.Ytjhfjjkfnmnkgaa

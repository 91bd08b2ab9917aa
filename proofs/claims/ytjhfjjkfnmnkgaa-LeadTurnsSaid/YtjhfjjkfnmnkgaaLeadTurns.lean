
/- The walk of LeadTurns. -/
import Derived.Test.YtjhfjjkfnmnkgaaZ98M
namespace Go.Proofs.Ytjhfjjkfnmnkgaa
set_option maxRecDepth 100000
set_option linter.unusedVariables false
set_option linter.unusedSimpArgs false
set_option linter.unnecessarySimpa false
open Go.RowKit Go.Args

set_option maxHeartbeats 64000000 in
theorem walkLeadTurns (w : World) (a : Option Addr) (xs : List TurnD) (cap : Nat) (ht : TurnsL w a xs) :
    Calls Try.prog 3 #[.slice a xs.length cap] w fun e w' => e = .returned (.bool true) ∧ Below w.heap.size w w' := by
  have FE := Lib.hid Emp.foot
  have FP := Lib.hid (fun g l nw c => PlP.foot g l nw c)
  have FR := Lib.hid (fun g l => RolP.foot g l)
  have FT := Lib.hid (fun sh tg va vb => TabF.foot sh tg va vb)
  have KN := Lib.hid (known13_any w)
  have FG := Lib.hid (fun G => GoalF.foot G)
  have TT := Lib.hid ht
  have hxl := ht.le
  unfold maxLen at hxl
  clear ht
  go_enter Try.func3, Try.ntmps3
  go_wp2_with fail
  refine KN.out.mono ?_
  rintro e w1 ⟨rfl, hg⟩
  have H : Hid (Hold w w1 [] (GoalF fun _ => gl0)) := Lib.hid (((Hold.nil w).grow Emp.foot hg).weak fun F h => ⟨fun _ => False, GoalF.zero _, fun k q => q.elim⟩)
  clear hg KN
  go_wp2_with fail
  refine (hold_plnew H.out (FG.out _)).mono ?_
  rintro e w2 ⟨g, rfl, hh⟩
  have HR := (rol_new hh ((FP.out _ _ _ _).sep (FG.out _))).rot
  obtain ⟨w5, hw5⟩ : ∃ w5, w5 = ((w2.alloc (.cells #[.slice none 0 0] rolT13)).alloc (.cells #[.string fr13, .string bk13, .string r113] 9)).alloc (.cells (glCells fun _ => gl0).toArray tablT13) := ⟨_, rfl⟩
  have FST := Lib.hid (fun l nw c r m G => (FP.out g l nw c).sep ((FR.out r m).sep (FG.out G)))
  have H : Hid (Hold w w5 [(w2.heap.size + 1, [.string fr13, .string bk13, .string r113], 9), (w2.heap.size + 1 + 1, glCells (fun _ => gl0), tablT13)] (Sep (PlP g [] 0 0) (Sep (RolP w2.heap.size []) (GoalF fun _ => gl0)))) := Lib.hid (by rw [hw5]; exact (HR.alloc' (FST.out _ _ _ _ _ _) [.string fr13, .string bk13, .string r113] 9 (g := w2.heap.size + 1) (by simp)).alloc' (FST.out _ _ _ _ _ _) (glCells fun _ => gl0) tablT13 (g := w2.heap.size + 1 + 1) (by simp))
  clear hh HR
  have MG := make_goals
  go_wp2_with fail
  clear MG
  rw [← hw5]
  clear hw5
  generalize w2.heap.size = r at *
  obtain ⟨nb, hnb⟩ : ∃ nb, r + 1 = nb := ⟨_, rfl⟩
  rw [hnb] at H
  rw [hnb]
  obtain ⟨gb, hgb⟩ : ∃ gb, nb + 1 = gb := ⟨_, rfl⟩
  rw [hgb] at H
  rw [hgb]
  clear hnb hgb
  go_loopw [5, 8] (fun nv iv wr => ∃ (k : Nat) (l : List Wa) (now nw : Int) (c : Nat) (G : Nat → Gl), k ≤ 40 ∧ c ≤ k ∧ 0 ≤ now ∧ now ≤ 5 * (k : Int) ∧ nw ≤ now ∧ nv = .int .i64 now ∧ iv = .int .i64 (k : Int) ∧ Hid (WInv l c ∧ GoodG G) ∧ Hid (Hold w wr [(nb, [.string fr13, .string bk13, .string r113], 9), (gb, glCells G, tablT13)] (Sep (PlP g l nw c) (Sep (RolP r l) (GoalF G))))) (fun _ iv _ => 40 - (_root_.Go.RowKit.intOf iv).toNat)
  case atStart => exact ⟨0, [], 0, 0, 0, _, by omega, by omega, by omega, by omega, by omega, rfl, rfl, Lib.hid ⟨WInv.nil, fun j => .inr rfl⟩, H⟩
  case round =>
    clear H
    obtain ⟨k, l, now, nw, c, G, hk, hck, hn0, hn1, hnw, rfl, rfl, HI, H⟩ := hrel
    have hk1 : IntKind.i64.wrap ((k : Int) + 1) = (k : Int) + 1 := IntWalk.i64_in _ ⟨by omega, by omega⟩
    by_cases h12 : k < xs.length ∧ k < 40
    · obtain ⟨h1, h2⟩ := h12
      obtain ⟨x, hx⟩ : ∃ x, xs[k]? = some x := ⟨_, List.getElem?_eq_getElem h1⟩
      obtain ⟨bb, off, rfl, hcc⟩ := TT.out.at hx
      have ok := TT.out.ok x (List.mem_of_getElem? hx)
      obtain ⟨nm, kd, af, wh, va, vb, ns, ms⟩ := x
      obtain ⟨ok1, ok2, ok3, ok4, ok5, ok6⟩ := ok
      dsimp only at ok1 ok2 ok3 ok4 ok5 ok6
      have CC : Hid (∀ w', Grow.G w w' → w'.cell? ⟨bb, off + k * 6, none⟩ = some (.int .i64 nm) ∧ w'.cell? ⟨bb, off + k * 6 + 1, none⟩ = some (.int .i64 kd) ∧ w'.cell? ⟨bb, off + k * 6 + 2, none⟩ = some (.int .i64 af) ∧ w'.cell? ⟨bb, off + k * 6 + 3, none⟩ = some (.int .i64 wh) ∧ w'.cell? ⟨bb, off + k * 6 + 4, none⟩ = some va ∧ w'.cell? ⟨bb, off + k * 6 + 5, none⟩ = some vb) := Lib.hid (fun w' q => ⟨hcc w' q 0 _ rfl, hcc w' q 1 _ rfl, hcc w' q 2 _ rfl, hcc w' q 3 _ rfl, hcc w' q 4 _ rfl, hcc w' q 5 _ rfl⟩)
      obtain ⟨c0, c1, c2, c3, c4, c5⟩ := CC.out wr H.out.below
      have hbl : bb < wr.heap.size := cell_in c0
      have HZ := Lib.hid (And.intro ok5 ok6)
      have W6 := Lib.hid (fun w => within13_any af 6 w (by omega) (by omega) ok3.1 ok3.2)
      have r6 := withinI_range af 6 (by omega)
      have W3 := Lib.hid (fun w => within13_any nm 3 w (by omega) (by omega) ok1.1 ok1.2)
      have r3 := withinI_range nm 3 (by omega)
      have W9 := Lib.hid (fun w => within13_any kd 9 w (by omega) (by omega) ok2.1 ok2.2)
      have r9 := withinI_range kd 9 (by omega)
      have WK := Lib.hid (fun w => within13_any kd 3 w (by omega) (by omega) ok2.1 ok2.2)
      have rK := withinI_range kd 3 (by omega)
      have t1 := tdiv_wf ok4 61 (by omega)
      have W61 := Lib.hid (fun w => quiet13 (within13_any wh 61 w (by omega) (by omega) ok4.1 ok4.2))
      have r61 := withinI_range wh 61 (by omega)
      have W4 := Lib.hid (fun w => (show Calls Try.prog 12 #[.int .i64 (IntKind.i64.wrap (wh.tdiv 61)), .int .i64 4] w fun e w' => e = .returned (.int .i64 (withinI (wh.tdiv 61) 4)) ∧ Grow.G w w' from by rw [IntWalk.i64_in _ t1]; exact quiet13 (within13_any (wh.tdiv 61) 4 w (by omega) (by omega) t1.1 t1.2)))
      have r4 := withinI_range (wh.tdiv 61) 4 (by omega)
      obtain ⟨d, hd⟩ : ∃ d, withinI af 6 = d := ⟨_, rfl⟩
      rw [hd] at W6 r6
      obtain ⟨n', hn'⟩ : ∃ n', now + d = n' := ⟨_, rfl⟩
      have hwn : IntKind.i64.wrap (now + d) = n' := by rw [hn']; exact IntWalk.i64_in _ ⟨by omega, by omega⟩
      have hb' : now ≤ n' ∧ 0 ≤ n' ∧ n' ≤ 5 * ((k : Int) + 1) := by omega
      obtain ⟨kk, hkk⟩ : ∃ kk : Nat, withinI nm 3 = (kk : Int) := ⟨(withinI nm 3).toNat, by omega⟩
      rw [hkk] at W3 r3
      have kk3 : kk < 3 := by omega
      obtain ⟨z9, hz9⟩ : ∃ z, withinI kd 9 = z := ⟨_, rfl⟩
      rw [hz9] at W9 r9
      obtain ⟨z3, hz3⟩ : ∃ z, withinI kd 3 = z := ⟨_, rfl⟩
      rw [hz3] at WK rK
      obtain ⟨z61, hz61⟩ : ∃ z, withinI wh 61 = z := ⟨_, rfl⟩
      rw [hz61] at W61 r61
      obtain ⟨z4, hz4⟩ : ∃ z, withinI (wh.tdiv 61) 4 = z := ⟨_, rfl⟩
      rw [hz4] at W4 r4
      have d1' : decide ((k : Int) < (xs.length : Int)) = true := decide_eq_true (by omega)
      have d2' : decide ((k : Int) < 40) = true := decide_eq_true (by omega)
      have k1 : (0 : Int) ≤ (k : Int) := by omega
      have k2 : (k : Int) < (xs.length : Int) := by omega
      have k3 : (0 : Int) ≤ (kk : Int) := by omega
      have k4 : (kk : Int) < 3 := by omega
      obtain ⟨s, hs⟩ : ∃ s, nmK kk = s := ⟨_, rfl⟩
      have hsz : s.size ≤ 100000 := hs ▸ nmK_size kk
      have NK : Hid (([.string fr13, .string bk13, .string r113] : List Value)[kk]? = some (.string s)) := Lib.hid (hs ▸ nm13 kk3)
      clear hcc ok1 ok2 ok3 ok4 ok5 ok6 t1 hd hkk hz9 hz3 hz61 hz4 hn' hs hx
      go_wp2_with fail
      refine (W6.out _).mono ?_
      rintro e wx ⟨rfl, rfl⟩
      clear W6
      go_wp2_with fail
      refine (W3.out _).mono ?_
      rintro e wx ⟨rfl, rfl⟩
      clear W3
      go_wp2_with fail
      refine (W9.out _).mono ?_
      rintro e wx ⟨rfl, rfl⟩
      clear W9
      by_cases hz : z9 = 0
      · subst hz
        have z0 := H.out.mem.cell (i := 0) (o := kk) rfl NK.out
        have z0l := H.out.mem.lt (i := 0) rfl
        go_wp2_with fail
        refine (hold_pldrop H.out ((FR.out _ _).sep (FG.out _)) s (by unfold maxLen; omega)).mono ?_
        rintro e w6 ⟨rfl, hh⟩
        clear z0 z0l H c0 c1 c2 c3 c4 c5 hbl
        have H := Lib.hid hh.rot
        clear hh
        have z0 := H.out.mem.cell (i := 0) (o := kk) rfl NK.out
        have z0l := H.out.mem.lt (i := 0) rfl
        go_wp2_with fail
        refine (hold_roldrop H.out ((FP.out _ _ _ _).sep (FG.out _)) s (by have := HI.out.1.len; omega)).mono ?_
        rintro e w7 ⟨rfl, hh⟩
        clear z0 z0l H
        have H := Lib.hid hh.rot
        have HJ : Hid (WInv (dropW l s) c ∧ GoodG G) := Lib.hid ⟨HI.out.1.drop s, HI.out.2⟩
        clear hh HI
        generalize dropW l s = l' at *
        go_wp2_with fail
        go_loopw [11] (fun jv wr => ∃ (j : Nat), j ≤ 3 ∧ jv = .int .i64 (j : Int) ∧ Hid (Hold w wr [(nb, [.string fr13, .string bk13, .string r113], 9), (gb, glCells G, tablT13)] (Sep (PlP g l' nw c) (Sep (RolP r l') (GoalF G))))) (fun jv _ => 3 - (_root_.Go.RowKit.intOf jv).toNat)
        case atStart => exact ⟨0, by omega, rfl, H⟩
        case round =>
          clear H
          obtain ⟨j, hj, rfl, H⟩ := hrel
          have hj1 : IntKind.i64.wrap ((j : Int) + 1) = (j : Int) + 1 := IntWalk.i64_in _ ⟨by omega, by omega⟩
          by_cases hlt : j < 3
          · have d0 : decide ((j : Int) < 3) = true := decide_eq_true (by omega)
            have j1 : (0 : Int) ≤ (j : Int) := by omega
            have j2 : (j : Int) < 3 := by omega
            obtain ⟨s2, hs2⟩ : ∃ s, nmK j = s := ⟨_, rfl⟩
            have hz2 : s2.size ≤ 100000 := hs2 ▸ nmK_size j
            have NJ : Hid (([.string fr13, .string bk13, .string r113] : List Value)[j]? = some (.string s2)) := Lib.hid (hs2 ▸ nm13 hlt)
            obtain ⟨bo, hbo⟩ : ∃ b, (findW l' s2).isSome = b := ⟨_, rfl⟩
            obtain ⟨qs, hqs⟩ : ∃ q, shO l' s2 = q := ⟨_, rfl⟩
            obtain ⟨qt, hqt⟩ : ∃ q, tgO l' s2 = q := ⟨_, rfl⟩
            have lqs : qs.length ≤ 500 := hqs ▸ shO_len HJ.out.1 s2
            have lqt : qt.length ≤ 1000 := hqt ▸ tgO_len HJ.out.1 s2
            have HE := Lib.hid (And.intro hbo (And.intro hqs hqt))
            clear hs2 hbo hqs hqt
            have z0 := H.out.mem.cell (i := 0) (o := j) rfl NJ.out
            have z0l := H.out.mem.lt (i := 0) rfl
            go_wp2_with fail
            refine (at_tableU H.out ((FR.out _ _).sep (FG.out _)) s2 hz2 HJ.out.1 HE.out.1 HE.out.2.1 HE.out.2.2).mono ?_
            rintro e w8 ⟨ua, uk, ub, ud, rfl, hh⟩
            clear H z0 z0l
            have FX := Lib.hid ((FP.out g l' nw c).sep ((FT.out qs qt (.slice ua qs.length uk) (.slice ub qt.length ud)).sep ((FR.out r l').sep (FG.out G))))
            have FY := Lib.hid (fun va vk vb vd => (FR.out r l').sep ((FT.out qs qt (.slice va qs.length vk) (.slice vb qt.length vd)).sep ((FP.out g l' nw c).sep ((FT.out qs qt (.slice ua qs.length uk) (.slice ub qt.length ud)).sep (FG.out G)))))
            have HA := Lib.hid (hh.alloc' FX.out [.slice ua qs.length uk, .slice ub qt.length ud] tablT13 rfl).rot2
            clear hh
            have z0 := HA.out.mem.cell (i := 0) (o := j) rfl NJ.out
            have z0l := HA.out.mem.lt (i := 0) rfl
            go_wp2_with fail
            refine (at_rtableU HA.out ((FP.out _ _ _ _).sep ((FT.out _ _ _ _).sep (FG.out _))) s2 (by omega) HJ.out.1 HE.out.1 HE.out.2.1 HE.out.2.2).mono ?_
            rintro e w9 ⟨va, vk, vb, vd, rfl, hh⟩
            clear HA z0 z0l FX
            generalize w8.heap.size = tb at *
            have HA := Lib.hid (hh.alloc' (FY.out _ _ _ _) [.slice va qs.length vk, .slice vb qt.length vd] tablT13 rfl)
            have z2a := hh.mem.cell (i := 2) (o := 0) rfl rfl
            have z2b := hh.mem.cell (i := 2) (o := 1) rfl rfl
            have z2l := hh.mem.lt (i := 2) rfl
            have SM := Lib.hid (fun (w' : World) (q : Grow.G (w9.alloc (.cells #[.slice va qs.length vk, .slice vb qt.length vd] tablT13)) w') => same_true w' (c := uk) (d := ud) (c2 := vk) (d2 := vd) (hold_rows4 (HA.out.grow (FY.out _ _ _ _) q)) (hold_rows2 (HA.out.grow (FY.out _ _ _ _) q)) (by omega) (by omega))
            clear hh
            have nb1 : (true != true) = false := rfl
            have nb2 : (false != false) = false := rfl
            cases bo
            all_goals
              go_wp2_with fail
              refine (SM.out _ (Grow.G.refl _)).mono ?_
              rintro e w10 ⟨rfl, hg⟩
              have H : Hid (Hold w w10 [(nb, [.string fr13, .string bk13, .string r113], 9), (gb, glCells G, tablT13)] (Sep (PlP g l' nw c) (Sep (RolP r l') (GoalF G)))) := Lib.hid ((((HA.out.grow (FY.out _ _ _ _) hg).take 2).weak fun F h => h.weakR fun F h => h.dropL).weak fun F h => h.weakR fun F h => h.weakR fun F h => h.dropL).rot
              clear HA SM hg z2a z2b z2l
              go_wp2_with fail
              go_roundw
              case rel => exact ⟨j + 1, by omega, by go_num, H⟩
              case measure => simp [_root_.Go.RowKit.intOf]; omega
          · obtain rfl : j = 3 := by omega
            have d0 : decide (((3 : Nat) : Int) < 3) = false := by decide
            go_wp2_with fail
            go_roundw
            case rel => exact ⟨k + 1, l', n', nw, c, G, by omega, by omega, by omega, by omega, by omega, rfl, by go_num, HJ, H⟩
            case measure => simp [_root_.Go.RowKit.intOf]; omega
      · have d9 : decide (z9 = 0) = false := decide_eq_false hz
        have z1 := H.out.mem.cell (i := 1) (o := kk * 2) rfl (gl_va G kk3)
        have z1l := H.out.mem.lt (i := 1) rfl
        have NE : z3 = 0 ∨ (z3 ≠ 0 ∧ (G kk).sh.length = 0) ∨ (z3 ≠ 0 ∧ 0 < (G kk).sh.length) := by omega
        rcases NE with q | ⟨q, q2⟩ | ⟨q, q2⟩
        · as_aux_lemma =>
            subst q
            go_wp2_with fail
            refine (WK.out _).mono ?_
            rintro e wx ⟨rfl, rfl⟩
            go_wp2_with fail
            obtain ⟨F, hF⟩ := H.out.named
            have HF := Lib.hid hF
            have hblw : bb < w.heap.size := cell_in (CC.out w (Grow.G.refl _)).1
            have KC := Lib.hid (fun (w' : World) (h : Chg (fun j => F j ∨ wr.heap.size ≤ j) wr w') => (⟨h.cell c4 (fun q => q.elim (fun q => by have := HF.out.lo _ q; omega) (fun q => by have q : wr.heap.size ≤ bb := q; omega)), h.cell c5 (fun q => q.elim (fun q => by have := HF.out.lo _ q; omega) (fun q => by have q : wr.heap.size ≤ bb := q; omega)), trivial⟩ : w'.cell? ⟨bb, off + k * 6 + 4, none⟩ = some va ∧ w'.cell? ⟨bb, off + k * 6 + 5, none⟩ = some vb ∧ True))
            obtain ⟨ys, hys⟩ : ∃ ys, mkS ns = ys := ⟨_, rfl⟩
            obtain ⟨yt, hyt⟩ : ∃ yt, mkT ms = yt := ⟨_, rfl⟩
            have HK0 : Hid (MkT ys yt) := Lib.hid (hys ▸ hyt ▸ mk_tab ns ms)
            have HY := Lib.hid (And.intro hys hyt)
            have S0 := Lib.hid (fun (w' : World) L F (h : HoldF w w' L (Sep (PlP g l nw c) (Sep (RolP r l) (GoalF G))) F) => at_makeF h (FST.out _ _ _ _ _ _) HZ.out.1 HZ.out.2 HY.out.1 HY.out.2)
            have FQ := Lib.hid (fun ua uk ub ud => (FST.out l nw c r l G).sep (FT.out ys yt (.slice ua ys.length uk) (.slice ub yt.length ud)))
            clear hF hys hyt H
            refine Evo2.start' (ℓ := some 14) (S := Chg (fun j => F j ∨ wr.heap.size ≤ j)) (E := Grow.G) (by kernel_rfl) ⟨Chg.pre _, by decide +kernel, (by intro c a d v w h; cases d <;> exact h), by decide +kernel⟩ (fun ok => ?_)
            refine Evo2.va ok 0 _ _ ?_
            refine Evo2.va ok 1 _ _ ?_
            refine Evo2.va ok 2 _ _ ?_
            refine Evo2.va ok 3 _ _ ?_
            refine Evo2.va ok 4 _ _ ?_
            refine Evo2.va ok 5 _ _ ?_
            first | (refine Evo2.vl ok 6 KC.out (Chg.refl (fun j => F j ∨ wr.heap.size ≤ j) _) _ _ ?_) | (refine Evo2.va ok 6 _ _ ?_)
            refine Evo2.va ok 7 _ _ ?_
            refine Evo2.va ok 8 _ _ ?_
            refine Evo2.va ok 9 _ _ ?_
            refine Evo2.va ok 10 _ _ ?_
            first | (refine Evo2.vl ok 11 KC.out (Chg.refl (fun j => F j ∨ wr.heap.size ≤ j) _) _ _ ?_) | (refine Evo2.va ok 11 _ _ ?_)
            refine Evo2.all [12] (by decide +kernel) rfl ?_
            intro wp1 gp1 iq hq
            simp only [List.mem_cons, List.mem_nil_iff, or_false] at hq
            have AP1 := Chg.trans (Chg.refl (fun j => F j ∨ wr.heap.size ≤ j) _) (Chg.grow gp1)
            (try replace HG1 := Lib.hid (HG1.out.grow (FQ.out _ _ _ _) gp1))
            subst hq
            refine Evo2.enters 15 _ (by rfl) (by rfl) (by go_simp; exact ⟨rfl, rfl⟩) ?_
            refine (S0.out wp1 _ F (HF.out.grow (FST.out _ _ _ _ _ _) gp1)).mono ?_
            rintro e wc1 ⟨ua, uk, ub, ud, rfl, F1, HG1, c1, -⟩; have CH1 : Chg (fun j => F j ∨ wr.heap.size ≤ j) _ _ := c1.mono (fun j _ h => .inl h); have HG1 := Lib.hid HG1
            refine ⟨_, rfl, .inr CH1, ?_⟩
            have AC1 := Chg.trans AP1 CH1
            simp only [Act.put, L0, L1, L2]
            refine Evo2.va ok 13 _ _ ?_
            refine Evo2.all [14] (by decide +kernel) rfl ?_
            intro wp2 gp2 iq hq
            simp only [List.mem_cons, List.mem_nil_iff, or_false] at hq
            have AP2 := Chg.trans AC1 (Chg.grow gp2)
            (try replace HG1 := Lib.hid (HG1.out.grow (FQ.out _ _ _ _) gp2))
            subst hq
            refine upStoreAt (by rfl) (by rfl) rfl rfl rfl (HG1.out.mem.blk (i := 1) rfl)  (v := .agg #[.slice ua ys.length uk, .slice ub yt.length ud]) ⟨by kernel_rfl, by rw [show Try.prog.cellsOf tablT13 = 2 by kernel_rfl]; rfl⟩ (by show kk * 2 + 2 ≤ 6; omega) (by intro u hu; simp [Value.cells] at hu; rcases hu with rfl | rfl <;> rfl) ?_
            intro wc2 BZ CW2
            have HA := Lib.hid (HG1.out.hold.set (FQ.out _ _ _ _) (i := 1) (cs' := glCells (upG G kk ⟨ua, ys, uk, ub, yt, ud⟩)) rfl (by rw [← gl_put G kk3]; exact BZ) CW2)
            refine ⟨.inl (by first | rfl | trivial), ?_⟩
            simp only [Act.put, L0, L1, L2]
            refine Evo2.done (by decide +kernel) (fun wz gz => ?_)
            have AZ := AP2
            have H : Hid (Hold w wz [(nb, [.string fr13, .string bk13, .string r113], 9), (gb, glCells (upG G kk ⟨ua, ys, uk, ub, yt, ud⟩), tablT13)] (Sep (PlP g l nw c) (Sep (RolP r l) (GoalF (upG G kk ⟨ua, ys, uk, ub, yt, ud⟩))))) := Lib.hid ((HA.out.grow (FQ.out _ _ _ _) gz).map fun F h => put_goal (m := ⟨ua, ys, uk, ub, yt, ud⟩) h)
            have HJ : Hid (WInv l c ∧ GoodG (upG G kk ⟨ua, ys, uk, ub, yt, ud⟩)) := Lib.hid ⟨HI.out.1, HI.out.2.put kk HK0.out⟩
            have HK : Hid (MkT (upG G kk ⟨ua, ys, uk, ub, yt, ud⟩ kk).sh (upG G kk ⟨ua, ys, uk, ub, yt, ud⟩ kk).tg) := Lib.hid (by rw [upG_at]; exact HK0.out)
            generalize upG G kk ⟨ua, ys, uk, ub, yt, ud⟩ = G1 at *
            clear HI HK0 HY S0 FQ HF HG1 HA KC BZ z1 z1l c0 c1 c2 c3 c4 c5 hbl hblw
            obtain ⟨qa, hqa⟩ : ∃ v, (G1 kk).a = v := ⟨_, rfl⟩
            obtain ⟨qs, hqs⟩ : ∃ v, (G1 kk).sh = v := ⟨_, rfl⟩
            obtain ⟨qc, hqc⟩ : ∃ v, (G1 kk).c = v := ⟨_, rfl⟩
            obtain ⟨qb, hqb⟩ : ∃ v, (G1 kk).b = v := ⟨_, rfl⟩
            obtain ⟨qt, hqt⟩ : ∃ v, (G1 kk).tg = v := ⟨_, rfl⟩
            obtain ⟨qd, hqd⟩ : ∃ v, (G1 kk).d = v := ⟨_, rfl⟩
            have GA : Hid ((glCells G1)[kk * 2]? = some (.slice qa qs.length qc)) := Lib.hid (by rw [gl_va G1 kk3, hqa, hqs, hqc])
            have GB : Hid ((glCells G1)[kk * 2 + 1]? = some (.slice qb qt.length qd)) := Lib.hid (by rw [gl_vb G1 kk3, hqb, hqt, hqd])
            have GR : Hid (∀ (w' : World) (F : Nat → Prop), GoalF G1 w' F → ShSl w' qa qs ∧ TgSl w' qb qt) := Lib.hid (fun w' F h => by have z := h.rows kk; rw [hqa, hqs, hqb, hqt] at z; exact z)
            rw [hqs, hqt] at HK
            clear hqa hqs hqc hqb hqt hqd
            have lqs := HK.out.sd.len
            have lqt := HK.out.tl
            have HB9 := Lib.hid H.out.below
            go_wp2_with fail
            refine wp_spec (fun a0 A W => ∃ x98 x99 x100 x101 x102 x103 x104 x105 x106 x107 x108 x109 x110 x111 x112 x113 : Value, ∃ (wv : Int), A = (((((((((((((((((a0.put (some 10) (.int .i64 wv)).put (some 98) x98).put (some 99) x99).put (some 100) x100).put (some 101) x101).put (some 102) x102).put (some 103) x103).put (some 104) x104).put (some 105) x105).put (some 106) x106).put (some 107) x107).put (some 108) x108).put (some 109) x109).put (some 110) x110).put (some 111) x111).put (some 112) x112).put (some 113) x113) ∧ 0 ≤ wv ∧ wv ≤ 60 ∧ Grow.G wz W) ?_ ?_
            all_goals simp only [Act.put, L0, L1, L2]
            ·
              have r4' : z4 = 0 ∨ z4 = 1 ∨ z4 = 2 ∨ z4 = 3 := by omega
              rcases r4' with rfl | rfl | rfl | rfl
              all_goals
                refine Free.region (by kernel_rfl) (by decide +kernel) (by decide +kernel) (fun wf gf => ?_)
                (refine Free.va [] _ _ _ ?_)
                (refine Free.va [] _ _ _ ?_)
                (refine Free.va [0, 1] _ _ _ ?_)
                (refine Free.va [2] _ _ _ ?_)
                (refine Free.va [3] _ _ _ ?_ (hv := by intro β w1 hg hf; have e3 := (CC.out w1 (HB9.out.trans (gf.trans hg))).2.2.2.1; first | (go_simp <;> with_reducible rfl) | (go_simp; rw [if_neg (by omega)])))
                refine Free.ca [4] _ _ _ _ _ ?_ (hcall := by intro β w1 hg hf; exact W61.out w1)
                refine Free.ma [5] (fun β => (.slice (some ⟨β 6, 0, none⟩) 4 4)) _ _ _ _ ?_ (hv := by intro β w1 hg hf; have e3 := (CC.out w1 (HB9.out.trans (gf.trans hg))).2.2.2.1; show _ = Result.ok (Next.value (.slice (some ⟨w1.heap.size, 0, none⟩) 4 4)) _; go_simp <;> with_reducible rfl) (hl := by intro β β' hk; (try dsimp only); rw [hk 6 (.inl rfl)])
                (refine Free.va [] _ _ _ ?_)
                (refine Free.va [] _ _ _ ?_)
                (refine Free.va [7, 8] _ _ _ ?_)
                (refine Free.va [9] _ _ _ ?_)
                (refine Free.va [10] _ _ _ ?_ (hv := by intro β w1 hg hf; have e3 := (CC.out w1 (HB9.out.trans (gf.trans hg))).2.2.2.1; first | (go_simp <;> with_reducible rfl) | (go_simp; rw [if_neg (by omega)])))
                (refine Free.va [11] _ _ _ ?_)
                refine Free.ca [12] _ _ _ _ _ ?_ (hcall := by intro β w1 hg hf; exact W4.out w1)
                (refine Free.va [6, 13] _ _ _ ?_ (hl := by intro β β' hk; first | rfl | ((try dsimp only); simp only [hk 6 (by decide)])))
                (refine Free.va [6, 14] _ _ _ ?_ (hv := by intro β w1 hg hf; have e3 := (CC.out w1 (HB9.out.trans (gf.trans hg))).2.2.2.1; have f6 := Free.fact_of (hf 6 (by decide)) rfl; dsimp only [Free.blkFa] at f6; have g6 := fun j => Blk.cell (w := w1) f6.1 j; have z6 := f6.1.lt; first | (go_simp <;> with_reducible rfl) | (go_simp; rw [if_neg (by omega)])) (hl := by intro β β' hk; first | rfl | ((try dsimp only); simp only [hk 6 (by decide)])))
                (refine Free.va [6, 15] _ _ _ ?_ (hl := by intro β β' hk; first | rfl | ((try dsimp only); simp only [hk 6 (by decide)])))
                refine Free.Walk.done ?_
                intro βz wz gz hfz
                have Z6 := Free.fact_in hfz 6 rfl
                dsimp only [Free.blkFa] at Z6
                clear hfz
                dsimp only [PostN]
                (repeat apply Exists.intro)
                exact ⟨rfl, by omega, by omega, gf.trans gz⟩
            ·
              rintro A wzq ⟨x98, x99, x100, x101, x102, x103, x104, x105, x106, x107, x108, x109, x110, x111, x112, x113, wv, rfl, hv0, hv1, hg9⟩
              have H := Lib.hid (H.out.grow (FST.out _ _ _ _ _ _) hg9)
              clear hg9 W61 W4 HB9
              obtain ⟨l', e1⟩ : ∃ l', turnW l s qs qt n' wv = l' := ⟨_, rfl⟩
              obtain ⟨q1, e2⟩ : ∃ q, (stepW (findW l s) s qs qt n' wv).sh = q := ⟨_, rfl⟩
              have lq1 : q1.length ≤ 500 := e2 ▸ turned_len HJ.out.1 HK.out ⟨hb'.2.1, by omega⟩
              have HJ2 : Hid (WInv l' (c + 1) ∧ GoodG G1) := Lib.hid ⟨e1 ▸ HJ.out.1.turn HK.out.sd HK.out.tl HK.out.zt ⟨hb'.2.1, by omega⟩, HJ.out.2⟩
              have HT := Lib.hid (And.intro e1 e2)
              clear e1 e2
              have z0 := H.out.mem.cell (i := 0) (o := kk) rfl NK.out
              have z0l := H.out.mem.lt (i := 0) rfl
              have z1 := H.out.mem.cell (i := 1) (o := kk * 2) rfl GA.out
              have z2 := H.out.mem.cell (i := 1) (o := kk * 2 + 1) rfl GB.out
              have z1l := H.out.mem.lt (i := 1) rfl
              obtain ⟨F, hF⟩ := H.out.named
              have HF := Lib.hid hF
              have KC := Lib.hid (fun (w' : World) (h : Chg (fun j => F j ∨ wzq.heap.size ≤ j) wzq w') => (⟨keepc HF.out h (i := 0) (o := kk) rfl NK.out, keepc HF.out h (i := 1) (o := kk * 2) rfl GA.out, keepc HF.out h (i := 1) (o := kk * 2 + 1) rfl GB.out, trivial⟩ : w'.cell? ⟨nb, kk, none⟩ = some (.string s) ∧ w'.cell? ⟨gb, kk * 2, none⟩ = some (.slice qa qs.length qc) ∧ w'.cell? ⟨gb, kk * 2 + 1, none⟩ = some (.slice qb qt.length qd) ∧ True))
              have FQ1 := Lib.hid (fun ua uk ub ud => (FST.out l nw c r l G1).sep (FT.out qs qt (.slice ua qs.length uk) (.slice ub qt.length ud)))
              have FQ2 := Lib.hid (fun ua uk ub ud va vk vb vd => (FR.out r l).sep ((FP.out g l' n' (c + 1)).sep ((FT.out q1 qt (.slice va q1.length vk) (.slice vb qt.length vd)).sep ((FG.out G1).sep (FT.out qs qt (.slice ua qs.length uk) (.slice ub qt.length ud))))))
              have FQ3 := Lib.hid (fun ua uk ub ud va vk vb vd xa xk xb xd => (FR.out r l').sep ((FT.out q1 qt (.slice xa q1.length xk) (.slice xb qt.length xd)).sep ((FP.out g l' n' (c + 1)).sep ((FT.out q1 qt (.slice va q1.length vk) (.slice vb qt.length vd)).sep ((FG.out G1).sep (FT.out qs qt (.slice ua qs.length uk) (.slice ub qt.length ud)))))))
              have S1 := Lib.hid (fun (w' : World) L F (h : HoldF w w' L (Sep (PlP g l nw c) (Sep (RolP r l) (GoalF G1))) F) => at_copyF h (FST.out _ _ _ _ _ _) qa qs qc qb qt qd HK.out (h.hold.see fun F ⟨_, _, _, ⟨_, _, _, q, _⟩, _⟩ => GR.out _ _ q))
              have S2 := Lib.hid (fun (w' : World) L F ua uk ub ud (h : HoldF w w' L (Sep (Sep (PlP g l nw c) (Sep (RolP r l) (GoalF G1))) (TabS qs qt ua uk ub ud)) F) => at_turnF (holdF_re h fun F h => h.assoc) (((FR.out _ _).sep (FG.out _)).sep (FT.out _ _ _ _)) s hsz ua qs uk ub qt ud n' wv (by omega) HJ.out.1 HK.out (h.hold.see fun F ⟨_, _, _, q, _⟩ => tab_rows q) ⟨hb'.2.1, by omega⟩ (by omega) ⟨hv0, by omega⟩ HT.out.1 HT.out.2)
              have S3 := Lib.hid (fun (w' : World) L F ua uk ub ud va vk vb vd (h : HoldF w w' L (Sep (RolP r l) (Sep (PlP g l' n' (c + 1)) (Sep (TabS q1 qt va vk vb vd) (Sep (GoalF G1) (TabS qs qt ua uk ub ud))))) F) => at_rturnF h ((FP.out _ _ _ _).sep ((FT.out _ _ _ _).sep ((FG.out _).sep (FT.out _ _ _ _)))) s qa qs qc qb qt qd n' wv (k := c) (by omega) HJ.out.1 HK.out (h.hold.see fun F ⟨_, _, _, ⟨_, _, _, ⟨_, _, _, ⟨_, _, q, _⟩, _⟩, _⟩, _⟩ => GR.out _ _ q) ⟨hb'.2.1, by omega⟩ ⟨hv0, by omega⟩ HT.out.1 HT.out.2)
              have S4 := Lib.hid (fun (w' : World) L F ua uk ub ud va vk vb vd xa xk xb xd (h : HoldF w w' L (Sep (RolP r l') (Sep (TabS q1 qt xa xk xb xd) (Sep (PlP g l' n' (c + 1)) (Sep (TabS q1 qt va vk vb vd) (Sep (GoalF G1) (TabS qs qt ua uk ub ud)))))) F) => same_true w' (c := vk) (d := vd) (c2 := xk) (d2 := xd) (hold_rows4 h.hold) (hold_rows2 h.hold) (by omega) (by omega))
              clear hF
              go_wp2_with fail
              refine Evo2.start' (ℓ := none) (S := Chg (fun j => F j ∨ wzq.heap.size ≤ j)) (E := Grow.G) (by kernel_rfl) ⟨Chg.pre _, by decide +kernel, (by intro c a d v w h; cases d <;> exact h), by decide +kernel⟩ (fun ok => ?_)
              refine Evo2.va ok 0 _ _ ?_
              refine Evo2.va ok 1 _ _ ?_
              refine Evo2.va ok 2 _ _ ?_
              refine Evo2.va ok 3 _ _ ?_
              first | (refine Evo2.vl ok 4 KC.out (Chg.refl (fun j => F j ∨ wzq.heap.size ≤ j) _) _ _ ?_) | (refine Evo2.va ok 4 _ _ ?_)
              refine Evo2.va ok 5 _ _ ?_
              refine Evo2.va ok 6 _ _ ?_
              refine Evo2.va ok 7 _ _ ?_
              first | (refine Evo2.vl ok 8 KC.out (Chg.refl (fun j => F j ∨ wzq.heap.size ≤ j) _) _ _ ?_) | (refine Evo2.va ok 8 _ _ ?_)
              refine Evo2.va ok 10 _ _ ?_
              refine Evo2.va ok 11 _ _ ?_
              refine Evo2.va ok 13 _ _ ?_
              refine Evo2.va ok 14 _ _ ?_
              refine Evo2.va ok 15 _ _ ?_
              refine Evo2.va ok 16 _ _ ?_
              first | (refine Evo2.vl ok 17 KC.out (Chg.refl (fun j => F j ∨ wzq.heap.size ≤ j) _) _ _ ?_) | (refine Evo2.va ok 17 _ _ ?_)
              refine Evo2.va ok 18 _ _ ?_
              refine Evo2.va ok 19 _ _ ?_
              refine Evo2.va ok 20 _ _ ?_
              first | (refine Evo2.vl ok 21 KC.out (Chg.refl (fun j => F j ∨ wzq.heap.size ≤ j) _) _ _ ?_) | (refine Evo2.va ok 21 _ _ ?_)
              refine Evo2.va ok 22 _ _ ?_
              refine Evo2.va ok 23 _ _ ?_
              refine Evo2.all [9] (by decide +kernel) rfl ?_
              intro wp1 gp1 iq hq
              simp only [List.mem_cons, List.mem_nil_iff, or_false] at hq
              have AP1 := Chg.trans (Chg.refl (fun j => F j ∨ wzq.heap.size ≤ j) _) (Chg.grow gp1)
              (try replace HG1 := Lib.hid (HG1.out.grow (FQ1.out _ _ _ _) gp1))
              (try replace HG2 := Lib.hid (HG2.out.grow (FQ2.out _ _ _ _ _ _ _ _) gp1))
              (try replace HG3 := Lib.hid (HG3.out.grow (FQ3.out _ _ _ _ _ _ _ _ _ _ _ _) gp1))
              subst hq
              refine Evo2.enters 18 _ (by rfl) (by rfl) (by go_simp; exact ⟨rfl, rfl⟩) ?_
              refine (S1.out wp1 _ F (HF.out.grow (FST.out _ _ _ _ _ _) gp1)).mono ?_
              rintro e wc1 ⟨ua, uk, ub, ud, rfl, F1, HG1, c1, f1⟩; have CH1 : Chg (fun j => F j ∨ wzq.heap.size ≤ j) _ _ := c1.mono (fun j _ h => .inl h); have IN1 : ∀ j, F1 j → F j ∨ wzq.heap.size ≤ j := fun j q => (f1 j q).elim .inl (fun q => .inr (Nat.le_trans AP1.size q)); have HG1 := Lib.hid HG1
              refine ⟨_, rfl, .inr CH1, ?_⟩
              have AC1 := Chg.trans AP1 CH1
              simp only [Act.put, L0, L1, L2]
              refine Evo2.all [12] (by decide +kernel) rfl ?_
              intro wp2 gp2 iq hq
              simp only [List.mem_cons, List.mem_nil_iff, or_false] at hq
              have AP2 := Chg.trans AC1 (Chg.grow gp2)
              (try replace HG1 := Lib.hid (HG1.out.grow (FQ1.out _ _ _ _) gp2))
              (try replace HG2 := Lib.hid (HG2.out.grow (FQ2.out _ _ _ _ _ _ _ _) gp2))
              (try replace HG3 := Lib.hid (HG3.out.grow (FQ3.out _ _ _ _ _ _ _ _ _ _ _ _) gp2))
              subst hq
              refine Evo2.enters 17 _ (by rfl) (by rfl) (by go_simp; exact ⟨rfl, rfl⟩) ?_
              refine (S2.out wp2 _ F1 ua uk ub ud HG1.out).mono ?_
              rintro e wc2 ⟨va, vk, vb, vd, rfl, F2, h2, c2, f2⟩; have CH2 : Chg (fun j => F j ∨ wzq.heap.size ≤ j) _ _ := c2.mono (fun j _ h => IN1 j h); have IN2 : ∀ j, F2 j → F j ∨ wzq.heap.size ≤ j := fun j q => (f2 j q).elim (IN1 j) (fun q => .inr (Nat.le_trans AP2.size q)); have HG2 := Lib.hid (holdF_re (B := Sep (RolP r l) (Sep (PlP g l' n' (c + 1)) (Sep (TabS q1 qt va vk vb vd) (Sep (GoalF G1) (TabS qs qt ua uk ub ud))))) h2 fun F h => (h.under fun F h => (h.under fun F h => h.assoc).rot).rot); clear HG1 h2
              refine ⟨_, rfl, .inr CH2, ?_⟩
              have AC2 := Chg.trans AP2 CH2
              simp only [Act.put, L0, L1, L2]
              refine Evo2.all [24] (by decide +kernel) rfl ?_
              intro wp3 gp3 iq hq
              simp only [List.mem_cons, List.mem_nil_iff, or_false] at hq
              have AP3 := Chg.trans AC2 (Chg.grow gp3)
              (try replace HG1 := Lib.hid (HG1.out.grow (FQ1.out _ _ _ _) gp3))
              (try replace HG2 := Lib.hid (HG2.out.grow (FQ2.out _ _ _ _ _ _ _ _) gp3))
              (try replace HG3 := Lib.hid (HG3.out.grow (FQ3.out _ _ _ _ _ _ _ _ _ _ _ _) gp3))
              subst hq
              refine Evo2.enters 19 _ (by rfl) (by rfl) (by go_simp; exact ⟨rfl, rfl⟩) ?_
              refine (S3.out wp3 _ F2 ua uk ub ud va vk vb vd HG2.out).mono ?_
              rintro e wc3 ⟨xa, xk, xb, xd, rfl, F3, h3, c3, f3⟩; have CH3 : Chg (fun j => F j ∨ wzq.heap.size ≤ j) _ _ := c3.mono (fun j _ h => IN2 j h); have HG3 := Lib.hid h3; clear HG2 h3
              refine ⟨_, rfl, .inr CH3, ?_⟩
              have AC3 := Chg.trans AP3 CH3
              simp only [Act.put, L0, L1, L2]
              refine Evo2.all [25] (by decide +kernel) rfl ?_
              intro wp4 gp4 iq hq
              simp only [List.mem_cons, List.mem_nil_iff, or_false] at hq
              have AP4 := Chg.trans AC3 (Chg.grow gp4)
              (try replace HG1 := Lib.hid (HG1.out.grow (FQ1.out _ _ _ _) gp4))
              (try replace HG2 := Lib.hid (HG2.out.grow (FQ2.out _ _ _ _ _ _ _ _) gp4))
              (try replace HG3 := Lib.hid (HG3.out.grow (FQ3.out _ _ _ _ _ _ _ _ _ _ _ _) gp4))
              subst hq
              refine Evo2.enters 16 _ (by rfl) (by rfl) (by go_simp; exact ⟨rfl, rfl⟩) ?_
              refine (S4.out wp4 _ F3 ua uk ub ud va vk vb vd xa xk xb xd HG3.out).mono ?_
              rintro e wc4 ⟨rfl, hg⟩; have CH4 : Chg (fun j => F j ∨ wzq.heap.size ≤ j) _ _ := Chg.grow hg; replace HG3 := Lib.hid (HG3.out.grow (FQ3.out _ _ _ _ _ _ _ _ _ _ _ _) hg)
              refine ⟨_, rfl, .inr CH4, ?_⟩
              have AC4 := Chg.trans AP4 CH4
              simp only [Act.put, L0, L1, L2]
              refine Evo2.va ok 26 _ _ ?_
              refine Evo2.done (by decide +kernel) (fun wz gz => ?_)
              have AZ := Chg.trans AC4 (Chg.grow gz)
              (try replace HG1 := Lib.hid (HG1.out.grow (FQ1.out _ _ _ _) gz))
              (try replace HG2 := Lib.hid (HG2.out.grow (FQ2.out _ _ _ _ _ _ _ _) gz))
              (try replace HG3 := Lib.hid (HG3.out.grow (FQ3.out _ _ _ _ _ _ _ _ _ _ _ _) gz))
              have H : Hid (Hold w wz [(nb, [.string fr13, .string bk13, .string r113], 9), (gb, glCells G1, tablT13)] (Sep (PlP g l' n' (c + 1)) (Sep (RolP r l') (GoalF G1)))) := Lib.hid (((HG3.out.hold.weak fun F h => h.weakR fun F h => h.dropL).weak fun F h => h.weakR fun F h => h.weakR fun F h => h.dropL).weak fun F h => h.weakR fun F h => h.weakR fun F h => (sep_swap h).dropL).rot
              clear HF HG3 KC S1 S2 S3 S4 FQ1 FQ2 FQ3 z0 z0l z1 z2 z1l HJ
              have HJ := HJ2
              clear HJ2
              go_wp2_with fail
              go_loopw [11] (fun jv wr => ∃ (j : Nat), j ≤ 3 ∧ jv = .int .i64 (j : Int) ∧ Hid (Hold w wr [(nb, [.string fr13, .string bk13, .string r113], 9), (gb, glCells G1, tablT13)] (Sep (PlP g l' n' (c + 1)) (Sep (RolP r l') (GoalF G1))))) (fun jv _ => 3 - (_root_.Go.RowKit.intOf jv).toNat)
              case atStart => exact ⟨0, by omega, rfl, H⟩
              case round =>
                clear H
                obtain ⟨j, hj, rfl, H⟩ := hrel
                have hj1 : IntKind.i64.wrap ((j : Int) + 1) = (j : Int) + 1 := IntWalk.i64_in _ ⟨by omega, by omega⟩
                by_cases hlt : j < 3
                · have d0 : decide ((j : Int) < 3) = true := decide_eq_true (by omega)
                  have j1 : (0 : Int) ≤ (j : Int) := by omega
                  have j2 : (j : Int) < 3 := by omega
                  obtain ⟨s2, hs2⟩ : ∃ s, nmK j = s := ⟨_, rfl⟩
                  have hz2 : s2.size ≤ 100000 := hs2 ▸ nmK_size j
                  have NJ : Hid (([.string fr13, .string bk13, .string r113] : List Value)[j]? = some (.string s2)) := Lib.hid (hs2 ▸ nm13 hlt)
                  obtain ⟨bo, hbo⟩ : ∃ b, (findW l' s2).isSome = b := ⟨_, rfl⟩
                  obtain ⟨qs, hqs⟩ : ∃ q, shO l' s2 = q := ⟨_, rfl⟩
                  obtain ⟨qt, hqt⟩ : ∃ q, tgO l' s2 = q := ⟨_, rfl⟩
                  have lqs : qs.length ≤ 500 := hqs ▸ shO_len HJ.out.1 s2
                  have lqt : qt.length ≤ 1000 := hqt ▸ tgO_len HJ.out.1 s2
                  have HE := Lib.hid (And.intro hbo (And.intro hqs hqt))
                  clear hs2 hbo hqs hqt
                  have z0 := H.out.mem.cell (i := 0) (o := j) rfl NJ.out
                  have z0l := H.out.mem.lt (i := 0) rfl
                  go_wp2_with fail
                  refine (at_tableU H.out ((FR.out _ _).sep (FG.out _)) s2 hz2 HJ.out.1 HE.out.1 HE.out.2.1 HE.out.2.2).mono ?_
                  rintro e w8 ⟨ua, uk, ub, ud, rfl, hh⟩
                  clear H z0 z0l
                  have FX := Lib.hid ((FP.out g l' n' (c + 1)).sep ((FT.out qs qt (.slice ua qs.length uk) (.slice ub qt.length ud)).sep ((FR.out r l').sep (FG.out G1))))
                  have FY := Lib.hid (fun va vk vb vd => (FR.out r l').sep ((FT.out qs qt (.slice va qs.length vk) (.slice vb qt.length vd)).sep ((FP.out g l' n' (c + 1)).sep ((FT.out qs qt (.slice ua qs.length uk) (.slice ub qt.length ud)).sep (FG.out G1)))))
                  have HA := Lib.hid (hh.alloc' FX.out [.slice ua qs.length uk, .slice ub qt.length ud] tablT13 rfl).rot2
                  clear hh
                  have z0 := HA.out.mem.cell (i := 0) (o := j) rfl NJ.out
                  have z0l := HA.out.mem.lt (i := 0) rfl
                  go_wp2_with fail
                  refine (at_rtableU HA.out ((FP.out _ _ _ _).sep ((FT.out _ _ _ _).sep (FG.out _))) s2 (by omega) HJ.out.1 HE.out.1 HE.out.2.1 HE.out.2.2).mono ?_
                  rintro e w9 ⟨va, vk, vb, vd, rfl, hh⟩
                  clear HA z0 z0l FX
                  generalize w8.heap.size = tb at *
                  have HA := Lib.hid (hh.alloc' (FY.out _ _ _ _) [.slice va qs.length vk, .slice vb qt.length vd] tablT13 rfl)
                  have z2a := hh.mem.cell (i := 2) (o := 0) rfl rfl
                  have z2b := hh.mem.cell (i := 2) (o := 1) rfl rfl
                  have z2l := hh.mem.lt (i := 2) rfl
                  have SM := Lib.hid (fun (w' : World) (q : Grow.G (w9.alloc (.cells #[.slice va qs.length vk, .slice vb qt.length vd] tablT13)) w') => same_true w' (c := uk) (d := ud) (c2 := vk) (d2 := vd) (hold_rows4 (HA.out.grow (FY.out _ _ _ _) q)) (hold_rows2 (HA.out.grow (FY.out _ _ _ _) q)) (by omega) (by omega))
                  clear hh
                  have nb1 : (true != true) = false := rfl
                  have nb2 : (false != false) = false := rfl
                  cases bo
                  all_goals
                    go_wp2_with fail
                    refine (SM.out _ (Grow.G.refl _)).mono ?_
                    rintro e w10 ⟨rfl, hg⟩
                    have H : Hid (Hold w w10 [(nb, [.string fr13, .string bk13, .string r113], 9), (gb, glCells G1, tablT13)] (Sep (PlP g l' n' (c + 1)) (Sep (RolP r l') (GoalF G1)))) := Lib.hid ((((HA.out.grow (FY.out _ _ _ _) hg).take 2).weak fun F h => h.weakR fun F h => h.dropL).weak fun F h => h.weakR fun F h => h.weakR fun F h => h.dropL).rot
                    clear HA SM hg z2a z2b z2l
                    go_wp2_with fail
                    go_roundw
                    case rel => exact ⟨j + 1, by omega, by go_num, H⟩
                    case measure => simp [_root_.Go.RowKit.intOf]; omega
                · obtain rfl : j = 3 := by omega
                  have d0 : decide (((3 : Nat) : Int) < 3) = false := by decide
                  go_wp2_with fail
                  go_roundw
                  case rel => exact ⟨k + 1, l', n', n', (c + 1), G1, by omega, by omega, by omega, by omega, by omega, rfl, by go_num, HJ, H⟩
                  case measure => simp [_root_.Go.RowKit.intOf]; omega
        · as_aux_lemma =>
            have dz3 : decide (z3 = 0) = false := decide_eq_false q
            have dl : decide (((G kk).sh.length : Int) = 0) = true := decide_eq_true (by omega)
            go_wp2_with fail
            refine (WK.out _).mono ?_
            rintro e wx ⟨rfl, rfl⟩
            go_wp2_with fail
            obtain ⟨F, hF⟩ := H.out.named
            have HF := Lib.hid hF
            have hblw : bb < w.heap.size := cell_in (CC.out w (Grow.G.refl _)).1
            have KC := Lib.hid (fun (w' : World) (h : Chg (fun j => F j ∨ wr.heap.size ≤ j) wr w') => (⟨h.cell c4 (fun q => q.elim (fun q => by have := HF.out.lo _ q; omega) (fun q => by have q : wr.heap.size ≤ bb := q; omega)), h.cell c5 (fun q => q.elim (fun q => by have := HF.out.lo _ q; omega) (fun q => by have q : wr.heap.size ≤ bb := q; omega)), trivial⟩ : w'.cell? ⟨bb, off + k * 6 + 4, none⟩ = some va ∧ w'.cell? ⟨bb, off + k * 6 + 5, none⟩ = some vb ∧ True))
            obtain ⟨ys, hys⟩ : ∃ ys, mkS ns = ys := ⟨_, rfl⟩
            obtain ⟨yt, hyt⟩ : ∃ yt, mkT ms = yt := ⟨_, rfl⟩
            have HK0 : Hid (MkT ys yt) := Lib.hid (hys ▸ hyt ▸ mk_tab ns ms)
            have HY := Lib.hid (And.intro hys hyt)
            have S0 := Lib.hid (fun (w' : World) L F (h : HoldF w w' L (Sep (PlP g l nw c) (Sep (RolP r l) (GoalF G))) F) => at_makeF h (FST.out _ _ _ _ _ _) HZ.out.1 HZ.out.2 HY.out.1 HY.out.2)
            have FQ := Lib.hid (fun ua uk ub ud => (FST.out l nw c r l G).sep (FT.out ys yt (.slice ua ys.length uk) (.slice ub yt.length ud)))
            clear hF hys hyt H
            refine Evo2.start' (ℓ := some 14) (S := Chg (fun j => F j ∨ wr.heap.size ≤ j)) (E := Grow.G) (by kernel_rfl) ⟨Chg.pre _, by decide +kernel, (by intro c a d v w h; cases d <;> exact h), by decide +kernel⟩ (fun ok => ?_)
            refine Evo2.va ok 0 _ _ ?_
            refine Evo2.va ok 1 _ _ ?_
            refine Evo2.va ok 2 _ _ ?_
            refine Evo2.va ok 3 _ _ ?_
            refine Evo2.va ok 4 _ _ ?_
            refine Evo2.va ok 5 _ _ ?_
            first | (refine Evo2.vl ok 6 KC.out (Chg.refl (fun j => F j ∨ wr.heap.size ≤ j) _) _ _ ?_) | (refine Evo2.va ok 6 _ _ ?_)
            refine Evo2.va ok 7 _ _ ?_
            refine Evo2.va ok 8 _ _ ?_
            refine Evo2.va ok 9 _ _ ?_
            refine Evo2.va ok 10 _ _ ?_
            first | (refine Evo2.vl ok 11 KC.out (Chg.refl (fun j => F j ∨ wr.heap.size ≤ j) _) _ _ ?_) | (refine Evo2.va ok 11 _ _ ?_)
            refine Evo2.all [12] (by decide +kernel) rfl ?_
            intro wp1 gp1 iq hq
            simp only [List.mem_cons, List.mem_nil_iff, or_false] at hq
            have AP1 := Chg.trans (Chg.refl (fun j => F j ∨ wr.heap.size ≤ j) _) (Chg.grow gp1)
            (try replace HG1 := Lib.hid (HG1.out.grow (FQ.out _ _ _ _) gp1))
            subst hq
            refine Evo2.enters 15 _ (by rfl) (by rfl) (by go_simp; exact ⟨rfl, rfl⟩) ?_
            refine (S0.out wp1 _ F (HF.out.grow (FST.out _ _ _ _ _ _) gp1)).mono ?_
            rintro e wc1 ⟨ua, uk, ub, ud, rfl, F1, HG1, c1, -⟩; have CH1 : Chg (fun j => F j ∨ wr.heap.size ≤ j) _ _ := c1.mono (fun j _ h => .inl h); have HG1 := Lib.hid HG1
            refine ⟨_, rfl, .inr CH1, ?_⟩
            have AC1 := Chg.trans AP1 CH1
            simp only [Act.put, L0, L1, L2]
            refine Evo2.va ok 13 _ _ ?_
            refine Evo2.all [14] (by decide +kernel) rfl ?_
            intro wp2 gp2 iq hq
            simp only [List.mem_cons, List.mem_nil_iff, or_false] at hq
            have AP2 := Chg.trans AC1 (Chg.grow gp2)
            (try replace HG1 := Lib.hid (HG1.out.grow (FQ.out _ _ _ _) gp2))
            subst hq
            refine upStoreAt (by rfl) (by rfl) rfl rfl rfl (HG1.out.mem.blk (i := 1) rfl)  (v := .agg #[.slice ua ys.length uk, .slice ub yt.length ud]) ⟨by kernel_rfl, by rw [show Try.prog.cellsOf tablT13 = 2 by kernel_rfl]; rfl⟩ (by show kk * 2 + 2 ≤ 6; omega) (by intro u hu; simp [Value.cells] at hu; rcases hu with rfl | rfl <;> rfl) ?_
            intro wc2 BZ CW2
            have HA := Lib.hid (HG1.out.hold.set (FQ.out _ _ _ _) (i := 1) (cs' := glCells (upG G kk ⟨ua, ys, uk, ub, yt, ud⟩)) rfl (by rw [← gl_put G kk3]; exact BZ) CW2)
            refine ⟨.inl (by first | rfl | trivial), ?_⟩
            simp only [Act.put, L0, L1, L2]
            refine Evo2.done (by decide +kernel) (fun wz gz => ?_)
            have AZ := AP2
            have H : Hid (Hold w wz [(nb, [.string fr13, .string bk13, .string r113], 9), (gb, glCells (upG G kk ⟨ua, ys, uk, ub, yt, ud⟩), tablT13)] (Sep (PlP g l nw c) (Sep (RolP r l) (GoalF (upG G kk ⟨ua, ys, uk, ub, yt, ud⟩))))) := Lib.hid ((HA.out.grow (FQ.out _ _ _ _) gz).map fun F h => put_goal (m := ⟨ua, ys, uk, ub, yt, ud⟩) h)
            have HJ : Hid (WInv l c ∧ GoodG (upG G kk ⟨ua, ys, uk, ub, yt, ud⟩)) := Lib.hid ⟨HI.out.1, HI.out.2.put kk HK0.out⟩
            have HK : Hid (MkT (upG G kk ⟨ua, ys, uk, ub, yt, ud⟩ kk).sh (upG G kk ⟨ua, ys, uk, ub, yt, ud⟩ kk).tg) := Lib.hid (by rw [upG_at]; exact HK0.out)
            generalize upG G kk ⟨ua, ys, uk, ub, yt, ud⟩ = G1 at *
            clear HI HK0 HY S0 FQ HF HG1 HA KC BZ z1 z1l c0 c1 c2 c3 c4 c5 hbl hblw
            obtain ⟨qa, hqa⟩ : ∃ v, (G1 kk).a = v := ⟨_, rfl⟩
            obtain ⟨qs, hqs⟩ : ∃ v, (G1 kk).sh = v := ⟨_, rfl⟩
            obtain ⟨qc, hqc⟩ : ∃ v, (G1 kk).c = v := ⟨_, rfl⟩
            obtain ⟨qb, hqb⟩ : ∃ v, (G1 kk).b = v := ⟨_, rfl⟩
            obtain ⟨qt, hqt⟩ : ∃ v, (G1 kk).tg = v := ⟨_, rfl⟩
            obtain ⟨qd, hqd⟩ : ∃ v, (G1 kk).d = v := ⟨_, rfl⟩
            have GA : Hid ((glCells G1)[kk * 2]? = some (.slice qa qs.length qc)) := Lib.hid (by rw [gl_va G1 kk3, hqa, hqs, hqc])
            have GB : Hid ((glCells G1)[kk * 2 + 1]? = some (.slice qb qt.length qd)) := Lib.hid (by rw [gl_vb G1 kk3, hqb, hqt, hqd])
            have GR : Hid (∀ (w' : World) (F : Nat → Prop), GoalF G1 w' F → ShSl w' qa qs ∧ TgSl w' qb qt) := Lib.hid (fun w' F h => by have z := h.rows kk; rw [hqa, hqs, hqb, hqt] at z; exact z)
            rw [hqs, hqt] at HK
            clear hqa hqs hqc hqb hqt hqd
            have lqs := HK.out.sd.len
            have lqt := HK.out.tl
            have HB9 := Lib.hid H.out.below
            go_wp2_with fail
            refine wp_spec (fun a0 A W => ∃ x98 x99 x100 x101 x102 x103 x104 x105 x106 x107 x108 x109 x110 x111 x112 x113 : Value, ∃ (wv : Int), A = (((((((((((((((((a0.put (some 10) (.int .i64 wv)).put (some 98) x98).put (some 99) x99).put (some 100) x100).put (some 101) x101).put (some 102) x102).put (some 103) x103).put (some 104) x104).put (some 105) x105).put (some 106) x106).put (some 107) x107).put (some 108) x108).put (some 109) x109).put (some 110) x110).put (some 111) x111).put (some 112) x112).put (some 113) x113) ∧ 0 ≤ wv ∧ wv ≤ 60 ∧ Grow.G wz W) ?_ ?_
            all_goals simp only [Act.put, L0, L1, L2]
            ·
              have r4' : z4 = 0 ∨ z4 = 1 ∨ z4 = 2 ∨ z4 = 3 := by omega
              rcases r4' with rfl | rfl | rfl | rfl
              all_goals
                refine Free.region (by kernel_rfl) (by decide +kernel) (by decide +kernel) (fun wf gf => ?_)
                (refine Free.va [] _ _ _ ?_)
                (refine Free.va [] _ _ _ ?_)
                (refine Free.va [0, 1] _ _ _ ?_)
                (refine Free.va [2] _ _ _ ?_)
                (refine Free.va [3] _ _ _ ?_ (hv := by intro β w1 hg hf; have e3 := (CC.out w1 (HB9.out.trans (gf.trans hg))).2.2.2.1; first | (go_simp <;> with_reducible rfl) | (go_simp; rw [if_neg (by omega)])))
                refine Free.ca [4] _ _ _ _ _ ?_ (hcall := by intro β w1 hg hf; exact W61.out w1)
                refine Free.ma [5] (fun β => (.slice (some ⟨β 6, 0, none⟩) 4 4)) _ _ _ _ ?_ (hv := by intro β w1 hg hf; have e3 := (CC.out w1 (HB9.out.trans (gf.trans hg))).2.2.2.1; show _ = Result.ok (Next.value (.slice (some ⟨w1.heap.size, 0, none⟩) 4 4)) _; go_simp <;> with_reducible rfl) (hl := by intro β β' hk; (try dsimp only); rw [hk 6 (.inl rfl)])
                (refine Free.va [] _ _ _ ?_)
                (refine Free.va [] _ _ _ ?_)
                (refine Free.va [7, 8] _ _ _ ?_)
                (refine Free.va [9] _ _ _ ?_)
                (refine Free.va [10] _ _ _ ?_ (hv := by intro β w1 hg hf; have e3 := (CC.out w1 (HB9.out.trans (gf.trans hg))).2.2.2.1; first | (go_simp <;> with_reducible rfl) | (go_simp; rw [if_neg (by omega)])))
                (refine Free.va [11] _ _ _ ?_)
                refine Free.ca [12] _ _ _ _ _ ?_ (hcall := by intro β w1 hg hf; exact W4.out w1)
                (refine Free.va [6, 13] _ _ _ ?_ (hl := by intro β β' hk; first | rfl | ((try dsimp only); simp only [hk 6 (by decide)])))
                (refine Free.va [6, 14] _ _ _ ?_ (hv := by intro β w1 hg hf; have e3 := (CC.out w1 (HB9.out.trans (gf.trans hg))).2.2.2.1; have f6 := Free.fact_of (hf 6 (by decide)) rfl; dsimp only [Free.blkFa] at f6; have g6 := fun j => Blk.cell (w := w1) f6.1 j; have z6 := f6.1.lt; first | (go_simp <;> with_reducible rfl) | (go_simp; rw [if_neg (by omega)])) (hl := by intro β β' hk; first | rfl | ((try dsimp only); simp only [hk 6 (by decide)])))
                (refine Free.va [6, 15] _ _ _ ?_ (hl := by intro β β' hk; first | rfl | ((try dsimp only); simp only [hk 6 (by decide)])))
                refine Free.Walk.done ?_
                intro βz wz gz hfz
                have Z6 := Free.fact_in hfz 6 rfl
                dsimp only [Free.blkFa] at Z6
                clear hfz
                dsimp only [PostN]
                (repeat apply Exists.intro)
                exact ⟨rfl, by omega, by omega, gf.trans gz⟩
            ·
              rintro A wzq ⟨x98, x99, x100, x101, x102, x103, x104, x105, x106, x107, x108, x109, x110, x111, x112, x113, wv, rfl, hv0, hv1, hg9⟩
              have H := Lib.hid (H.out.grow (FST.out _ _ _ _ _ _) hg9)
              clear hg9 W61 W4 HB9
              obtain ⟨l', e1⟩ : ∃ l', turnW l s qs qt n' wv = l' := ⟨_, rfl⟩
              obtain ⟨q1, e2⟩ : ∃ q, (stepW (findW l s) s qs qt n' wv).sh = q := ⟨_, rfl⟩
              have lq1 : q1.length ≤ 500 := e2 ▸ turned_len HJ.out.1 HK.out ⟨hb'.2.1, by omega⟩
              have HJ2 : Hid (WInv l' (c + 1) ∧ GoodG G1) := Lib.hid ⟨e1 ▸ HJ.out.1.turn HK.out.sd HK.out.tl HK.out.zt ⟨hb'.2.1, by omega⟩, HJ.out.2⟩
              have HT := Lib.hid (And.intro e1 e2)
              clear e1 e2
              have z0 := H.out.mem.cell (i := 0) (o := kk) rfl NK.out
              have z0l := H.out.mem.lt (i := 0) rfl
              have z1 := H.out.mem.cell (i := 1) (o := kk * 2) rfl GA.out
              have z2 := H.out.mem.cell (i := 1) (o := kk * 2 + 1) rfl GB.out
              have z1l := H.out.mem.lt (i := 1) rfl
              obtain ⟨F, hF⟩ := H.out.named
              have HF := Lib.hid hF
              have KC := Lib.hid (fun (w' : World) (h : Chg (fun j => F j ∨ wzq.heap.size ≤ j) wzq w') => (⟨keepc HF.out h (i := 0) (o := kk) rfl NK.out, keepc HF.out h (i := 1) (o := kk * 2) rfl GA.out, keepc HF.out h (i := 1) (o := kk * 2 + 1) rfl GB.out, trivial⟩ : w'.cell? ⟨nb, kk, none⟩ = some (.string s) ∧ w'.cell? ⟨gb, kk * 2, none⟩ = some (.slice qa qs.length qc) ∧ w'.cell? ⟨gb, kk * 2 + 1, none⟩ = some (.slice qb qt.length qd) ∧ True))
              have FQ1 := Lib.hid (fun ua uk ub ud => (FST.out l nw c r l G1).sep (FT.out qs qt (.slice ua qs.length uk) (.slice ub qt.length ud)))
              have FQ2 := Lib.hid (fun ua uk ub ud va vk vb vd => (FR.out r l).sep ((FP.out g l' n' (c + 1)).sep ((FT.out q1 qt (.slice va q1.length vk) (.slice vb qt.length vd)).sep ((FG.out G1).sep (FT.out qs qt (.slice ua qs.length uk) (.slice ub qt.length ud))))))
              have FQ3 := Lib.hid (fun ua uk ub ud va vk vb vd xa xk xb xd => (FR.out r l').sep ((FT.out q1 qt (.slice xa q1.length xk) (.slice xb qt.length xd)).sep ((FP.out g l' n' (c + 1)).sep ((FT.out q1 qt (.slice va q1.length vk) (.slice vb qt.length vd)).sep ((FG.out G1).sep (FT.out qs qt (.slice ua qs.length uk) (.slice ub qt.length ud)))))))
              have S1 := Lib.hid (fun (w' : World) L F (h : HoldF w w' L (Sep (PlP g l nw c) (Sep (RolP r l) (GoalF G1))) F) => at_copyF h (FST.out _ _ _ _ _ _) qa qs qc qb qt qd HK.out (h.hold.see fun F ⟨_, _, _, ⟨_, _, _, q, _⟩, _⟩ => GR.out _ _ q))
              have S2 := Lib.hid (fun (w' : World) L F ua uk ub ud (h : HoldF w w' L (Sep (Sep (PlP g l nw c) (Sep (RolP r l) (GoalF G1))) (TabS qs qt ua uk ub ud)) F) => at_turnF (holdF_re h fun F h => h.assoc) (((FR.out _ _).sep (FG.out _)).sep (FT.out _ _ _ _)) s hsz ua qs uk ub qt ud n' wv (by omega) HJ.out.1 HK.out (h.hold.see fun F ⟨_, _, _, q, _⟩ => tab_rows q) ⟨hb'.2.1, by omega⟩ (by omega) ⟨hv0, by omega⟩ HT.out.1 HT.out.2)
              have S3 := Lib.hid (fun (w' : World) L F ua uk ub ud va vk vb vd (h : HoldF w w' L (Sep (RolP r l) (Sep (PlP g l' n' (c + 1)) (Sep (TabS q1 qt va vk vb vd) (Sep (GoalF G1) (TabS qs qt ua uk ub ud))))) F) => at_rturnF h ((FP.out _ _ _ _).sep ((FT.out _ _ _ _).sep ((FG.out _).sep (FT.out _ _ _ _)))) s qa qs qc qb qt qd n' wv (k := c) (by omega) HJ.out.1 HK.out (h.hold.see fun F ⟨_, _, _, ⟨_, _, _, ⟨_, _, _, ⟨_, _, q, _⟩, _⟩, _⟩, _⟩ => GR.out _ _ q) ⟨hb'.2.1, by omega⟩ ⟨hv0, by omega⟩ HT.out.1 HT.out.2)
              have S4 := Lib.hid (fun (w' : World) L F ua uk ub ud va vk vb vd xa xk xb xd (h : HoldF w w' L (Sep (RolP r l') (Sep (TabS q1 qt xa xk xb xd) (Sep (PlP g l' n' (c + 1)) (Sep (TabS q1 qt va vk vb vd) (Sep (GoalF G1) (TabS qs qt ua uk ub ud)))))) F) => same_true w' (c := vk) (d := vd) (c2 := xk) (d2 := xd) (hold_rows4 h.hold) (hold_rows2 h.hold) (by omega) (by omega))
              clear hF
              go_wp2_with fail
              refine Evo2.start' (ℓ := none) (S := Chg (fun j => F j ∨ wzq.heap.size ≤ j)) (E := Grow.G) (by kernel_rfl) ⟨Chg.pre _, by decide +kernel, (by intro c a d v w h; cases d <;> exact h), by decide +kernel⟩ (fun ok => ?_)
              refine Evo2.va ok 0 _ _ ?_
              refine Evo2.va ok 1 _ _ ?_
              refine Evo2.va ok 2 _ _ ?_
              refine Evo2.va ok 3 _ _ ?_
              first | (refine Evo2.vl ok 4 KC.out (Chg.refl (fun j => F j ∨ wzq.heap.size ≤ j) _) _ _ ?_) | (refine Evo2.va ok 4 _ _ ?_)
              refine Evo2.va ok 5 _ _ ?_
              refine Evo2.va ok 6 _ _ ?_
              refine Evo2.va ok 7 _ _ ?_
              first | (refine Evo2.vl ok 8 KC.out (Chg.refl (fun j => F j ∨ wzq.heap.size ≤ j) _) _ _ ?_) | (refine Evo2.va ok 8 _ _ ?_)
              refine Evo2.va ok 10 _ _ ?_
              refine Evo2.va ok 11 _ _ ?_
              refine Evo2.va ok 13 _ _ ?_
              refine Evo2.va ok 14 _ _ ?_
              refine Evo2.va ok 15 _ _ ?_
              refine Evo2.va ok 16 _ _ ?_
              first | (refine Evo2.vl ok 17 KC.out (Chg.refl (fun j => F j ∨ wzq.heap.size ≤ j) _) _ _ ?_) | (refine Evo2.va ok 17 _ _ ?_)
              refine Evo2.va ok 18 _ _ ?_
              refine Evo2.va ok 19 _ _ ?_
              refine Evo2.va ok 20 _ _ ?_
              first | (refine Evo2.vl ok 21 KC.out (Chg.refl (fun j => F j ∨ wzq.heap.size ≤ j) _) _ _ ?_) | (refine Evo2.va ok 21 _ _ ?_)
              refine Evo2.va ok 22 _ _ ?_
              refine Evo2.va ok 23 _ _ ?_
              refine Evo2.all [9] (by decide +kernel) rfl ?_
              intro wp1 gp1 iq hq
              simp only [List.mem_cons, List.mem_nil_iff, or_false] at hq
              have AP1 := Chg.trans (Chg.refl (fun j => F j ∨ wzq.heap.size ≤ j) _) (Chg.grow gp1)
              (try replace HG1 := Lib.hid (HG1.out.grow (FQ1.out _ _ _ _) gp1))
              (try replace HG2 := Lib.hid (HG2.out.grow (FQ2.out _ _ _ _ _ _ _ _) gp1))
              (try replace HG3 := Lib.hid (HG3.out.grow (FQ3.out _ _ _ _ _ _ _ _ _ _ _ _) gp1))
              subst hq
              refine Evo2.enters 18 _ (by rfl) (by rfl) (by go_simp; exact ⟨rfl, rfl⟩) ?_
              refine (S1.out wp1 _ F (HF.out.grow (FST.out _ _ _ _ _ _) gp1)).mono ?_
              rintro e wc1 ⟨ua, uk, ub, ud, rfl, F1, HG1, c1, f1⟩; have CH1 : Chg (fun j => F j ∨ wzq.heap.size ≤ j) _ _ := c1.mono (fun j _ h => .inl h); have IN1 : ∀ j, F1 j → F j ∨ wzq.heap.size ≤ j := fun j q => (f1 j q).elim .inl (fun q => .inr (Nat.le_trans AP1.size q)); have HG1 := Lib.hid HG1
              refine ⟨_, rfl, .inr CH1, ?_⟩
              have AC1 := Chg.trans AP1 CH1
              simp only [Act.put, L0, L1, L2]
              refine Evo2.all [12] (by decide +kernel) rfl ?_
              intro wp2 gp2 iq hq
              simp only [List.mem_cons, List.mem_nil_iff, or_false] at hq
              have AP2 := Chg.trans AC1 (Chg.grow gp2)
              (try replace HG1 := Lib.hid (HG1.out.grow (FQ1.out _ _ _ _) gp2))
              (try replace HG2 := Lib.hid (HG2.out.grow (FQ2.out _ _ _ _ _ _ _ _) gp2))
              (try replace HG3 := Lib.hid (HG3.out.grow (FQ3.out _ _ _ _ _ _ _ _ _ _ _ _) gp2))
              subst hq
              refine Evo2.enters 17 _ (by rfl) (by rfl) (by go_simp; exact ⟨rfl, rfl⟩) ?_
              refine (S2.out wp2 _ F1 ua uk ub ud HG1.out).mono ?_
              rintro e wc2 ⟨va, vk, vb, vd, rfl, F2, h2, c2, f2⟩; have CH2 : Chg (fun j => F j ∨ wzq.heap.size ≤ j) _ _ := c2.mono (fun j _ h => IN1 j h); have IN2 : ∀ j, F2 j → F j ∨ wzq.heap.size ≤ j := fun j q => (f2 j q).elim (IN1 j) (fun q => .inr (Nat.le_trans AP2.size q)); have HG2 := Lib.hid (holdF_re (B := Sep (RolP r l) (Sep (PlP g l' n' (c + 1)) (Sep (TabS q1 qt va vk vb vd) (Sep (GoalF G1) (TabS qs qt ua uk ub ud))))) h2 fun F h => (h.under fun F h => (h.under fun F h => h.assoc).rot).rot); clear HG1 h2
              refine ⟨_, rfl, .inr CH2, ?_⟩
              have AC2 := Chg.trans AP2 CH2
              simp only [Act.put, L0, L1, L2]
              refine Evo2.all [24] (by decide +kernel) rfl ?_
              intro wp3 gp3 iq hq
              simp only [List.mem_cons, List.mem_nil_iff, or_false] at hq
              have AP3 := Chg.trans AC2 (Chg.grow gp3)
              (try replace HG1 := Lib.hid (HG1.out.grow (FQ1.out _ _ _ _) gp3))
              (try replace HG2 := Lib.hid (HG2.out.grow (FQ2.out _ _ _ _ _ _ _ _) gp3))
              (try replace HG3 := Lib.hid (HG3.out.grow (FQ3.out _ _ _ _ _ _ _ _ _ _ _ _) gp3))
              subst hq
              refine Evo2.enters 19 _ (by rfl) (by rfl) (by go_simp; exact ⟨rfl, rfl⟩) ?_
              refine (S3.out wp3 _ F2 ua uk ub ud va vk vb vd HG2.out).mono ?_
              rintro e wc3 ⟨xa, xk, xb, xd, rfl, F3, h3, c3, f3⟩; have CH3 : Chg (fun j => F j ∨ wzq.heap.size ≤ j) _ _ := c3.mono (fun j _ h => IN2 j h); have HG3 := Lib.hid h3; clear HG2 h3
              refine ⟨_, rfl, .inr CH3, ?_⟩
              have AC3 := Chg.trans AP3 CH3
              simp only [Act.put, L0, L1, L2]
              refine Evo2.all [25] (by decide +kernel) rfl ?_
              intro wp4 gp4 iq hq
              simp only [List.mem_cons, List.mem_nil_iff, or_false] at hq
              have AP4 := Chg.trans AC3 (Chg.grow gp4)
              (try replace HG1 := Lib.hid (HG1.out.grow (FQ1.out _ _ _ _) gp4))
              (try replace HG2 := Lib.hid (HG2.out.grow (FQ2.out _ _ _ _ _ _ _ _) gp4))
              (try replace HG3 := Lib.hid (HG3.out.grow (FQ3.out _ _ _ _ _ _ _ _ _ _ _ _) gp4))
              subst hq
              refine Evo2.enters 16 _ (by rfl) (by rfl) (by go_simp; exact ⟨rfl, rfl⟩) ?_
              refine (S4.out wp4 _ F3 ua uk ub ud va vk vb vd xa xk xb xd HG3.out).mono ?_
              rintro e wc4 ⟨rfl, hg⟩; have CH4 : Chg (fun j => F j ∨ wzq.heap.size ≤ j) _ _ := Chg.grow hg; replace HG3 := Lib.hid (HG3.out.grow (FQ3.out _ _ _ _ _ _ _ _ _ _ _ _) hg)
              refine ⟨_, rfl, .inr CH4, ?_⟩
              have AC4 := Chg.trans AP4 CH4
              simp only [Act.put, L0, L1, L2]
              refine Evo2.va ok 26 _ _ ?_
              refine Evo2.done (by decide +kernel) (fun wz gz => ?_)
              have AZ := Chg.trans AC4 (Chg.grow gz)
              (try replace HG1 := Lib.hid (HG1.out.grow (FQ1.out _ _ _ _) gz))
              (try replace HG2 := Lib.hid (HG2.out.grow (FQ2.out _ _ _ _ _ _ _ _) gz))
              (try replace HG3 := Lib.hid (HG3.out.grow (FQ3.out _ _ _ _ _ _ _ _ _ _ _ _) gz))
              have H : Hid (Hold w wz [(nb, [.string fr13, .string bk13, .string r113], 9), (gb, glCells G1, tablT13)] (Sep (PlP g l' n' (c + 1)) (Sep (RolP r l') (GoalF G1)))) := Lib.hid (((HG3.out.hold.weak fun F h => h.weakR fun F h => h.dropL).weak fun F h => h.weakR fun F h => h.weakR fun F h => h.dropL).weak fun F h => h.weakR fun F h => h.weakR fun F h => (sep_swap h).dropL).rot
              clear HF HG3 KC S1 S2 S3 S4 FQ1 FQ2 FQ3 z0 z0l z1 z2 z1l HJ
              have HJ := HJ2
              clear HJ2
              go_wp2_with fail
              go_loopw [11] (fun jv wr => ∃ (j : Nat), j ≤ 3 ∧ jv = .int .i64 (j : Int) ∧ Hid (Hold w wr [(nb, [.string fr13, .string bk13, .string r113], 9), (gb, glCells G1, tablT13)] (Sep (PlP g l' n' (c + 1)) (Sep (RolP r l') (GoalF G1))))) (fun jv _ => 3 - (_root_.Go.RowKit.intOf jv).toNat)
              case atStart => exact ⟨0, by omega, rfl, H⟩
              case round =>
                clear H
                obtain ⟨j, hj, rfl, H⟩ := hrel
                have hj1 : IntKind.i64.wrap ((j : Int) + 1) = (j : Int) + 1 := IntWalk.i64_in _ ⟨by omega, by omega⟩
                by_cases hlt : j < 3
                · have d0 : decide ((j : Int) < 3) = true := decide_eq_true (by omega)
                  have j1 : (0 : Int) ≤ (j : Int) := by omega
                  have j2 : (j : Int) < 3 := by omega
                  obtain ⟨s2, hs2⟩ : ∃ s, nmK j = s := ⟨_, rfl⟩
                  have hz2 : s2.size ≤ 100000 := hs2 ▸ nmK_size j
                  have NJ : Hid (([.string fr13, .string bk13, .string r113] : List Value)[j]? = some (.string s2)) := Lib.hid (hs2 ▸ nm13 hlt)
                  obtain ⟨bo, hbo⟩ : ∃ b, (findW l' s2).isSome = b := ⟨_, rfl⟩
                  obtain ⟨qs, hqs⟩ : ∃ q, shO l' s2 = q := ⟨_, rfl⟩
                  obtain ⟨qt, hqt⟩ : ∃ q, tgO l' s2 = q := ⟨_, rfl⟩
                  have lqs : qs.length ≤ 500 := hqs ▸ shO_len HJ.out.1 s2
                  have lqt : qt.length ≤ 1000 := hqt ▸ tgO_len HJ.out.1 s2
                  have HE := Lib.hid (And.intro hbo (And.intro hqs hqt))
                  clear hs2 hbo hqs hqt
                  have z0 := H.out.mem.cell (i := 0) (o := j) rfl NJ.out
                  have z0l := H.out.mem.lt (i := 0) rfl
                  go_wp2_with fail
                  refine (at_tableU H.out ((FR.out _ _).sep (FG.out _)) s2 hz2 HJ.out.1 HE.out.1 HE.out.2.1 HE.out.2.2).mono ?_
                  rintro e w8 ⟨ua, uk, ub, ud, rfl, hh⟩
                  clear H z0 z0l
                  have FX := Lib.hid ((FP.out g l' n' (c + 1)).sep ((FT.out qs qt (.slice ua qs.length uk) (.slice ub qt.length ud)).sep ((FR.out r l').sep (FG.out G1))))
                  have FY := Lib.hid (fun va vk vb vd => (FR.out r l').sep ((FT.out qs qt (.slice va qs.length vk) (.slice vb qt.length vd)).sep ((FP.out g l' n' (c + 1)).sep ((FT.out qs qt (.slice ua qs.length uk) (.slice ub qt.length ud)).sep (FG.out G1)))))
                  have HA := Lib.hid (hh.alloc' FX.out [.slice ua qs.length uk, .slice ub qt.length ud] tablT13 rfl).rot2
                  clear hh
                  have z0 := HA.out.mem.cell (i := 0) (o := j) rfl NJ.out
                  have z0l := HA.out.mem.lt (i := 0) rfl
                  go_wp2_with fail
                  refine (at_rtableU HA.out ((FP.out _ _ _ _).sep ((FT.out _ _ _ _).sep (FG.out _))) s2 (by omega) HJ.out.1 HE.out.1 HE.out.2.1 HE.out.2.2).mono ?_
                  rintro e w9 ⟨va, vk, vb, vd, rfl, hh⟩
                  clear HA z0 z0l FX
                  generalize w8.heap.size = tb at *
                  have HA := Lib.hid (hh.alloc' (FY.out _ _ _ _) [.slice va qs.length vk, .slice vb qt.length vd] tablT13 rfl)
                  have z2a := hh.mem.cell (i := 2) (o := 0) rfl rfl
                  have z2b := hh.mem.cell (i := 2) (o := 1) rfl rfl
                  have z2l := hh.mem.lt (i := 2) rfl
                  have SM := Lib.hid (fun (w' : World) (q : Grow.G (w9.alloc (.cells #[.slice va qs.length vk, .slice vb qt.length vd] tablT13)) w') => same_true w' (c := uk) (d := ud) (c2 := vk) (d2 := vd) (hold_rows4 (HA.out.grow (FY.out _ _ _ _) q)) (hold_rows2 (HA.out.grow (FY.out _ _ _ _) q)) (by omega) (by omega))
                  clear hh
                  have nb1 : (true != true) = false := rfl
                  have nb2 : (false != false) = false := rfl
                  cases bo
                  all_goals
                    go_wp2_with fail
                    refine (SM.out _ (Grow.G.refl _)).mono ?_
                    rintro e w10 ⟨rfl, hg⟩
                    have H : Hid (Hold w w10 [(nb, [.string fr13, .string bk13, .string r113], 9), (gb, glCells G1, tablT13)] (Sep (PlP g l' n' (c + 1)) (Sep (RolP r l') (GoalF G1)))) := Lib.hid ((((HA.out.grow (FY.out _ _ _ _) hg).take 2).weak fun F h => h.weakR fun F h => h.dropL).weak fun F h => h.weakR fun F h => h.weakR fun F h => h.dropL).rot
                    clear HA SM hg z2a z2b z2l
                    go_wp2_with fail
                    go_roundw
                    case rel => exact ⟨j + 1, by omega, by go_num, H⟩
                    case measure => simp [_root_.Go.RowKit.intOf]; omega
                · obtain rfl : j = 3 := by omega
                  have d0 : decide (((3 : Nat) : Int) < 3) = false := by decide
                  go_wp2_with fail
                  go_roundw
                  case rel => exact ⟨k + 1, l', n', n', (c + 1), G1, by omega, by omega, by omega, by omega, by omega, rfl, by go_num, HJ, H⟩
                  case measure => simp [_root_.Go.RowKit.intOf]; omega
        · as_aux_lemma =>
            have dz3 : decide (z3 = 0) = false := decide_eq_false q
            have dl : decide (((G kk).sh.length : Int) = 0) = false := decide_eq_false (by omega)
            have dl2 : ((((G kk).sh.length : Nat) : Int) == 0) = false := beq_eq_false_iff_ne.2 (by omega)
            have dz2 : (z3 == 0) = false := beq_eq_false_iff_ne.2 q
            go_wp2_with fail
            refine (WK.out _).mono ?_
            rintro e wx ⟨rfl, rfl⟩
            obtain ⟨G1, rfl⟩ : ∃ G1, G1 = G := ⟨_, rfl⟩
            have HJ := HI
            have HK : Hid (MkT (G1 kk).sh (G1 kk).tg) := Lib.hid ((HI.out.2 kk).resolve_right fun e => by rw [e] at q2; exact absurd q2 (by simp))
            clear HI
            obtain ⟨qa, hqa⟩ : ∃ v, (G1 kk).a = v := ⟨_, rfl⟩
            obtain ⟨qs, hqs⟩ : ∃ v, (G1 kk).sh = v := ⟨_, rfl⟩
            obtain ⟨qc, hqc⟩ : ∃ v, (G1 kk).c = v := ⟨_, rfl⟩
            obtain ⟨qb, hqb⟩ : ∃ v, (G1 kk).b = v := ⟨_, rfl⟩
            obtain ⟨qt, hqt⟩ : ∃ v, (G1 kk).tg = v := ⟨_, rfl⟩
            obtain ⟨qd, hqd⟩ : ∃ v, (G1 kk).d = v := ⟨_, rfl⟩
            have GA : Hid ((glCells G1)[kk * 2]? = some (.slice qa qs.length qc)) := Lib.hid (by rw [gl_va G1 kk3, hqa, hqs, hqc])
            have GB : Hid ((glCells G1)[kk * 2 + 1]? = some (.slice qb qt.length qd)) := Lib.hid (by rw [gl_vb G1 kk3, hqb, hqt, hqd])
            have GR : Hid (∀ (w' : World) (F : Nat → Prop), GoalF G1 w' F → ShSl w' qa qs ∧ TgSl w' qb qt) := Lib.hid (fun w' F h => by have z := h.rows kk; rw [hqa, hqs, hqb, hqt] at z; exact z)
            rw [hqs, hqt] at HK
            clear hqa hqs hqc hqb hqt hqd
            have lqs := HK.out.sd.len
            have lqt := HK.out.tl
            have HB9 := Lib.hid H.out.below
            go_wp2_with fail
            refine wp_spec (fun a0 A W => ∃ x98 x99 x100 x101 x102 x103 x104 x105 x106 x107 x108 x109 x110 x111 x112 x113 : Value, ∃ (wv : Int), A = (((((((((((((((((a0.put (some 10) (.int .i64 wv)).put (some 98) x98).put (some 99) x99).put (some 100) x100).put (some 101) x101).put (some 102) x102).put (some 103) x103).put (some 104) x104).put (some 105) x105).put (some 106) x106).put (some 107) x107).put (some 108) x108).put (some 109) x109).put (some 110) x110).put (some 111) x111).put (some 112) x112).put (some 113) x113) ∧ 0 ≤ wv ∧ wv ≤ 60 ∧ Grow.G wr W) ?_ ?_
            all_goals simp only [Act.put, L0, L1, L2]
            ·
              have r4' : z4 = 0 ∨ z4 = 1 ∨ z4 = 2 ∨ z4 = 3 := by omega
              rcases r4' with rfl | rfl | rfl | rfl
              all_goals
                refine Free.region (by kernel_rfl) (by decide +kernel) (by decide +kernel) (fun wf gf => ?_)
                (refine Free.va [] _ _ _ ?_)
                (refine Free.va [] _ _ _ ?_)
                (refine Free.va [0, 1] _ _ _ ?_)
                (refine Free.va [2] _ _ _ ?_)
                (refine Free.va [3] _ _ _ ?_ (hv := by intro β w1 hg hf; have e3 := (CC.out w1 (HB9.out.trans (gf.trans hg))).2.2.2.1; first | (go_simp <;> with_reducible rfl) | (go_simp; rw [if_neg (by omega)])))
                refine Free.ca [4] _ _ _ _ _ ?_ (hcall := by intro β w1 hg hf; exact W61.out w1)
                refine Free.ma [5] (fun β => (.slice (some ⟨β 6, 0, none⟩) 4 4)) _ _ _ _ ?_ (hv := by intro β w1 hg hf; have e3 := (CC.out w1 (HB9.out.trans (gf.trans hg))).2.2.2.1; show _ = Result.ok (Next.value (.slice (some ⟨w1.heap.size, 0, none⟩) 4 4)) _; go_simp <;> with_reducible rfl) (hl := by intro β β' hk; (try dsimp only); rw [hk 6 (.inl rfl)])
                (refine Free.va [] _ _ _ ?_)
                (refine Free.va [] _ _ _ ?_)
                (refine Free.va [7, 8] _ _ _ ?_)
                (refine Free.va [9] _ _ _ ?_)
                (refine Free.va [10] _ _ _ ?_ (hv := by intro β w1 hg hf; have e3 := (CC.out w1 (HB9.out.trans (gf.trans hg))).2.2.2.1; first | (go_simp <;> with_reducible rfl) | (go_simp; rw [if_neg (by omega)])))
                (refine Free.va [11] _ _ _ ?_)
                refine Free.ca [12] _ _ _ _ _ ?_ (hcall := by intro β w1 hg hf; exact W4.out w1)
                (refine Free.va [6, 13] _ _ _ ?_ (hl := by intro β β' hk; first | rfl | ((try dsimp only); simp only [hk 6 (by decide)])))
                (refine Free.va [6, 14] _ _ _ ?_ (hv := by intro β w1 hg hf; have e3 := (CC.out w1 (HB9.out.trans (gf.trans hg))).2.2.2.1; have f6 := Free.fact_of (hf 6 (by decide)) rfl; dsimp only [Free.blkFa] at f6; have g6 := fun j => Blk.cell (w := w1) f6.1 j; have z6 := f6.1.lt; first | (go_simp <;> with_reducible rfl) | (go_simp; rw [if_neg (by omega)])) (hl := by intro β β' hk; first | rfl | ((try dsimp only); simp only [hk 6 (by decide)])))
                (refine Free.va [6, 15] _ _ _ ?_ (hl := by intro β β' hk; first | rfl | ((try dsimp only); simp only [hk 6 (by decide)])))
                refine Free.Walk.done ?_
                intro βz wz gz hfz
                have Z6 := Free.fact_in hfz 6 rfl
                dsimp only [Free.blkFa] at Z6
                clear hfz
                dsimp only [PostN]
                (repeat apply Exists.intro)
                exact ⟨rfl, by omega, by omega, gf.trans gz⟩
            ·
              rintro A wrq ⟨x98, x99, x100, x101, x102, x103, x104, x105, x106, x107, x108, x109, x110, x111, x112, x113, wv, rfl, hv0, hv1, hg9⟩
              have H := Lib.hid (H.out.grow (FST.out _ _ _ _ _ _) hg9)
              clear hg9 W61 W4 HB9
              obtain ⟨l', e1⟩ : ∃ l', turnW l s qs qt n' wv = l' := ⟨_, rfl⟩
              obtain ⟨q1, e2⟩ : ∃ q, (stepW (findW l s) s qs qt n' wv).sh = q := ⟨_, rfl⟩
              have lq1 : q1.length ≤ 500 := e2 ▸ turned_len HJ.out.1 HK.out ⟨hb'.2.1, by omega⟩
              have HJ2 : Hid (WInv l' (c + 1) ∧ GoodG G1) := Lib.hid ⟨e1 ▸ HJ.out.1.turn HK.out.sd HK.out.tl HK.out.zt ⟨hb'.2.1, by omega⟩, HJ.out.2⟩
              have HT := Lib.hid (And.intro e1 e2)
              clear e1 e2
              have z0 := H.out.mem.cell (i := 0) (o := kk) rfl NK.out
              have z0l := H.out.mem.lt (i := 0) rfl
              have z1 := H.out.mem.cell (i := 1) (o := kk * 2) rfl GA.out
              have z2 := H.out.mem.cell (i := 1) (o := kk * 2 + 1) rfl GB.out
              have z1l := H.out.mem.lt (i := 1) rfl
              obtain ⟨F, hF⟩ := H.out.named
              have HF := Lib.hid hF
              have KC := Lib.hid (fun (w' : World) (h : Chg (fun j => F j ∨ wrq.heap.size ≤ j) wrq w') => (⟨keepc HF.out h (i := 0) (o := kk) rfl NK.out, keepc HF.out h (i := 1) (o := kk * 2) rfl GA.out, keepc HF.out h (i := 1) (o := kk * 2 + 1) rfl GB.out, trivial⟩ : w'.cell? ⟨nb, kk, none⟩ = some (.string s) ∧ w'.cell? ⟨gb, kk * 2, none⟩ = some (.slice qa qs.length qc) ∧ w'.cell? ⟨gb, kk * 2 + 1, none⟩ = some (.slice qb qt.length qd) ∧ True))
              have FQ1 := Lib.hid (fun ua uk ub ud => (FST.out l nw c r l G1).sep (FT.out qs qt (.slice ua qs.length uk) (.slice ub qt.length ud)))
              have FQ2 := Lib.hid (fun ua uk ub ud va vk vb vd => (FR.out r l).sep ((FP.out g l' n' (c + 1)).sep ((FT.out q1 qt (.slice va q1.length vk) (.slice vb qt.length vd)).sep ((FG.out G1).sep (FT.out qs qt (.slice ua qs.length uk) (.slice ub qt.length ud))))))
              have FQ3 := Lib.hid (fun ua uk ub ud va vk vb vd xa xk xb xd => (FR.out r l').sep ((FT.out q1 qt (.slice xa q1.length xk) (.slice xb qt.length xd)).sep ((FP.out g l' n' (c + 1)).sep ((FT.out q1 qt (.slice va q1.length vk) (.slice vb qt.length vd)).sep ((FG.out G1).sep (FT.out qs qt (.slice ua qs.length uk) (.slice ub qt.length ud)))))))
              have S1 := Lib.hid (fun (w' : World) L F (h : HoldF w w' L (Sep (PlP g l nw c) (Sep (RolP r l) (GoalF G1))) F) => at_copyF h (FST.out _ _ _ _ _ _) qa qs qc qb qt qd HK.out (h.hold.see fun F ⟨_, _, _, ⟨_, _, _, q, _⟩, _⟩ => GR.out _ _ q))
              have S2 := Lib.hid (fun (w' : World) L F ua uk ub ud (h : HoldF w w' L (Sep (Sep (PlP g l nw c) (Sep (RolP r l) (GoalF G1))) (TabS qs qt ua uk ub ud)) F) => at_turnF (holdF_re h fun F h => h.assoc) (((FR.out _ _).sep (FG.out _)).sep (FT.out _ _ _ _)) s hsz ua qs uk ub qt ud n' wv (by omega) HJ.out.1 HK.out (h.hold.see fun F ⟨_, _, _, q, _⟩ => tab_rows q) ⟨hb'.2.1, by omega⟩ (by omega) ⟨hv0, by omega⟩ HT.out.1 HT.out.2)
              have S3 := Lib.hid (fun (w' : World) L F ua uk ub ud va vk vb vd (h : HoldF w w' L (Sep (RolP r l) (Sep (PlP g l' n' (c + 1)) (Sep (TabS q1 qt va vk vb vd) (Sep (GoalF G1) (TabS qs qt ua uk ub ud))))) F) => at_rturnF h ((FP.out _ _ _ _).sep ((FT.out _ _ _ _).sep ((FG.out _).sep (FT.out _ _ _ _)))) s qa qs qc qb qt qd n' wv (k := c) (by omega) HJ.out.1 HK.out (h.hold.see fun F ⟨_, _, _, ⟨_, _, _, ⟨_, _, _, ⟨_, _, q, _⟩, _⟩, _⟩, _⟩ => GR.out _ _ q) ⟨hb'.2.1, by omega⟩ ⟨hv0, by omega⟩ HT.out.1 HT.out.2)
              have S4 := Lib.hid (fun (w' : World) L F ua uk ub ud va vk vb vd xa xk xb xd (h : HoldF w w' L (Sep (RolP r l') (Sep (TabS q1 qt xa xk xb xd) (Sep (PlP g l' n' (c + 1)) (Sep (TabS q1 qt va vk vb vd) (Sep (GoalF G1) (TabS qs qt ua uk ub ud)))))) F) => same_true w' (c := vk) (d := vd) (c2 := xk) (d2 := xd) (hold_rows4 h.hold) (hold_rows2 h.hold) (by omega) (by omega))
              clear hF
              go_wp2_with fail
              refine Evo2.start' (ℓ := none) (S := Chg (fun j => F j ∨ wrq.heap.size ≤ j)) (E := Grow.G) (by kernel_rfl) ⟨Chg.pre _, by decide +kernel, (by intro c a d v w h; cases d <;> exact h), by decide +kernel⟩ (fun ok => ?_)
              refine Evo2.va ok 0 _ _ ?_
              refine Evo2.va ok 1 _ _ ?_
              refine Evo2.va ok 2 _ _ ?_
              refine Evo2.va ok 3 _ _ ?_
              first | (refine Evo2.vl ok 4 KC.out (Chg.refl (fun j => F j ∨ wrq.heap.size ≤ j) _) _ _ ?_) | (refine Evo2.va ok 4 _ _ ?_)
              refine Evo2.va ok 5 _ _ ?_
              refine Evo2.va ok 6 _ _ ?_
              refine Evo2.va ok 7 _ _ ?_
              first | (refine Evo2.vl ok 8 KC.out (Chg.refl (fun j => F j ∨ wrq.heap.size ≤ j) _) _ _ ?_) | (refine Evo2.va ok 8 _ _ ?_)
              refine Evo2.va ok 10 _ _ ?_
              refine Evo2.va ok 11 _ _ ?_
              refine Evo2.va ok 13 _ _ ?_
              refine Evo2.va ok 14 _ _ ?_
              refine Evo2.va ok 15 _ _ ?_
              refine Evo2.va ok 16 _ _ ?_
              first | (refine Evo2.vl ok 17 KC.out (Chg.refl (fun j => F j ∨ wrq.heap.size ≤ j) _) _ _ ?_) | (refine Evo2.va ok 17 _ _ ?_)
              refine Evo2.va ok 18 _ _ ?_
              refine Evo2.va ok 19 _ _ ?_
              refine Evo2.va ok 20 _ _ ?_
              first | (refine Evo2.vl ok 21 KC.out (Chg.refl (fun j => F j ∨ wrq.heap.size ≤ j) _) _ _ ?_) | (refine Evo2.va ok 21 _ _ ?_)
              refine Evo2.va ok 22 _ _ ?_
              refine Evo2.va ok 23 _ _ ?_
              refine Evo2.all [9] (by decide +kernel) rfl ?_
              intro wp1 gp1 iq hq
              simp only [List.mem_cons, List.mem_nil_iff, or_false] at hq
              have AP1 := Chg.trans (Chg.refl (fun j => F j ∨ wrq.heap.size ≤ j) _) (Chg.grow gp1)
              (try replace HG1 := Lib.hid (HG1.out.grow (FQ1.out _ _ _ _) gp1))
              (try replace HG2 := Lib.hid (HG2.out.grow (FQ2.out _ _ _ _ _ _ _ _) gp1))
              (try replace HG3 := Lib.hid (HG3.out.grow (FQ3.out _ _ _ _ _ _ _ _ _ _ _ _) gp1))
              subst hq
              refine Evo2.enters 18 _ (by rfl) (by rfl) (by go_simp; exact ⟨rfl, rfl⟩) ?_
              refine (S1.out wp1 _ F (HF.out.grow (FST.out _ _ _ _ _ _) gp1)).mono ?_
              rintro e wc1 ⟨ua, uk, ub, ud, rfl, F1, HG1, c1, f1⟩; have CH1 : Chg (fun j => F j ∨ wrq.heap.size ≤ j) _ _ := c1.mono (fun j _ h => .inl h); have IN1 : ∀ j, F1 j → F j ∨ wrq.heap.size ≤ j := fun j q => (f1 j q).elim .inl (fun q => .inr (Nat.le_trans AP1.size q)); have HG1 := Lib.hid HG1
              refine ⟨_, rfl, .inr CH1, ?_⟩
              have AC1 := Chg.trans AP1 CH1
              simp only [Act.put, L0, L1, L2]
              refine Evo2.all [12] (by decide +kernel) rfl ?_
              intro wp2 gp2 iq hq
              simp only [List.mem_cons, List.mem_nil_iff, or_false] at hq
              have AP2 := Chg.trans AC1 (Chg.grow gp2)
              (try replace HG1 := Lib.hid (HG1.out.grow (FQ1.out _ _ _ _) gp2))
              (try replace HG2 := Lib.hid (HG2.out.grow (FQ2.out _ _ _ _ _ _ _ _) gp2))
              (try replace HG3 := Lib.hid (HG3.out.grow (FQ3.out _ _ _ _ _ _ _ _ _ _ _ _) gp2))
              subst hq
              refine Evo2.enters 17 _ (by rfl) (by rfl) (by go_simp; exact ⟨rfl, rfl⟩) ?_
              refine (S2.out wp2 _ F1 ua uk ub ud HG1.out).mono ?_
              rintro e wc2 ⟨va, vk, vb, vd, rfl, F2, h2, c2, f2⟩; have CH2 : Chg (fun j => F j ∨ wrq.heap.size ≤ j) _ _ := c2.mono (fun j _ h => IN1 j h); have IN2 : ∀ j, F2 j → F j ∨ wrq.heap.size ≤ j := fun j q => (f2 j q).elim (IN1 j) (fun q => .inr (Nat.le_trans AP2.size q)); have HG2 := Lib.hid (holdF_re (B := Sep (RolP r l) (Sep (PlP g l' n' (c + 1)) (Sep (TabS q1 qt va vk vb vd) (Sep (GoalF G1) (TabS qs qt ua uk ub ud))))) h2 fun F h => (h.under fun F h => (h.under fun F h => h.assoc).rot).rot); clear HG1 h2
              refine ⟨_, rfl, .inr CH2, ?_⟩
              have AC2 := Chg.trans AP2 CH2
              simp only [Act.put, L0, L1, L2]
              refine Evo2.all [24] (by decide +kernel) rfl ?_
              intro wp3 gp3 iq hq
              simp only [List.mem_cons, List.mem_nil_iff, or_false] at hq
              have AP3 := Chg.trans AC2 (Chg.grow gp3)
              (try replace HG1 := Lib.hid (HG1.out.grow (FQ1.out _ _ _ _) gp3))
              (try replace HG2 := Lib.hid (HG2.out.grow (FQ2.out _ _ _ _ _ _ _ _) gp3))
              (try replace HG3 := Lib.hid (HG3.out.grow (FQ3.out _ _ _ _ _ _ _ _ _ _ _ _) gp3))
              subst hq
              refine Evo2.enters 19 _ (by rfl) (by rfl) (by go_simp; exact ⟨rfl, rfl⟩) ?_
              refine (S3.out wp3 _ F2 ua uk ub ud va vk vb vd HG2.out).mono ?_
              rintro e wc3 ⟨xa, xk, xb, xd, rfl, F3, h3, c3, f3⟩; have CH3 : Chg (fun j => F j ∨ wrq.heap.size ≤ j) _ _ := c3.mono (fun j _ h => IN2 j h); have HG3 := Lib.hid h3; clear HG2 h3
              refine ⟨_, rfl, .inr CH3, ?_⟩
              have AC3 := Chg.trans AP3 CH3
              simp only [Act.put, L0, L1, L2]
              refine Evo2.all [25] (by decide +kernel) rfl ?_
              intro wp4 gp4 iq hq
              simp only [List.mem_cons, List.mem_nil_iff, or_false] at hq
              have AP4 := Chg.trans AC3 (Chg.grow gp4)
              (try replace HG1 := Lib.hid (HG1.out.grow (FQ1.out _ _ _ _) gp4))
              (try replace HG2 := Lib.hid (HG2.out.grow (FQ2.out _ _ _ _ _ _ _ _) gp4))
              (try replace HG3 := Lib.hid (HG3.out.grow (FQ3.out _ _ _ _ _ _ _ _ _ _ _ _) gp4))
              subst hq
              refine Evo2.enters 16 _ (by rfl) (by rfl) (by go_simp; exact ⟨rfl, rfl⟩) ?_
              refine (S4.out wp4 _ F3 ua uk ub ud va vk vb vd xa xk xb xd HG3.out).mono ?_
              rintro e wc4 ⟨rfl, hg⟩; have CH4 : Chg (fun j => F j ∨ wrq.heap.size ≤ j) _ _ := Chg.grow hg; replace HG3 := Lib.hid (HG3.out.grow (FQ3.out _ _ _ _ _ _ _ _ _ _ _ _) hg)
              refine ⟨_, rfl, .inr CH4, ?_⟩
              have AC4 := Chg.trans AP4 CH4
              simp only [Act.put, L0, L1, L2]
              refine Evo2.va ok 26 _ _ ?_
              refine Evo2.done (by decide +kernel) (fun wz gz => ?_)
              have AZ := Chg.trans AC4 (Chg.grow gz)
              (try replace HG1 := Lib.hid (HG1.out.grow (FQ1.out _ _ _ _) gz))
              (try replace HG2 := Lib.hid (HG2.out.grow (FQ2.out _ _ _ _ _ _ _ _) gz))
              (try replace HG3 := Lib.hid (HG3.out.grow (FQ3.out _ _ _ _ _ _ _ _ _ _ _ _) gz))
              have H : Hid (Hold w wz [(nb, [.string fr13, .string bk13, .string r113], 9), (gb, glCells G1, tablT13)] (Sep (PlP g l' n' (c + 1)) (Sep (RolP r l') (GoalF G1)))) := Lib.hid (((HG3.out.hold.weak fun F h => h.weakR fun F h => h.dropL).weak fun F h => h.weakR fun F h => h.weakR fun F h => h.dropL).weak fun F h => h.weakR fun F h => h.weakR fun F h => (sep_swap h).dropL).rot
              clear HF HG3 KC S1 S2 S3 S4 FQ1 FQ2 FQ3 z0 z0l z1 z2 z1l HJ
              have HJ := HJ2
              clear HJ2
              go_wp2_with fail
              go_loopw [11] (fun jv wr => ∃ (j : Nat), j ≤ 3 ∧ jv = .int .i64 (j : Int) ∧ Hid (Hold w wr [(nb, [.string fr13, .string bk13, .string r113], 9), (gb, glCells G1, tablT13)] (Sep (PlP g l' n' (c + 1)) (Sep (RolP r l') (GoalF G1))))) (fun jv _ => 3 - (_root_.Go.RowKit.intOf jv).toNat)
              case atStart => exact ⟨0, by omega, rfl, H⟩
              case round =>
                clear H
                obtain ⟨j, hj, rfl, H⟩ := hrel
                have hj1 : IntKind.i64.wrap ((j : Int) + 1) = (j : Int) + 1 := IntWalk.i64_in _ ⟨by omega, by omega⟩
                by_cases hlt : j < 3
                · have d0 : decide ((j : Int) < 3) = true := decide_eq_true (by omega)
                  have j1 : (0 : Int) ≤ (j : Int) := by omega
                  have j2 : (j : Int) < 3 := by omega
                  obtain ⟨s2, hs2⟩ : ∃ s, nmK j = s := ⟨_, rfl⟩
                  have hz2 : s2.size ≤ 100000 := hs2 ▸ nmK_size j
                  have NJ : Hid (([.string fr13, .string bk13, .string r113] : List Value)[j]? = some (.string s2)) := Lib.hid (hs2 ▸ nm13 hlt)
                  obtain ⟨bo, hbo⟩ : ∃ b, (findW l' s2).isSome = b := ⟨_, rfl⟩
                  obtain ⟨qs, hqs⟩ : ∃ q, shO l' s2 = q := ⟨_, rfl⟩
                  obtain ⟨qt, hqt⟩ : ∃ q, tgO l' s2 = q := ⟨_, rfl⟩
                  have lqs : qs.length ≤ 500 := hqs ▸ shO_len HJ.out.1 s2
                  have lqt : qt.length ≤ 1000 := hqt ▸ tgO_len HJ.out.1 s2
                  have HE := Lib.hid (And.intro hbo (And.intro hqs hqt))
                  clear hs2 hbo hqs hqt
                  have z0 := H.out.mem.cell (i := 0) (o := j) rfl NJ.out
                  have z0l := H.out.mem.lt (i := 0) rfl
                  go_wp2_with fail
                  refine (at_tableU H.out ((FR.out _ _).sep (FG.out _)) s2 hz2 HJ.out.1 HE.out.1 HE.out.2.1 HE.out.2.2).mono ?_
                  rintro e w8 ⟨ua, uk, ub, ud, rfl, hh⟩
                  clear H z0 z0l
                  have FX := Lib.hid ((FP.out g l' n' (c + 1)).sep ((FT.out qs qt (.slice ua qs.length uk) (.slice ub qt.length ud)).sep ((FR.out r l').sep (FG.out G1))))
                  have FY := Lib.hid (fun va vk vb vd => (FR.out r l').sep ((FT.out qs qt (.slice va qs.length vk) (.slice vb qt.length vd)).sep ((FP.out g l' n' (c + 1)).sep ((FT.out qs qt (.slice ua qs.length uk) (.slice ub qt.length ud)).sep (FG.out G1)))))
                  have HA := Lib.hid (hh.alloc' FX.out [.slice ua qs.length uk, .slice ub qt.length ud] tablT13 rfl).rot2
                  clear hh
                  have z0 := HA.out.mem.cell (i := 0) (o := j) rfl NJ.out
                  have z0l := HA.out.mem.lt (i := 0) rfl
                  go_wp2_with fail
                  refine (at_rtableU HA.out ((FP.out _ _ _ _).sep ((FT.out _ _ _ _).sep (FG.out _))) s2 (by omega) HJ.out.1 HE.out.1 HE.out.2.1 HE.out.2.2).mono ?_
                  rintro e w9 ⟨va, vk, vb, vd, rfl, hh⟩
                  clear HA z0 z0l FX
                  generalize w8.heap.size = tb at *
                  have HA := Lib.hid (hh.alloc' (FY.out _ _ _ _) [.slice va qs.length vk, .slice vb qt.length vd] tablT13 rfl)
                  have z2a := hh.mem.cell (i := 2) (o := 0) rfl rfl
                  have z2b := hh.mem.cell (i := 2) (o := 1) rfl rfl
                  have z2l := hh.mem.lt (i := 2) rfl
                  have SM := Lib.hid (fun (w' : World) (q : Grow.G (w9.alloc (.cells #[.slice va qs.length vk, .slice vb qt.length vd] tablT13)) w') => same_true w' (c := uk) (d := ud) (c2 := vk) (d2 := vd) (hold_rows4 (HA.out.grow (FY.out _ _ _ _) q)) (hold_rows2 (HA.out.grow (FY.out _ _ _ _) q)) (by omega) (by omega))
                  clear hh
                  have nb1 : (true != true) = false := rfl
                  have nb2 : (false != false) = false := rfl
                  cases bo
                  all_goals
                    go_wp2_with fail
                    refine (SM.out _ (Grow.G.refl _)).mono ?_
                    rintro e w10 ⟨rfl, hg⟩
                    have H : Hid (Hold w w10 [(nb, [.string fr13, .string bk13, .string r113], 9), (gb, glCells G1, tablT13)] (Sep (PlP g l' n' (c + 1)) (Sep (RolP r l') (GoalF G1)))) := Lib.hid ((((HA.out.grow (FY.out _ _ _ _) hg).take 2).weak fun F h => h.weakR fun F h => h.dropL).weak fun F h => h.weakR fun F h => h.weakR fun F h => h.dropL).rot
                    clear HA SM hg z2a z2b z2l
                    go_wp2_with fail
                    go_roundw
                    case rel => exact ⟨j + 1, by omega, by go_num, H⟩
                    case measure => simp [_root_.Go.RowKit.intOf]; omega
                · obtain rfl : j = 3 := by omega
                  have d0 : decide (((3 : Nat) : Int) < 3) = false := by decide
                  go_wp2_with fail
                  go_roundw
                  case rel => exact ⟨k + 1, l', n', n', (c + 1), G1, by omega, by omega, by omega, by omega, by omega, rfl, by go_num, HJ, H⟩
                  case measure => simp [_root_.Go.RowKit.intOf]; omega
    · have h3 : ¬ k < xs.length ∨ (k < xs.length ∧ ¬ k < 40) := by omega
      clear h12 HI
      rcases h3 with q1 | ⟨q1, q2⟩
      case' inl => have d1' : decide ((k : Int) < (xs.length : Int)) = false := decide_eq_false (by omega)
      case' inr =>
        have d1' : decide ((k : Int) < (xs.length : Int)) = true := decide_eq_true (by omega)
        have d2' : decide ((k : Int) < 40) = false := decide_eq_false (by omega)
      all_goals
        go_wp2_with fail
        go_ret
        exact ⟨rfl, H.out.below⟩
end Go.Proofs.Ytjhfjjkfnmnkgaa

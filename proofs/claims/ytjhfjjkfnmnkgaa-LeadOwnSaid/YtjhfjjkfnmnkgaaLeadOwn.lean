
/- The walk of LeadOwn. -/
import Derived.Test.YtjhfjjkfnmnkgaaLwo
namespace Go.Proofs.Ytjhfjjkfnmnkgaa
set_option maxRecDepth 100000
set_option linter.unusedVariables false
set_option linter.unusedSimpArgs false
set_option linter.unnecessarySimpa false
open Go.RowKit Go.Args

theorem rowA_at {T : TypeId} {sz n c : Nat} {a : Option Addr} {w : World} {F : Nat → Prop} (h : RowA T sz (.slice a n c) n w F) (hn : 0 < n) : ∃ g, a = some ⟨g, 0, none⟩ ∧ g < w.heap.size := by
  obtain ⟨⟨xs, h0, h1⟩, _⟩ := h
  rcases h1 with ⟨_, z⟩ | ⟨g, cap, cur, hv, _, hg, _⟩
  · omega
  · injection hv with z1 z2 z3
    exact ⟨g, z1, (Array.getElem?_eq_some_iff.1 hg).1⟩
set_option maxHeartbeats 64000000 in
theorem walkLeadOwn (w : World) (v0 : Value) (zs0 : List Int) (hz0 : IntSlice w v0 zs0) (v1 : Value) (zs1 : List Int) (hz1 : IntSlice w v1 zs1) (whole : Int) (hwh : wf64 whole) :
    Calls Try.prog 5 #[v0, v1, .int .i64 whole] w fun e w' => e = .returned (.bool true) ∧ Below w.heap.size w w' := by
  have FE := Lib.hid Emp.foot
  have FP := Lib.hid (fun g l nw c => PlP.foot g l nw c)
  have FR := Lib.hid (fun g l => RolP.foot g l)
  have FT := Lib.hid (fun sh tg va vb => TabF.foot sh tg va vb)
  have KN := Lib.hid (known13_any w)
  have HZ0 := Lib.hid hz0
  have HZ1 := Lib.hid hz1
  obtain ⟨x, hx⟩ : ∃ x, mkS zs0 = x := ⟨_, rfl⟩
  obtain ⟨tx, htx⟩ : ∃ t, mkT zs1 = t := ⟨_, rfl⟩
  have MX := Lib.hid (show MkT x tx from hx ▸ htx ▸ mk_tab zs0 zs1)
  have HXX := Lib.hid hx
  have HTX := Lib.hid htx
  have lx := MX.out.sd.len
  have ltx : tx.length ≤ 4 := htx ▸ mkT_len zs1
  have W61 := Lib.hid (fun w => within13_any whole 61 w (by omega) (by omega) hwh.1 hwh.2)
  have rW := withinI_range whole 61 (by omega)
  obtain ⟨W, hW⟩ : ∃ W, withinI whole 61 = W := ⟨_, rfl⟩
  rw [hW] at W61 rW
  obtain ⟨l1, e1⟩ : ∃ l, turnW [] fr13 x tx 0 W = l := ⟨_, rfl⟩
  have f1 : findW l1 fr13 = some ⟨fr13, x, x, 0, W, x, tx⟩ := by rw [← e1, findW_turn, show findW [] fr13 = none from rfl, stepW_none MX.out.sd]
  have i1 : WInv l1 1 := e1 ▸ WInv.nil.turn MX.out.sd MX.out.tl MX.out.zt (by omega)
  have s1 : (stepW (findW [] fr13) fr13 x tx 0 W).sh = x := by rw [show findW [] fr13 = none from rfl, stepW_none MX.out.sd]
  obtain ⟨l2, e2⟩ : ∃ l, turnW l1 fr13 x tx 3 W = l := ⟨_, rfl⟩
  have s2 : (stepW (findW l1 fr13) fr13 x tx 3 W).sh = x := by
    rw [f1, stepW_keep rfl rfl]
    exact roll_self MX.out.sd
  have HL := Lib.hid (And.intro (And.intro e1 s1) (And.intro (And.intro e2 s2) (And.intro f1 i1)))
  clear e1 f1 i1 s1 e2 s2 hx htx hW hwh hz0 hz1
  go_enter Try.func5, Try.ntmps5
  go_wp2_with fail
  refine KN.out.mono ?_
  rintro e w1 ⟨rfl, hg⟩
  have H := Lib.hid ((Hold.nil w).grow Emp.foot hg)
  clear hg KN
  go_wp2_with fail
  refine (hold_plnew H.out FE.out).mono ?_
  rintro e w2 ⟨g, rfl, hh⟩
  replace H := Lib.hid hh
  clear hh
  go_wp2_with fail
  refine (hold_plnew H.out ((FP.out _ _ _ _).sep FE.out)).mono ?_
  rintro e w3 ⟨g2, rfl, hh⟩
  replace H := Lib.hid hh.rot
  clear hh
  have FD2 := Lib.hid ((FP.out g2 [] 0 0).sep FE.out)
  go_wp2_with fail
  refine (W61.out _).mono ?_
  rintro e wx ⟨rfl, rfl⟩
  clear W61
  go_wp2_with fail
  refine (at_make H.out (FP.out _ _ _ _) FD2.out HZ0.out HZ1.out HXX.out HTX.out).mono ?_
  rintro e w4 ⟨ta, tc, tb, td, rfl, hh⟩
  have FT2 := Lib.hid (fun l nw c => (FP.out g l nw c).sep ((FT.out x tx (.slice ta x.length tc) (.slice tb tx.length td)).sep FD2.out))
  have HA := Lib.hid (hh.alloc' (FT2.out _ _ _) [.slice ta x.length tc, .slice tb tx.length td] tablT13 rfl)
  clear hh H
  go_wp2_with fail
  refine (at_turn HA.out ((FT.out _ _ _ _).sep FD2.out) fr13 (by decide) ta x tc tb tx td 0 W (by omega) WInv.nil MX.out (hold_rows2 HA.out) (by omega) (by omega) (by omega) HL.out.1.1 HL.out.1.2).mono ?_
  rintro e w5 ⟨ua, uk, ub, ud, rfl, hh⟩
  have FT3 := Lib.hid ((FP.out g l1 0 1).sep ((FT.out x tx (.slice ua x.length uk) (.slice ub tx.length ud)).sep ((FT.out x tx (.slice ta x.length tc) (.slice tb tx.length td)).sep FD2.out)))
  have HA2 := hh.alloc' FT3.out [.slice ua x.length uk, .slice ub tx.length ud] tablT13 rfl
  obtain ⟨w6, hw6⟩ : ∃ w6, w6 = w5.alloc (.cells ([.slice ua x.length uk, .slice ub tx.length ud] : List Value).toArray tablT13) := ⟨_, rfl⟩
  rw [← hw6] at HA2
  have H : Hid (Hold w w6 [(w4.heap.size, [.slice ta x.length tc, .slice tb tx.length td], tablT13), (w5.heap.size, [.slice ua x.length uk, .slice ub tx.length ud], tablT13)] (Sep (RowA shareT13 2 (.slice ta x.length tc) x.length) (Sep (PlP g l1 0 1) (Sep (TabS x tx ua uk ub ud) (Sep (PlP g2 [] 0 0) Emp))))) := Lib.hid (HA2.weak fun F h => (Sep.pull2 h).weakL fun F ⟨F1, F2, a, _, _, e⟩ => ⟨F1, RowA.of a, fun k hk => (e k).2 (.inl hk)⟩)
  have FL1 := Lib.hid ((FP.out g l1 0 1).sep ((FT.out x tx (.slice ua x.length uk) (.slice ub tx.length ud)).sep FD2.out))
  clear HA HA2 hh FT2 FT3
  go_wp2_with fail
  rw [← hw6]
  clear hw6
  go_loopw [12] (fun iv wr => ∃ (k : Nat), k ≤ x.length ∧ iv = .int .i64 (k : Int) ∧ Hid (Hold w wr [(w4.heap.size, [.slice ta x.length tc, .slice tb tx.length td], tablT13), (w5.heap.size, [.slice ua x.length uk, .slice ub tx.length ud], tablT13)] (Sep (RowA shareT13 2 (.slice ta x.length tc) x.length) (Sep (PlP g l1 0 1) (Sep (TabS x tx ua uk ub ud) (Sep (PlP g2 [] 0 0) Emp)))))) (fun iv _ => x.length - (_root_.Go.RowKit.intOf iv).toNat)
  case atStart => exact ⟨0, by omega, rfl, H⟩
  case round =>
    clear H
    obtain ⟨k, hk, rfl, H⟩ := hrel
    have hk1 : IntKind.i64.wrap ((k : Int) + 1) = (k : Int) + 1 := IntWalk.i64_in _ ⟨by omega, by omega⟩
    have z0 := H.out.mem.cell (i := 0) (o := 0) rfl rfl
    have zl := H.out.mem.lt (i := 0) rfl
    by_cases hlt : k < x.length
    · have d1 : decide ((k : Int) < (x.length : Int)) = true := decide_eq_true (by omega)
      have k1 : (0 : Int) ≤ (k : Int) := by omega
      have k2 : (k : Int) < (x.length : Int) := by omega
      obtain ⟨gb, rfl, hgb⟩ := H.out.see (p := ∃ g, ta = some ⟨g, 0, none⟩ ∧ g < _) fun F ⟨_, _, q, _⟩ => rowA_at q (by omega)
      go_wp2_with (refine hold_pokeA (t := 3) FL1.out rfl rfl rfl rfl (u := .int .i64 1) rfl (by kernel_rfl) H.out (by omega) rfl ?_; intro wq Hq)
      refine Stay.go ?_
      have H := Lib.hid Hq
      clear Hq z0 zl hgb
      go_wp2_with fail
      go_roundw
      case rel => exact ⟨k + 1, by omega, by go_num, H⟩
      case measure => simp [_root_.Go.RowKit.intOf]; omega
    · obtain rfl : k = x.length := by omega
      have d1 : decide ((x.length : Int) < (x.length : Int)) = false := decide_eq_false (by omega)
      clear hk hk1 hlt
      have H : Hid (Hold w _ [(w4.heap.size, [.slice ta x.length tc, .slice tb tx.length td], tablT13), (w5.heap.size, [.slice ua x.length uk, .slice ub tx.length ud], tablT13)] (Sep (RowA shareT13 2 (.slice ua x.length uk) x.length) (Sep (RowA tagT13 2 (.slice ub tx.length ud) tx.length) (Sep (PlP g l1 0 1) (Sep (PlP g2 [] 0 0) Emp))))) := Lib.hid (H.out.drop1.rot.map fun F h => (Sep.assoc h).over (fun F h => RowA.of h) |>.under fun F h => h.over fun F h => RowA.of h)
      have FL2 := Lib.hid ((RowA.foot tagT13 2 (.slice ub tx.length ud) tx.length).sep ((FP.out g l1 0 1).sep FD2.out))
      clear FL1
      go_wp2_with fail
      go_loopw [13] (fun iv wr => ∃ (k : Nat), k ≤ x.length ∧ iv = .int .i64 (k : Int) ∧ Hid (Hold w wr [(w4.heap.size, [.slice ta x.length tc, .slice tb tx.length td], tablT13), (w5.heap.size, [.slice ua x.length uk, .slice ub tx.length ud], tablT13)] (Sep (RowA shareT13 2 (.slice ua x.length uk) x.length) (Sep (RowA tagT13 2 (.slice ub tx.length ud) tx.length) (Sep (PlP g l1 0 1) (Sep (PlP g2 [] 0 0) Emp)))))) (fun iv _ => x.length - (_root_.Go.RowKit.intOf iv).toNat)
      case atStart => exact ⟨0, by omega, rfl, H⟩
      case round =>
        clear H
        obtain ⟨k, hk, rfl, H⟩ := hrel
        have hk1 : IntKind.i64.wrap ((k : Int) + 1) = (k : Int) + 1 := IntWalk.i64_in _ ⟨by omega, by omega⟩
        have z0 := H.out.mem.cell (i := 1) (o := 0) rfl rfl
        have zl := H.out.mem.lt (i := 1) rfl
        by_cases hlt : k < x.length
        · have d1 : decide ((k : Int) < (x.length : Int)) = true := decide_eq_true (by omega)
          have k1 : (0 : Int) ≤ (k : Int) := by omega
          have k2 : (k : Int) < (x.length : Int) := by omega
          obtain ⟨gb, rfl, hgb⟩ := H.out.see (p := ∃ g, ua = some ⟨g, 0, none⟩ ∧ g < _) fun F ⟨_, _, q, _⟩ => rowA_at q (by omega)
          go_wp2_with (refine hold_pokeA (t := 9) FL2.out rfl rfl rfl rfl (u := .string ⟨#[113, 45, 49]⟩) rfl (by kernel_rfl) H.out (by omega) rfl ?_; intro wq Hq)
          refine Stay.go ?_
          have H := Lib.hid Hq
          clear Hq z0 zl hgb
          go_wp2_with fail
          go_roundw
          case rel => exact ⟨k + 1, by omega, by go_num, H⟩
          case measure => simp [_root_.Go.RowKit.intOf]; omega
        · obtain rfl : k = x.length := by omega
          have d1 : decide ((x.length : Int) < (x.length : Int)) = false := decide_eq_false (by omega)
          clear hk hk1 hlt
          have H := Lib.hid H.out.rot
          have FL3 := Lib.hid ((RowA.foot shareT13 2 (.slice ua x.length uk) x.length).sep ((FP.out g l1 0 1).sep FD2.out))
          clear FL2
          go_wp2_with fail
          go_loopw [14] (fun iv wr => ∃ (k : Nat), k ≤ tx.length ∧ iv = .int .i64 (k : Int) ∧ Hid (Hold w wr [(w4.heap.size, [.slice ta x.length tc, .slice tb tx.length td], tablT13), (w5.heap.size, [.slice ua x.length uk, .slice ub tx.length ud], tablT13)] (Sep (RowA tagT13 2 (.slice ub tx.length ud) tx.length) (Sep (RowA shareT13 2 (.slice ua x.length uk) x.length) (Sep (PlP g l1 0 1) (Sep (PlP g2 [] 0 0) Emp)))))) (fun iv _ => tx.length - (_root_.Go.RowKit.intOf iv).toNat)
          case atStart => exact ⟨0, by omega, rfl, H⟩
          case round =>
            clear H
            obtain ⟨k, hk, rfl, H⟩ := hrel
            have hk1 : IntKind.i64.wrap ((k : Int) + 1) = (k : Int) + 1 := IntWalk.i64_in _ ⟨by omega, by omega⟩
            have z0 := H.out.mem.cell (i := 1) (o := 1) rfl rfl
            have zl := H.out.mem.lt (i := 1) rfl
            by_cases hlt : k < tx.length
            · have d1 : decide ((k : Int) < (tx.length : Int)) = true := decide_eq_true (by omega)
              have k1 : (0 : Int) ≤ (k : Int) := by omega
              have k2 : (k : Int) < (tx.length : Int) := by omega
              obtain ⟨gb, rfl, hgb⟩ := H.out.see (p := ∃ g, ub = some ⟨g, 0, none⟩ ∧ g < _) fun F ⟨_, _, q, _⟩ => rowA_at q (by omega)
              go_wp2_with (refine hold_pokeA (t := 9) FL3.out rfl rfl rfl rfl (u := .string ⟨#[113, 45, 49]⟩) rfl (by kernel_rfl) H.out (by omega) rfl ?_; intro wq Hq)
              refine Stay.go ?_
              have H := Lib.hid Hq
              clear Hq z0 zl hgb
              go_wp2_with fail
              go_roundw
              case rel => exact ⟨k + 1, by omega, by go_num, H⟩
              case measure => simp [_root_.Go.RowKit.intOf]; omega
            · obtain rfl : k = tx.length := by omega
              have d1 : decide ((tx.length : Int) < (tx.length : Int)) = false := decide_eq_false (by omega)
              clear hk hk1 hlt
              have H := Lib.hid H.out.drop1.drop1
              clear FL3
              go_wp2_with fail
              refine (at_table H.out FD2.out fr13 (by decide) HL.out.2.2.2 HL.out.2.2.1 (sh := x) rfl (tg := tx) rfl).mono ?_
              rintro e w8 ⟨va, vk, vb, vd, rfl, hh⟩
              clear H
              have FS := Lib.hid ((FP.out g l1 0 1).sep ((FT.out x tx (.slice va x.length vk) (.slice vb tx.length vd)).sep FD2.out))
              have HA := hh.alloc' FS.out [.slice va x.length vk, .slice vb tx.length vd] tablT13 rfl
              obtain ⟨w9, hw9⟩ : ∃ w9, w9 = w8.alloc (.cells ([.slice va x.length vk, .slice vb tx.length vd] : List Value).toArray tablT13) := ⟨_, rfl⟩
              rw [← hw9] at HA
              have H := Lib.hid HA
              have KC := Lib.hid (fun (w' : World) (h : Chg (fun _ => False) w9 w') => (⟨h.cell (H.out.mem.cell (i := 2) (o := 0) rfl rfl) id, h.cell (H.out.mem.cell (i := 2) (o := 1) rfl rfl) id, trivial⟩ : w'.cell? ⟨w8.heap.size, 0, none⟩ = some (.slice va x.length vk) ∧ w'.cell? ⟨w8.heap.size, 1, none⟩ = some (.slice vb tx.length vd) ∧ True))
              have M1 := Lib.hid (fun (w' : World) (q : Grow.G w9 w') => make_at (Grow.G.trans H.out.below q) HZ0.out HZ1.out HXX.out HTX.out)
              have S1 := Lib.hid (fun (w' : World) ma mk mb md (q : Grow.G w9 w') (h : ShSl w' ma x ∧ TgSl w' mb tx) => same_true w' (c := vk) (d := vd) (c2 := mk) (d2 := md) (tab_later (hold_rows2 H.out) q) h (by omega) (by omega))
              clear HA hh
              go_wp2_with fail
              rw [← hw9]
              clear hw9
              refine Evo2.start' (ℓ := none) (S := Chg (fun _ => False)) (E := Grow.G) (by kernel_rfl) ⟨Chg.pre _, by decide +kernel, (by intro c a d v w h; cases d <;> exact h), by decide +kernel⟩ (fun ok => ?_)
              refine Evo2.va ok 0 _ _ ?_
              refine Evo2.va ok 1 _ _ ?_
              refine Evo2.va ok 2 _ _ ?_
              first | (refine Evo2.vl ok 3 KC.out (Chg.refl (fun _ => False) _) _ _ ?_) | (refine Evo2.va ok 3 _ _ ?_) | (refine Evo2.vi ok 3 _ ?_)
              first | (refine Evo2.va ok 4 _ _ ?_) | (refine Evo2.vi ok 4 _ ?_)
              first | (refine Evo2.va ok 5 _ _ ?_) | (refine Evo2.vi ok 5 _ ?_)
              refine Evo2.all [6] (by decide +kernel) rfl ?_
              intro wp1 gp1 iq hq
              simp only [List.mem_cons, List.mem_nil_iff, or_false] at hq
              have AP1 := Chg.trans (Chg.refl (fun _ => False) _) (Chg.grow gp1)
              (try replace MK := Lib.hid (tab_later MK.out gp1))
              subst hq
              refine Evo2.enters 15 _ (by rfl) (by rfl) (by go_simp; exact ⟨rfl, rfl⟩) ?_
              refine (M1.out wp1 (Chg.toGrow AP1 (fun _ _ => id))).mono ?_
              rintro e wc1 ⟨ma, mk, mb, md, rfl, hmk, hg⟩; have CH1 := Chg.grow (G := fun _ => False) hg; have MK := Lib.hid hmk; clear hmk
              refine ⟨_, rfl, .inr CH1, ?_⟩
              have AC1 := Chg.trans AP1 CH1
              simp only [Act.put, L0, L1, L2]
              refine Evo2.all [7] (by decide +kernel) rfl ?_
              intro wp2 gp2 iq hq
              simp only [List.mem_cons, List.mem_nil_iff, or_false] at hq
              have AP2 := Chg.trans AC1 (Chg.grow gp2)
              (try replace MK := Lib.hid (tab_later MK.out gp2))
              subst hq
              refine Evo2.enters 16 _ (by rfl) (by rfl) (by go_simp; exact ⟨rfl, rfl⟩) ?_
              refine (S1.out wp2 ma mk mb md (Chg.toGrow AP2 (fun _ _ => id)) MK.out).mono ?_
              rintro e wc2 ⟨rfl, hg⟩; have CH2 := Chg.grow (G := fun _ => False) hg; clear MK
              refine ⟨_, rfl, .inr CH2, ?_⟩
              have AC2 := Chg.trans AP2 CH2
              simp only [Act.put, L0, L1, L2]
              first | (refine Evo2.va ok 8 _ _ ?_) | (refine Evo2.vi ok 8 _ ?_)
              refine Evo2.va ok 9 _ _ ?_
              refine Evo2.done (by decide +kernel) (fun wz gz => ?_)
              have AZ := Chg.trans AC2 (Chg.grow gz)
              (try replace MK := Lib.hid (tab_later MK.out gz))
              have H := Lib.hid (H.out.grow FS.out (AZ.toGrow (fun _ _ => id)))
              have H : Hid (Hold w _ [(w4.heap.size, [.slice ta x.length tc, .slice tb tx.length td], tablT13), (w5.heap.size, [.slice ua x.length uk, .slice ub tx.length ud], tablT13), (w8.heap.size, [.slice va x.length vk, .slice vb tx.length vd], tablT13)] (Sep (RowA shareT13 2 (.slice va x.length vk) x.length) (Sep (PlP g l1 0 1) (Sep (PlP g2 [] 0 0) Emp)))) := Lib.hid (H.out.weak fun F h => (Sep.rot h).weakL fun F ⟨F1, F2, a, _, _, e⟩ => ⟨F1, RowA.of a, fun k hk => (e k).2 (.inl hk)⟩)
              have FL4 := Lib.hid ((FP.out g l1 0 1).sep FD2.out)
              clear KC M1 S1 AZ gz FS
              go_wp2_with fail
              go_loopw [17] (fun iv wr => ∃ (k : Nat), k ≤ x.length ∧ iv = .int .i64 (k : Int) ∧ Hid (Hold w wr [(w4.heap.size, [.slice ta x.length tc, .slice tb tx.length td], tablT13), (w5.heap.size, [.slice ua x.length uk, .slice ub tx.length ud], tablT13), (w8.heap.size, [.slice va x.length vk, .slice vb tx.length vd], tablT13)] (Sep (RowA shareT13 2 (.slice va x.length vk) x.length) (Sep (PlP g l1 0 1) (Sep (PlP g2 [] 0 0) Emp))))) (fun iv _ => x.length - (_root_.Go.RowKit.intOf iv).toNat)
              case atStart => exact ⟨0, by omega, rfl, H⟩
              case round =>
                clear H
                obtain ⟨k, hk, rfl, H⟩ := hrel
                have hk1 : IntKind.i64.wrap ((k : Int) + 1) = (k : Int) + 1 := IntWalk.i64_in _ ⟨by omega, by omega⟩
                have z0 := H.out.mem.cell (i := 2) (o := 0) rfl rfl
                have zl := H.out.mem.lt (i := 2) rfl
                by_cases hlt : k < x.length
                · have d1 : decide ((k : Int) < (x.length : Int)) = true := decide_eq_true (by omega)
                  have k1 : (0 : Int) ≤ (k : Int) := by omega
                  have k2 : (k : Int) < (x.length : Int) := by omega
                  obtain ⟨gb, rfl, hgb⟩ := H.out.see (p := ∃ g, va = some ⟨g, 0, none⟩ ∧ g < _) fun F ⟨_, _, q, _⟩ => rowA_at q (by omega)
                  go_wp2_with (refine hold_pokeA (t := 9) FL4.out rfl rfl rfl rfl (u := .string ⟨#[113, 45, 49]⟩) rfl (by kernel_rfl) H.out (by omega) rfl ?_; intro wq Hq)
                  refine Stay.go ?_
                  have H := Lib.hid Hq
                  clear Hq z0 zl hgb
                  go_wp2_with fail
                  go_roundw
                  case rel => exact ⟨k + 1, by omega, by go_num, H⟩
                  case measure => simp [_root_.Go.RowKit.intOf]; omega
                · obtain rfl : k = x.length := by omega
                  have d1 : decide ((x.length : Int) < (x.length : Int)) = false := decide_eq_false (by omega)
                  clear hk hk1 hlt
                  have H := Lib.hid H.out.drop1
                  clear FL4
                  go_wp2_with fail
                  refine (at_table H.out FD2.out fr13 (by decide) HL.out.2.2.2 HL.out.2.2.1 (sh := x) rfl (tg := tx) rfl).mono ?_
                  rintro e w10 ⟨xa, xc, xb, xd, rfl, hh⟩
                  clear H
                  have HQ := Lib.hid (hh.map fun F h => Sep.pull2 h)
                  have FQ := Lib.hid ((FP.out g2 [] 0 0).sep ((FP.out g l1 0 1).sep ((FT.out x tx (.slice xa x.length xc) (.slice xb tx.length xd)).sep FE.out)))
                  have HA := Lib.hid (HQ.out.alloc' FQ.out [.slice xa x.length xc, .slice xb tx.length xd] tablT13 rfl)
                  clear hh HQ
                  go_wp2_with fail
                  refine (at_table_no HA.out ((FP.out _ _ _ _).sep ((FT.out _ _ _ _).sep FE.out)) fr13 (by decide) rfl).mono ?_
                  rintro e w11 ⟨ra, rk, rb, rd, rfl, hh⟩
                  clear HA
                  have FS := Lib.hid ((FP.out g l1 0 1).sep ((FP.out g2 [] 0 0).sep ((FT.out x tx (.slice xa x.length xc) (.slice xb tx.length xd)).sep FE.out)))
                  have HA := (hold_drop2 hh).rot.alloc' FS.out [.slice ra 0 rk, .slice rb 0 rd] tablT13 rfl
                  obtain ⟨w12, hw12⟩ : ∃ w12, w12 = w11.alloc (.cells ([.slice ra 0 rk, .slice rb 0 rd] : List Value).toArray tablT13) := ⟨_, rfl⟩
                  rw [← hw12] at HA
                  obtain ⟨F, hF⟩ := HA.named
                  have HF := Lib.hid hF
                  have FS2 := Lib.hid (fun ua uk ub ud => (FP.out g l2 3 2).sep ((FT.out x tx (.slice ua x.length uk) (.slice ub tx.length ud)).sep ((FP.out g2 [] 0 0).sep ((FT.out x tx (.slice xa x.length xc) (.slice xb tx.length xd)).sep FE.out))))
                  have KC := Lib.hid (fun (w' : World) (h : Chg (fun j => F j ∨ w12.heap.size ≤ j) w12 w') => (⟨keepc HF.out h (i := 3) (o := 0) rfl rfl, keepc HF.out h (i := 3) (o := 1) rfl rfl, trivial⟩ : w'.cell? ⟨w10.heap.size, 0, none⟩ = some (.slice xa x.length xc) ∧ w'.cell? ⟨w10.heap.size, 1, none⟩ = some (.slice xb tx.length xd) ∧ True))
                  have M1 := Lib.hid (fun (w' : World) L A (h : Hold w w' L A) => make_at h.below HZ0.out HZ1.out HXX.out HTX.out)
                  have S1 := Lib.hid (fun (w' : World) L ma mk mb md (h : Hold w w' L (Sep (PlP g l1 0 1) (Sep (PlP g2 [] 0 0) (Sep (TabS x tx xa xc xb xd) Emp)))) (q : ShSl w' ma x ∧ TgSl w' mb tx) => same_true w' (c := xc) (d := xd) (c2 := mk) (d2 := md) (hold_rows3 h) q (by omega) (by omega))
                  have S2 := Lib.hid (fun (w' : World) L F ma mk mb md (h : HoldF w w' L (Sep (PlP g l1 0 1) (Sep (PlP g2 [] 0 0) (Sep (TabS x tx xa xc xb xd) Emp))) F) (q : ShSl w' ma x ∧ TgSl w' mb tx) => at_turnF h ((FP.out _ _ _ _).sep ((FT.out _ _ _ _).sep FE.out)) fr13 (by decide) ma x mk mb tx md 3 W (by omega) HL.out.2.2.2 MX.out q (by omega) (by omega) (by omega) HL.out.2.1.1 HL.out.2.1.2)
                  have S3 := Lib.hid (fun (w' : World) L ua uk ub ud ma mk mb md (h : Hold w w' L (Sep (PlP g l2 3 2) (Sep (TabS x tx ua uk ub ud) (Sep (PlP g2 [] 0 0) (Sep (TabS x tx xa xc xb xd) Emp))))) (q : ShSl w' ma x ∧ TgSl w' mb tx) => same_true w' (c := uk) (d := ud) (c2 := mk) (d2 := md) (hold_rows2 h) q (by omega) (by omega))
                  have HG := HF
                  clear hF HA hh
                  go_wp2_with fail
                  rw [← hw12]
                  clear hw12
                  refine Evo2.start' (ℓ := none) (S := Chg (fun j => F j ∨ w12.heap.size ≤ j)) (E := Grow.G) (by kernel_rfl) ⟨Chg.pre _, by decide +kernel, (by intro c a d v w h; cases d <;> exact h), by decide +kernel⟩ (fun ok => ?_)
                  first | (refine Evo2.vl ok 0 KC.out (Chg.refl (fun j => F j ∨ w12.heap.size ≤ j) _) _ _ ?_) | (refine Evo2.va ok 0 _ _ ?_)
                  refine Evo2.va ok 1 _ _ ?_
                  refine Evo2.va ok 2 _ _ ?_
                  refine Evo2.all [3] (by decide +kernel) rfl ?_
                  intro wp1 gp1 iq hq
                  simp only [List.mem_cons, List.mem_nil_iff, or_false] at hq
                  have AP1 := Chg.trans (Chg.refl (fun j => F j ∨ w12.heap.size ≤ j) _) (Chg.grow gp1)
                  (try replace MK := Lib.hid (tab_later MK.out gp1))
                  (try replace HG := Lib.hid (HG.out.grow FS.out gp1))
                  (try replace HF1 := Lib.hid (HF1.out.grow (FS2.out _ _ _ _) gp1))
                  subst hq
                  refine Evo2.enters 15 _ (by rfl) (by rfl) (by go_simp; exact ⟨rfl, rfl⟩) ?_
                  refine (M1.out wp1 _ _ HG.out.hold).mono ?_
                  rintro e wc1 ⟨ma, mk, mb, md, rfl, hmk, hg⟩; have CH1 : Chg (fun j => F j ∨ w12.heap.size ≤ j) _ _ := Chg.grow hg; have MK := Lib.hid hmk; clear hmk; replace HG := Lib.hid (HG.out.grow FS.out hg)
                  refine ⟨_, rfl, .inr CH1, ?_⟩
                  have AC1 := Chg.trans AP1 CH1
                  simp only [Act.put, L0, L1, L2]
                  refine Evo2.all [4] (by decide +kernel) rfl ?_
                  intro wp2 gp2 iq hq
                  simp only [List.mem_cons, List.mem_nil_iff, or_false] at hq
                  have AP2 := Chg.trans AC1 (Chg.grow gp2)
                  (try replace MK := Lib.hid (tab_later MK.out gp2))
                  (try replace HG := Lib.hid (HG.out.grow FS.out gp2))
                  (try replace HF1 := Lib.hid (HF1.out.grow (FS2.out _ _ _ _) gp2))
                  subst hq
                  refine Evo2.enters 16 _ (by rfl) (by rfl) (by go_simp; exact ⟨rfl, rfl⟩) ?_
                  refine (S1.out wp2 _ ma mk mb md HG.out.hold MK.out).mono ?_
                  rintro e wc2 ⟨rfl, hg⟩; have CH2 : Chg (fun j => F j ∨ w12.heap.size ≤ j) _ _ := Chg.grow hg; clear MK; replace HG := Lib.hid (HG.out.grow FS.out hg)
                  refine ⟨_, rfl, .inr CH2, ?_⟩
                  have AC2 := Chg.trans AP2 CH2
                  simp only [Act.put, L0, L1, L2]
                  refine Evo2.va ok 5 _ _ ?_
                  first | (refine Evo2.va ok 6 _ _ ?_) | (refine Evo2.vi ok 6 _ ?_)
                  first | (refine Evo2.va ok 7 _ _ ?_) | (refine Evo2.vi ok 7 _ ?_)
                  refine Evo2.va ok 8 _ _ ?_
                  refine Evo2.va ok 9 _ _ ?_
                  first | (refine Evo2.va ok 10 _ _ ?_) | (refine Evo2.vi ok 10 _ ?_)
                  first | (refine Evo2.va ok 11 _ _ ?_) | (refine Evo2.vi ok 11 _ ?_)
                  first | (refine Evo2.va ok 12 _ _ ?_) | (refine Evo2.vi ok 12 _ ?_)
                  first | (refine Evo2.va ok 14 _ _ ?_) | (refine Evo2.vi ok 14 _ ?_)
                  first | (refine Evo2.va ok 16 _ _ ?_) | (refine Evo2.vi ok 16 _ ?_)
                  first | (refine Evo2.va ok 17 _ _ ?_) | (refine Evo2.vi ok 17 _ ?_)
                  refine Evo2.all [13] (by decide +kernel) rfl ?_
                  intro wp3 gp3 iq hq
                  simp only [List.mem_cons, List.mem_nil_iff, or_false] at hq
                  have AP3 := Chg.trans AC2 (Chg.grow gp3)
                  (try replace MK := Lib.hid (tab_later MK.out gp3))
                  (try replace HG := Lib.hid (HG.out.grow FS.out gp3))
                  (try replace HF1 := Lib.hid (HF1.out.grow (FS2.out _ _ _ _) gp3))
                  subst hq
                  refine Evo2.enters 15 _ (by rfl) (by rfl) (by go_simp; exact ⟨rfl, rfl⟩) ?_
                  refine (M1.out wp3 _ _ HG.out.hold).mono ?_
                  rintro e wc3 ⟨na, nk, nb, nd, rfl, hmk, hg⟩; have CH3 : Chg (fun j => F j ∨ w12.heap.size ≤ j) _ _ := Chg.grow hg; have MK := Lib.hid hmk; clear hmk; replace HG := Lib.hid (HG.out.grow FS.out hg)
                  refine ⟨_, rfl, .inr CH3, ?_⟩
                  have AC3 := Chg.trans AP3 CH3
                  simp only [Act.put, L0, L1, L2]
                  refine Evo2.all [15] (by decide +kernel) rfl ?_
                  intro wp4 gp4 iq hq
                  simp only [List.mem_cons, List.mem_nil_iff, or_false] at hq
                  have AP4 := Chg.trans AC3 (Chg.grow gp4)
                  (try replace MK := Lib.hid (tab_later MK.out gp4))
                  (try replace HG := Lib.hid (HG.out.grow FS.out gp4))
                  (try replace HF1 := Lib.hid (HF1.out.grow (FS2.out _ _ _ _) gp4))
                  subst hq
                  refine Evo2.enters 17 _ (by rfl) (by rfl) (by go_simp; exact ⟨rfl, rfl⟩) ?_
                  refine (S2.out wp4 _ F na nk nb nd HG.out MK.out).mono ?_
                  rintro e wc4 ⟨ua, uk, ub, ud, rfl, F1, HF1, c4, -⟩; have CH4 : Chg (fun j => F j ∨ w12.heap.size ≤ j) _ _ := c4.mono (fun j _ h => .inl h); have HF1 := Lib.hid HF1; clear MK HG
                  refine ⟨_, rfl, .inr CH4, ?_⟩
                  have AC4 := Chg.trans AP4 CH4
                  simp only [Act.put, L0, L1, L2]
                  refine Evo2.all [18] (by decide +kernel) rfl ?_
                  intro wp5 gp5 iq hq
                  simp only [List.mem_cons, List.mem_nil_iff, or_false] at hq
                  have AP5 := Chg.trans AC4 (Chg.grow gp5)
                  (try replace MK := Lib.hid (tab_later MK.out gp5))
                  (try replace HG := Lib.hid (HG.out.grow FS.out gp5))
                  (try replace HF1 := Lib.hid (HF1.out.grow (FS2.out _ _ _ _) gp5))
                  subst hq
                  refine Evo2.enters 15 _ (by rfl) (by rfl) (by go_simp; exact ⟨rfl, rfl⟩) ?_
                  refine (M1.out wp5 _ _ HF1.out.hold).mono ?_
                  rintro e wc5 ⟨oa, ok', ob, od, rfl, hmk, hg⟩; have CH5 : Chg (fun j => F j ∨ w12.heap.size ≤ j) _ _ := Chg.grow hg; have MK := Lib.hid hmk; clear hmk; replace HF1 := Lib.hid (HF1.out.grow (FS2.out _ _ _ _) hg)
                  refine ⟨_, rfl, .inr CH5, ?_⟩
                  have AC5 := Chg.trans AP5 CH5
                  simp only [Act.put, L0, L1, L2]
                  refine Evo2.all [19] (by decide +kernel) rfl ?_
                  intro wp6 gp6 iq hq
                  simp only [List.mem_cons, List.mem_nil_iff, or_false] at hq
                  have AP6 := Chg.trans AC5 (Chg.grow gp6)
                  (try replace MK := Lib.hid (tab_later MK.out gp6))
                  (try replace HG := Lib.hid (HG.out.grow FS.out gp6))
                  (try replace HF1 := Lib.hid (HF1.out.grow (FS2.out _ _ _ _) gp6))
                  subst hq
                  refine Evo2.enters 16 _ (by rfl) (by rfl) (by go_simp; exact ⟨rfl, rfl⟩) ?_
                  refine (S3.out wp6 _ ua uk ub ud oa ok' ob od HF1.out.hold MK.out).mono ?_
                  rintro e wc6 ⟨rfl, hg⟩; have CH6 : Chg (fun j => F j ∨ w12.heap.size ≤ j) _ _ := Chg.grow hg; clear MK; replace HF1 := Lib.hid (HF1.out.grow (FS2.out _ _ _ _) hg)
                  refine ⟨_, rfl, .inr CH6, ?_⟩
                  have AC6 := Chg.trans AP6 CH6
                  simp only [Act.put, L0, L1, L2]
                  refine Evo2.va ok 20 _ _ ?_
                  refine Evo2.va ok 21 _ _ ?_
                  refine Evo2.done (by decide +kernel) (fun wz gz => ?_)
                  have AZ := Chg.trans AC6 (Chg.grow gz)
                  (try replace MK := Lib.hid (tab_later MK.out gz))
                  (try replace HG := Lib.hid (HG.out.grow FS.out gz))
                  (try replace HF1 := Lib.hid (HF1.out.grow (FS2.out _ _ _ _) gz))
                  have HB := Lib.hid HF1.out.hold.below
                  clear HF HF1 KC S1 S2 S3 M1
                  go_wp2_with fail
                  go_ret
                  exact ⟨rfl, HB.out⟩
end Go.Proofs.Ytjhfjjkfnmnkgaa

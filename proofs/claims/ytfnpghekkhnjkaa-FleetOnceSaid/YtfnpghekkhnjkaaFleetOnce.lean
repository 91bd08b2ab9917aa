
/- The walk of FleetOnce. -/
import Derived.Test.YtfnpghekkhnjkaaZ78
import Derived.Test.YtfnpghekkhnjkaaZ75
namespace Go.Proofs.Ytfnpghekkhnjkaa
set_option maxRecDepth 100000
set_option linter.unusedVariables false
set_option linter.unusedSimpArgs false
set_option linter.unnecessarySimpa false
open Go.RowKit Go.Args

set_option maxHeartbeats 64000000 in
theorem walkFleetOnce (w : World) (v : Value) (zs : List Int) (hz : IntSlice w v zs) (kill : Int) (hkill : wf64 kill) :
    Calls Try.prog 5 #[v, .int .i64 kill] w fun e w' => e = .returned (.bool true) ∧ Below w.heap.size w w' := by
  have KN := Lib.hid (fun w => known11_any w)
  have FE0 := Lib.hid Emp.foot
  obtain ⟨va, vc, rfl, hat⟩ := hz.open
  have HZ := Lib.hid hat
  clear hat hz
  have W6 := Lib.hid (fun w => within11_any kill 6 w (by omega) (by omega) hkill.1 hkill.2)
  have r6 := withinI_range kill 6 (by omega)
  obtain ⟨KK, hKK⟩ : ∃ KK : Nat, withinI kill 6 = KK := ⟨(withinI kill 6).toNat, by omega⟩
  rw [hKK] at W6 r6
  clear hkill hKK
  have O1 := Lib.hid once_1
  have O2 := Lib.hid once_2
  go_enter Try.func5, Try.ntmps5
  go_wp2_with fail
  refine (KN.out _).mono ?_
  rintro e w3 ⟨rfl, hg⟩
  have H := Lib.hid ((Hold.nil w).grow Emp.foot hg)
  clear hg
  go_wp2_with fail
  refine (hold_fnew H.out FE0.out 12 (by decide)).mono ?_
  rintro e w4 ⟨g, rfl, hh⟩
  replace H := Lib.hid hh
  clear hh
  go_wp2_with fail
  refine (hold_fscale H.out FE0.out rvA1 3 3 (by decide) (by decide) (by decide) (by decide) O1.out.1 O1.out.2.1 O1.out.2.2).mono ?_
  rintro e w5 ⟨v5, u5, rfl, hh⟩
  have hh2 := drop3 hh
  obtain ⟨a5, d5, rfl, -⟩ := hold_row hh
  replace H := Lib.hid hh2
  clear hh hh2
  go_wp2_with fail
  refine (hold_fscale H.out ((IntO.foot _ _).sep FE0.out) rvB1 3 3 (by decide) (by decide) (by decide) (by decide) O2.out.1 O2.out.2.1 O2.out.2.2).mono ?_
  rintro e w6 ⟨v6, u6, rfl, hh⟩
  obtain ⟨a6, d6, rfl, -⟩ := hold_row hh
  replace H := Lib.hid (drop3 hh)
  clear hh
  have FB := Lib.hid (fun f => (FlP.foot g f))
  have FR := Lib.hid (((IntO.foot (.slice a6 3 d6) [4, 5, 6]).sep ((IntO.foot (.slice a5 3 d5) [1, 2, 3]).sep FE0.out)))
  have HA : Hid (Hold w (w6.alloc (.cells #[] 3)) [] (Sep (FlP g (onceF 0)) (Sep (IntO (.slice (some ⟨w6.heap.size, 0, none⟩) 0 0) []) (Sep (IntO (.slice a6 3 d6) [4, 5, 6]) (Sep (IntO (.slice a5 3 d5) [1, 2, 3]) Emp))))) := Lib.hid
    (H.out.beside2 (FB.out _) FR.out (Grow.G.alloc (Grow.G.refl _) _) (IntO.empty w6) (fun k hk => by have hk : k = _ := hk; omega))
  go_wp2_with (refine wpList_appI (ys := [1, 2, 3]) rfl (.tmp 41) (.tmp 42) rfl HA.out (FB.out _) FR.out rfl rfl rfl (intR_src (v := .slice a5 3 d5) (base := 0) (c := d5) (hold_reads2 HA.out.drop1)) (by decide) ?_; intro a7 d7 w7 H7)
  refine Stay.go ?_
  have H7' := Lib.hid H7
  clear HA H H7
  go_wp2_with (refine wpList_appI (ys := [4, 5, 6]) rfl (.tmp 43) (.tmp 44) rfl H7'.out (FB.out _) FR.out rfl rfl rfl (intR_src (v := .slice a6 3 d6) (base := 0) (c := d6) (hold_reads8 H7'.out.drop1)) (by decide) ?_; intro a8 d8 w8 H8)
  refine Stay.go ?_
  have H : Hid (Hold w w8 [] (Sep (FlP g (onceF 0)) (Sep (IntO (.slice a8 6 d8) [1, 2, 3, 4, 5, 6]) Emp))) := Lib.hid (H8.weak fun F q => Sep.weakR q fun F q => Sep.weakR q fun F q => ⟨fun _ => False, fun _ => id, fun k h => h.elim⟩)
  clear H7' H8 FR
  have FR := Lib.hid ((IntO.foot (.slice a8 6 d8) [1, 2, 3, 4, 5, 6]).sep FE0.out)
  go_wp2_with fail
  go_loopw [11] (fun i wr => ∃ k : Nat, k ≤ 6 ∧ i = .int .i64 (k : Int) ∧ Hid (Hold w wr [] (Sep (FlP g (onceF k)) (Sep (IntO (.slice a8 6 d8) [1, 2, 3, 4, 5, 6]) Emp)))) (fun i _ => 6 - (_root_.Go.RowKit.intOf i).toNat)
  case atStart => exact ⟨0, by omega, rfl, H⟩
  case round =>
    clear H
    obtain ⟨k, hk, rfl, H⟩ := hrel
    have hk1 : IntKind.i64.wrap ((k : Int) + 1) = (k : Int) + 1 := IntWalk.i64_in _ ⟨by omega, by omega⟩
    by_cases hlt : k < 6
    · have b0 : decide ((k : Int) < 6) = true := decide_eq_true (by omega)
      have U := Lib.hid (once_up hlt)
      obtain ⟨b1, o1, rfl, hc⟩ := (off_intR (l := [1, 2, 3, 4, 5, 6]) (hold_reads8 H.out)).resolve_left (by simp)
      have c1 := hc k ((k : Int) + 1) (by obtain rfl | rfl | rfl | rfl | rfl | rfl : k = 0 ∨ k = 1 ∨ k = 2 ∨ k = 3 ∨ k = 4 ∨ k = 5 := by omega
                                          all_goals rfl)
      have lc1 := lt_of_cellO c1
      have k2 : (0 : Int) ≤ (k : Int) := by omega
      clear hc
      go_wp2_with fail
      refine (hold_fup (er := 0) (f' := onceF (k + 1)) H.out FR.out ((k : Int) + 1) ⟨by omega, by omega⟩ U.out.1 U.out.2).mono ?_
      rintro e ws1 ⟨rfl, hst⟩
      replace H := Lib.hid hst
      clear hst
      go_wp2_with fail
      go_roundw
      case rel => exact ⟨k + 1, by omega, by go_num, H⟩
      case measure => simp [_root_.Go.RowKit.intOf]; omega
    · have hk6 : k = 6 := by omega
      have H6 := H.out
      rw [hk6] at H6
      replace H := Lib.hid H6
      have hk7 : ¬ ((k : Int) < 6) := by omega
      have b0 : decide ((k : Int) < 6) = false := decide_eq_false hk7
      clear hk hlt hk1 hk6 H6
      obtain ⟨at0, h0⟩ : ∃ at0 : List Int, List.replicate 20 0 = at0 := ⟨_, rfl⟩
      have MZ : ∀ w, (Instr.makeSlice 22 (.int .i64 20) (.int .i64 20)).run Try.prog w = .ok (.slice (some ⟨w.heap.size, 0, none⟩) 20 20) (w.alloc (.cells (intsV at0).toArray 3)) := by rw [← h0]; exact fun w => make_ints 20 (by decide) w
      have I0 : Hid (OnceI (onceF 6) at0) := Lib.hid (by rw [← h0]; exact once_start (hold_fok H.out))
      have HA := Lib.hid (H.out.alloc' ((FB.out _).sep FR.out) (intsV at0) 3 rfl)
      obtain ⟨gb, hgb⟩ : ∃ gb, wr.heap.size = gb := ⟨_, rfl⟩
      rw [hgb] at HA
      clear h0
      go_wp2_with fail
      clear MZ hgb b0 hk7
      replace H := HA
      clear HA
      have FT := Lib.hid (fun f => (FlP.foot g f).sep FR.out)
      go_loopw [13] (fun i wr => ∃ (k : Nat) (f : Fl) (at_ : List Int), k ≤ 40 ∧ i = .int .i64 (k : Int) ∧ Hid (OnceI f at_) ∧ Hid (Hold w wr [(gb, intsV at_, 3)] (Sep (FlP g f) (Sep (IntO (.slice a8 6 d8) [1, 2, 3, 4, 5, 6]) Emp)))) (fun i _ => 40 - (_root_.Go.RowKit.intOf i).toNat)
      case atStart => exact ⟨0, _, at0, by omega, rfl, I0, H⟩
      case round =>
        clear H I0
        obtain ⟨k, f, at_, hk, rfl, HI, H⟩ := hrel
        have hk1 : IntKind.i64.wrap ((k : Int) + 1) = (k : Int) + 1 := IntWalk.i64_in _ ⟨by omega, by omega⟩
        by_cases h12 : k < zs.length ∧ k < 40
        · obtain ⟨h1, h2⟩ := h12
          have d1 : decide ((k : Int) < (zs.length : Int)) = true := decide_eq_true (by omega)
          have d2 : decide ((k : Int) < 40) = true := decide_eq_true (by omega)
          obtain ⟨b, off, hbo, hcz, hw⟩ := HZ.out.at H.out.below h1
          cases hbo
          generalize zs.getD k 0 = z at *
          have t1 := tdiv_wf hw 19 (by omega)
          have q19 := withinI_range z 19 (by omega)
          have q2 := withinI_range (z.tdiv 19) 2 (by omega)
          have W19 := Lib.hid (fun w => within11_any z 19 w (by omega) (by omega) hw.1 hw.2)
          have W2 := Lib.hid (fun w => within11_any (z.tdiv 19) 2 w (by omega) (by omega) t1.1 t1.2)
          have wz : wrap64 (z.tdiv 19) = z.tdiv 19 := IntWalk.wrap64_in _ (by unfold wf64 at t1; omega)
          obtain ⟨X, hX⟩ : ∃ X : Nat, 1 + withinI z 19 = (X : Int) := ⟨(1 + withinI z 19).toNat, by omega⟩
          have wX : IntKind.i64.wrap (1 + withinI z 19) = (X : Int) := by rw [hX]; exact IntWalk.i64_in _ ⟨by omega, by omega⟩
          have hX1 : 1 ≤ X ∧ X < 20 := by omega
          generalize withinI z 19 = c19 at *
          generalize withinI (z.tdiv 19) 2 = c2 at *
          have k1 : (0 : Int) ≤ (k : Int) := by omega
          have lz := lt_of_cellO hcz
          clear hw t1 q19 hX
          have hc2 : c2 = 0 ∨ c2 = 1 := by omega
          clear q2
          have HA : ∀ o, Hid (Hold w (wr.alloc o) [(gb, intsV at_, 3)] (Sep (FlP g f) (Sep (IntO (.slice a8 6 d8) [1, 2, 3, 4, 5, 6]) Emp))) := fun o => Lib.hid (H.out.grow (FT.out f) (Grow.G.alloc (Grow.G.refl _) _))
          have TK := Lib.hid (fun rv => HI.out.take rv hX1.1 hX1.2)
          have hx0 : (0 : Int) ≤ (X : Int) := by omega
          have hx2 : (X : Int) < 20 := by omega
          have hlen := HI.out.len
          rcases hc2 with rfl | rfl
          all_goals
            go_wp2_with fail
            refine (W19.out _).mono ?_
            rintro e wx ⟨rfl, rfl⟩
            go_wp2_with fail
            refine (W2.out _).mono ?_
            rintro e wx ⟨rfl, rfl⟩
            go_wp2_with fail
          · rcases TK.out rvA1 with ⟨t1, t2, t3⟩ | ⟨t1, hp6, t2, t4, t5⟩
            · refine (hold_ftake (er := 0) (bo := false) (f' := f) (HA _).out FR.out rvA1 (X : Int) (by decide) ⟨by omega, by omega⟩ t2 t1 t3).mono ?_
              rintro e w9 ⟨rfl, hst⟩
              replace H := Lib.hid hst
              clear hst t1 t2 t3 HA
              go_wp2_with fail
              go_roundw
              case rel => exact ⟨k + 1, f, at_, by omega, by go_num, HI, H⟩
              case measure => simp [_root_.Go.RowKit.intOf]; omega
            · obtain ⟨f2, hf2⟩ : ∃ f2, f.aftTake rvA1 X = f2 := ⟨_, rfl⟩
              obtain ⟨p, hp⟩ : ∃ p, f.take rvA1 X = p := ⟨_, rfl⟩
              rw [hf2, hp] at t4 t5
              rw [hp] at hp6
              refine (hold_ftake (er := p) (bo := true) (f' := f2) (HA _).out FR.out rvA1 (X : Int) (by decide) ⟨by omega, by omega⟩ hp t1 hf2).mono ?_
              rintro e w9 ⟨rfl, hst⟩
              replace H := Lib.hid hst
              have T5 := Lib.hid t5
              have T4 := Lib.hid t4
              have cX := ((H.out.mem.blk (i := 0) rfl).cell X).trans (show _ = some (.int .i64 0) by rw [List.getElem?_toArray, List.getElem?_map, t2]; rfl)
              have lX := lt_of_cellO cX
              clear hst t1 t2 t4 t5 HA hp hf2
              go_wp2_with fail
              refine (hold_fof (st := ⟨#[97, 45, 49]⟩) H.out FR.out p ⟨by omega, by omega⟩ T4.out).mono ?_
              rintro e ws2 ⟨rfl, hg9, hst⟩
              replace H := Lib.hid hst
              clear hst
              clear cX hg9 lX
              go_wp2_with (refine Hold.store 0 (t := 3) (FT.out f2) rfl rfl rfl rfl (vs := [.int .i64 p]) rfl (n := 1) (by kernel_rfl) H.out rfl rfl (by simp [hlen]; omega) rfl ?_; intro W8 HMm CW8)
              replace H := Lib.hid HMm
              clear HMm CW8
              refine Stay.go ?_
              go_wp2_with fail
              go_roundw
              case rel => exact ⟨k + 1, f2, at_.set X p, by omega, by go_num, T5, Lib.hid (by have := H.out; rw [← int_set at_ X p (by omega)]; exact this)⟩
              case measure => simp [_root_.Go.RowKit.intOf]; omega
          · rcases TK.out rvB1 with ⟨t1, t2, t3⟩ | ⟨t1, hp6, t2, t4, t5⟩
            · refine (hold_ftake (er := 0) (bo := false) (f' := f) (HA _).out FR.out rvB1 (X : Int) (by decide) ⟨by omega, by omega⟩ t2 t1 t3).mono ?_
              rintro e w9 ⟨rfl, hst⟩
              replace H := Lib.hid hst
              clear hst t1 t2 t3 HA
              go_wp2_with fail
              go_roundw
              case rel => exact ⟨k + 1, f, at_, by omega, by go_num, HI, H⟩
              case measure => simp [_root_.Go.RowKit.intOf]; omega
            · obtain ⟨f2, hf2⟩ : ∃ f2, f.aftTake rvB1 X = f2 := ⟨_, rfl⟩
              obtain ⟨p, hp⟩ : ∃ p, f.take rvB1 X = p := ⟨_, rfl⟩
              rw [hf2, hp] at t4 t5
              rw [hp] at hp6
              refine (hold_ftake (er := p) (bo := true) (f' := f2) (HA _).out FR.out rvB1 (X : Int) (by decide) ⟨by omega, by omega⟩ hp t1 hf2).mono ?_
              rintro e w9 ⟨rfl, hst⟩
              replace H := Lib.hid hst
              have T5 := Lib.hid t5
              have T4 := Lib.hid t4
              have cX := ((H.out.mem.blk (i := 0) rfl).cell X).trans (show _ = some (.int .i64 0) by rw [List.getElem?_toArray, List.getElem?_map, t2]; rfl)
              have lX := lt_of_cellO cX
              clear hst t1 t2 t4 t5 HA hp hf2
              go_wp2_with fail
              refine (hold_fof (st := ⟨#[98, 45, 49]⟩) H.out FR.out p ⟨by omega, by omega⟩ T4.out).mono ?_
              rintro e ws3 ⟨rfl, hg9, hst⟩
              replace H := Lib.hid hst
              clear hst
              clear cX hg9 lX
              go_wp2_with (refine Hold.store 0 (t := 3) (FT.out f2) rfl rfl rfl rfl (vs := [.int .i64 p]) rfl (n := 1) (by kernel_rfl) H.out rfl rfl (by simp [hlen]; omega) rfl ?_; intro W8 HMm CW8)
              replace H := Lib.hid HMm
              clear HMm CW8
              refine Stay.go ?_
              go_wp2_with fail
              go_roundw
              case rel => exact ⟨k + 1, f2, at_.set X p, by omega, by go_num, T5, Lib.hid (by have := H.out; rw [← int_set at_ X p (by omega)]; exact this)⟩
              case measure => simp [_root_.Go.RowKit.intOf]; omega
        · rcases Classical.em (k < zs.length) with q1 | q1
          case' inl =>
            have d1 : decide ((k : Int) < (zs.length : Int)) = true := decide_eq_true (by omega)
            have q2 : ¬ ((k : Int) < 40) := by omega
            have d2 : decide ((k : Int) < 40) = false := decide_eq_false q2
          case' inr =>
            have d1 : decide (k < zs.length) = false := decide_eq_false q1
          all_goals
            have KL := H.out
            obtain ⟨b1, o1, rfl, hc⟩ := (off_intR (l := [1, 2, 3, 4, 5, 6]) (hold_reads8 KL)).resolve_left (by simp)
            have c1 := hc KK ((KK : Int) + 1) (by
              have hk6 : KK < 6 := by omega
              clear r6 d1 q1 h12
              obtain rfl | rfl | rfl | rfl | rfl | rfl : KK = 0 ∨ KK = 1 ∨ KK = 2 ∨ KK = 3 ∨ KK = 4 ∨ KK = 5 := by omega
              all_goals rfl)
            have lc1 := lt_of_cellO c1
            clear hc KL
            obtain ⟨G, hG⟩ : ∃ G : Int → Int, whoL f.l = G := ⟨_, rfl⟩
            obtain ⟨K, hKK⟩ : ∃ K : Int, (KK : Int) + 1 = K := ⟨_, rfl⟩
            have hK6 : 1 ≤ K ∧ K ≤ 6 := by omega
            have KF := HI.out.kill (i := KK) (by omega)
            rw [hKK, hG] at KF
            have HW : Hid (∀ y : Nat, 1 ≤ y → y < 20 → at_[y]? = some (G y)) := Lib.hid (by rw [← hG]; exact HI.out.who)
            have HP : Hid (∀ y, G y = 0 ∨ 1 ≤ G y) := Lib.hid (by rw [← hG]; exact fun y => who_pos HI.out.ok y)
            have HKF := Lib.hid KF
            have hlen := HI.out.len
            rw [hKK] at c1
            clear KF hG HI
            go_wp2_with fail
            refine (W6.out _).mono ?_
            rintro e wx ⟨rfl, rfl⟩
            go_wp2_with fail
            clear c1 lc1 d1 hKK W6
            (first | clear d2 q2 | skip)
            have F6 := Lib.hid ((IntO.foot (.slice (some ⟨b1, o1, none⟩) 6 d8) [1, 2, 3, 4, 5, 6]).sep FE0.out)
            replace H := Lib.hid (H.out.beside2 (FB.out f) F6.out (Grow.G.refl _) (IntO.nil wr) (fun k hk => hk.elim))
            go_loopw [19, 20] (fun wv i W => ∃ (j : Nat) (a9 : Option Addr) (c9 : Nat), j ≤ 19 ∧ i = .int .i64 ((j : Int) + 1) ∧ wv = .slice a9 (wantF G K j).length c9 ∧ Hid (Hold w W [(gb, intsV at_, 3)] (Sep (FlP g f) (Sep (IntO (.slice a9 (wantF G K j).length c9) (wantF G K j)) (Sep (IntO (.slice (some ⟨b1, o1, none⟩) 6 d8) [1, 2, 3, 4, 5, 6]) Emp))))) (fun _ i _ => 20 - (_root_.Go.RowKit.intOf i).toNat)
            case atStart => exact ⟨0, none, 0, by omega, rfl, rfl, H⟩
            case round =>
              clear H
              obtain ⟨j, a9, c9, hj, rfl, rfl, H⟩ := hrel
              have hj1 : IntKind.i64.wrap ((j : Int) + 1 + 1) = (j : Int) + 1 + 1 := IntWalk.i64_in _ ⟨by omega, by omega⟩
              by_cases hlt : j < 19
              · have b0 : decide ((j : Int) + 1 < 20) = true := decide_eq_true (by omega)
                have cX := ((H.out.mem.blk (i := 0) rfl).cell (j + 1)).trans (show _ = some (.int .i64 (G ((j : Int) + 1))) by rw [List.getElem?_toArray, List.getElem?_map, HW.out (j + 1) (by omega) (by omega)]; rfl)
                have lX := lt_of_cellO cX
                have hx0 : (0 : Int) ≤ (j : Int) + 1 := by omega
                have hxn : ((j : Int) + 1).toNat = j + 1 := by omega
                have hWL := wantF_len G K j
                by_cases e : G ((j : Int) + 1) = K
                · have e1 : (G ((j : Int) + 1) == K) = true := by simpa using e
                  have HN := Lib.hid (show wantF G K (j + 1) = wantF G K j ++ [(j : Int) + 1] by show wantF G K j ++ _ = _; rw [if_pos e])
                  clear e
                  generalize G ((j : Int) + 1) = gy at *
                  generalize wantF G K j = wl at *
                  have F7 := Lib.hid ((IntO.foot (.slice a9 wl.length c9) wl).sep F6.out)
                  have HA := Lib.hid (H.out.grow ((FB.out f).sep F7.out) (Grow.G.alloc (Grow.G.refl _) (.cells #[.int .i64 ((j : Int) + 1)] 3)))
                  have SR := Lib.hid (blk_src (l := [(j : Int) + 1]) (Blk.new wr _ 3))
                  go_wp2_with (refine wpList_appI (ys := [(j : Int) + 1]) rfl (.tmp 131) (.tmp 133) rfl HA.out (FB.out f) F6.out rfl rfl rfl SR.out (by simp; omega) ?_; intro a10 c10 w10 H10)
                  refine Stay.go ?_
                  clear cX lX HA SR
                  have H11 := Lib.hid H10
                  clear H10
                  go_wp2_with fail
                  go_roundw
                  case rel => exact ⟨j + 1, a10, c10, by omega, by go_num, by rw [HN.out, List.length_append, List.length_singleton], by rw [HN.out]; exact H11⟩
                  case measure => simp [_root_.Go.RowKit.intOf]; omega
                · have e1 : (G ((j : Int) + 1) == K) = false := by simpa using e
                  have HN := Lib.hid (show wantF G K (j + 1) = wantF G K j by show wantF G K j ++ _ = _; rw [if_neg e, List.append_nil])
                  have ne : ¬ G ((j : Int) + 1) = K := e
                  clear e
                  generalize G ((j : Int) + 1) = gy at *
                  go_wp2_with fail
                  go_roundw
                  case rel => exact ⟨j + 1, a9, c9, by omega, by go_num, by rw [HN.out], by rw [HN.out]; exact H⟩
                  case measure => simp [_root_.Go.RowKit.intOf]; omega
              · have hj19 : j = 19 := by omega
                have b0 : decide ((j : Int) + 1 < 20) = false := decide_eq_false (by omega)
                have hj20 : ¬ ((j : Int) + 1 < 20) := by omega
                have HL := H.out
                rw [hj19] at HL
                have WL := wantF_len G K 19
                obtain ⟨wn, hwn⟩ : ∃ wn : Nat, (wantF G K j).length = wn := ⟨_, rfl⟩
                have hwl : (wantF G K 19).length = wn := by rw [← hwn, hj19]
                rw [hwl] at HL WL
                rw [hwn]
                replace H := Lib.hid HL
                have KF1 := HKF.out.1
                have KF2 := HKF.out.2.1
                have HK2 := Lib.hid HKF.out.2.2
                obtain ⟨wl, hwl2⟩ : ∃ wl, wantF G K 19 = wl := ⟨_, rfl⟩
                rw [hwl2] at KF2 H hwl
                have hlk : Hid (wl.length = wn) := Lib.hid hwl
                have F7 := Lib.hid ((IntO.foot (.slice a9 wn c9) wl).sep F6.out)
                obtain ⟨f2, hf2⟩ : ∃ f2, f.aftKill K = f2 := ⟨_, rfl⟩
                rw [hf2] at HK2
                have KK2 := Lib.hid (And.intro KF1 (And.intro KF2 hf2))
                clear hj19 HL hwn hwl hwl2 KF1 KF2 hf2
                go_wp2_with fail
                refine (hold_fkill (er := 0) (tl := wl) (f' := f2) H.out F7.out K ⟨by omega, by omega⟩ KK2.out.1 KK2.out.2.1 KK2.out.2.2).mono ?_
                rintro e w9 ⟨v9, rfl, hh⟩
                obtain ⟨a11, d11, rfl, hr1⟩ := hold_row hh
                have hr2 := off_intR (c := c9) (a := a9) (by have := hold_reads8 hh.drop1; rwa [← hlk.out] at this)
                replace H := Lib.hid (drop2 (drop2 hh))
                obtain rfl := hlk.out
                have IS := Lib.hid (ints8_same a11 a9 d11 c9 wl w9 (by omega) hr1 hr2)
                clear hh hr1 hr2 F7 hlk KK2
                have F8 := Lib.hid ((FB.out f2).sep F6.out)
                go_wp2_with fail
                refine IS.out.mono ?_
                rintro e w10 ⟨rfl, hg⟩
                replace H := Lib.hid (H.out.grow F8.out hg)
                clear hg IS
                go_wp2_with fail
                refine (hold_fof (st := ⟨#[]⟩) H.out F6.out K ⟨by omega, by omega⟩ HK2.out.1).mono ?_
                rintro e ws4 ⟨rfl, -, hst⟩
                replace H := Lib.hid hst
                clear hst
                go_wp2_with fail
                refine (hold_flive (er := 5) H.out F6.out (by rw [HK2.out.2.1]; rfl)).mono ?_
                rintro e ws5 ⟨rfl, -, hst⟩
                replace H := Lib.hid hst
                clear hst
                go_wp2_with fail
                have GI0 : Hid (GiveI (fun y => if G y = K then 0 else G y) 1 f2) := Lib.hid ⟨HK2.out.2.2.1, HK2.out.2.2.2.1, fun y _ => HK2.out.2.2.2.2 y⟩
                clear HKF HK2 F8
                go_loopw [23] (fun i W => ∃ (m : Nat) (f3 : Fl), 1 ≤ m ∧ m ≤ 20 ∧ i = .int .i64 (m : Int) ∧ Hid (GiveI (fun y => if G y = K then 0 else G y) (m : Int) f3) ∧ Hid (Hold w W [(gb, intsV at_, 3)] (Sep (FlP g f3) (Sep (IntO (.slice (some ⟨b1, o1, none⟩) 6 d8) [1, 2, 3, 4, 5, 6]) Emp)))) (fun i _ => 20 - (_root_.Go.RowKit.intOf i).toNat)
                case atStart => exact ⟨1, f2, by omega, by omega, rfl, GI0, H⟩
                case round =>
                  clear H GI0
                  obtain ⟨m, f3, hm1, hm2, rfl, GI, H⟩ := hrel
                  have hm3 : IntKind.i64.wrap ((m : Int) + 1) = (m : Int) + 1 := IntWalk.i64_in _ ⟨by omega, by omega⟩
                  by_cases hlt : m < 20
                  · have b0 : decide ((m : Int) < 20) = true := decide_eq_true (by omega)
                    obtain ⟨GV1, GV2⟩ := GI.out.step
                    have hx0 : (0 : Int) ≤ (m : Int) := by omega
                    obtain ⟨f4, hf4⟩ : ∃ f4, f3.aftGive (m : Int) = f4 := ⟨_, rfl⟩
                    rw [hf4] at GV2
                    have HG2 := Lib.hid GV2
                    have HP1 := HP.out (m : Int)
                    have cv := HW.out m hm1 hlt
                    obtain ⟨y, hy⟩ : ∃ y, G (m : Int) = y := ⟨_, rfl⟩
                    have GV1 : f3.give (m : Int) = if (if y = K then 0 else y) = 0 then 6 else 0 := by rw [GV1, ← hy]
                    rw [hy] at HP1 cv
                    have cv2 : (intsV at_)[m]? = some (.int .i64 y) := by rw [List.getElem?_map, cv]; rfl
                    clear GV2 hy
                    have hcase : (y = 0 ∧ f3.give (m : Int) = 6) ∨ (y = K ∧ f3.give (m : Int) = 6) ∨ (1 ≤ y ∧ y ≠ K ∧ f3.give (m : Int) = 0) := by
                      by_cases e1 : y = K
                      · rw [if_pos e1] at GV1; exact .inr (.inl ⟨e1, GV1⟩)
                      · rw [if_neg e1] at GV1
                        by_cases e2 : y = 0
                        · rw [if_pos e2] at GV1; exact .inl ⟨e2, GV1⟩
                        · rw [if_neg e2] at GV1; exact .inr (.inr ⟨by omega, e1, GV1⟩)
                    clear GV1
                    rcases hcase with ⟨rfl, gv⟩ | ⟨rfl, gv⟩ | ⟨hy1, hy2, gv⟩
                    case' inr.inl =>
                      have dy : decide (0 < y) = true := decide_eq_true (by omega)
                    case' inr.inr =>
                      have dy : decide (0 < y) = true := decide_eq_true (by omega)
                      have e2 : (y != K) = true := by simpa using hy2
                    all_goals
                      have HGV := Lib.hid gv
                      clear gv
                      go_wp2_with fail
                      refine (hold_fgive (st := f3.giveR (m : Int)) (f' := f4) H.out F6.out (m : Int) ⟨by omega, by omega⟩ rfl HGV.out hf4).mono ?_
                      rintro e w11 ⟨rfl, hst⟩
                      replace H := Lib.hid hst
                      clear hst
                      have cX := H.out.mem.cell (i := 0) rfl cv2
                      have lX := lt_of_cellO cX
                      have HH := H
                      go_wp2_with fail
                      go_roundw
                      case rel => exact ⟨m + 1, f4, by omega, by omega, by go_num, by have := HG2.out; exact Lib.hid this, H⟩
                      case measure => simp [_root_.Go.RowKit.intOf]; omega
                  · have hm20 : ¬ ((m : Int) < 20) := by omega
                    have b0 : decide ((m : Int) < 20) = false := decide_eq_false hm20
                    go_wp2_with fail
                    go_ret
                    exact ⟨rfl, H.out.below⟩
end Go.Proofs.Ytfnpghekkhnjkaa


/- The walk of FleetPicks. -/
import Derived.Test.YtfnpghekkhnjkaaZ78
import Derived.Test.YtfnpghekkhnjkaaZ75
import Derived.Test.YtfnpghekkhnjkaaZ67
namespace Go.Proofs.Ytfnpghekkhnjkaa
set_option maxRecDepth 100000
set_option linter.unusedVariables false
set_option linter.unusedSimpArgs false
set_option linter.unnecessarySimpa false
open Go.RowKit Go.Args

set_option maxHeartbeats 64000000 in
theorem walkFleetPicks (w : World) (n : Int) (hn : wf64 n) (cc : Int) (hcc : wf64 cc) (ua : Option Addr) (us : List Bool) (uc : Nat) (hu : BoolsIn w ua us) (v : Value) (zs : List Int) (hz : IntSlice w v zs) :
    Calls Try.prog 4 #[.int .i64 n, .int .i64 cc, .slice ua us.length uc, v] w fun e w' => e = .returned (.bool true) ∧ Below w.heap.size w w' := by
  have KN := Lib.hid (fun w => known11_any w)
  have FE0 := Lib.hid Emp.foot
  have HU := Lib.hid hu
  have hul := hu.le
  obtain ⟨va, vc, rfl, hat⟩ := hz.open
  have HZ := Lib.hid hat
  clear hat hz hu
  have WN := Lib.hid (fun w => within11_any n 8 w (by omega) (by omega) hn.1 hn.2)
  have WC := Lib.hid (fun w => within11_any cc 4 w (by omega) (by omega) hcc.1 hcc.2)
  have r8 := withinI_range n 8 (by omega)
  have r4 := withinI_range cc 4 (by omega)
  obtain ⟨N, hN⟩ : ∃ N : Nat, 1 + withinI n 8 = (N : Int) := ⟨(1 + withinI n 8).toNat, by omega⟩
  obtain ⟨C, hC⟩ : ∃ C : Int, 1 + withinI cc 4 = C := ⟨_, rfl⟩
  have w1 : IntKind.i64.wrap (1 + withinI n 8) = (N : Int) := by rw [hN]; exact IntWalk.i64_in _ ⟨by omega, by omega⟩
  have w2 : IntKind.i64.wrap (1 + withinI cc 4) = C := by rw [hC]; exact IntWalk.i64_in _ ⟨by omega, by omega⟩
  have hN8 : 1 ≤ N ∧ N ≤ 8 := by omega
  have hC4 : 1 ≤ C ∧ C ≤ 4 := by omega
  generalize withinI n 8 = n0 at *
  generalize withinI cc 4 = c0 at *
  clear hn hcc hN hC r8 r4
  have PS := Lib.hid (pick_start (c := C) (n := N) ⟨by omega, by omega⟩ (by omega))
  go_enter Try.func4, Try.ntmps4
  go_wp2_with fail
  refine (KN.out _).mono ?_
  rintro e w3 ⟨rfl, hg⟩
  have H := Lib.hid ((Hold.nil w).grow Emp.foot hg)
  clear hg
  go_wp2_with fail
  refine (hold_fnew H.out FE0.out 10 (by decide)).mono ?_
  rintro e w4 ⟨g, rfl, hh⟩
  replace H := Lib.hid hh
  clear hh
  go_wp2_with fail
  refine (WN.out _).mono ?_
  rintro e wx ⟨rfl, rfl⟩
  go_wp2_with fail
  refine (WC.out _).mono ?_
  rintro e wx ⟨rfl, rfl⟩
  clear WN WC
  go_wp2_with fail
  clear w1 w2
  obtain ⟨f0, hf0⟩ : ∃ f0, (Fl.new 10).scale rvA1 C N = f0 := ⟨_, rfl⟩
  rw [hf0] at PS
  refine (hold_fscale (f' := f0) H.out FE0.out rvA1 C N (by decide) ⟨by omega, by omega⟩ ⟨by omega, by omega⟩ (by decide) PS.out.1 PS.out.2.1 hf0).mono ?_
  rintro e w5 ⟨v5, u5, rfl, hh⟩
  have hh2 := drop3 hh
  obtain ⟨a5, d5, hv, -⟩ := hold_row hh
  rw [idsP_len] at hv
  subst hv
  replace H := Lib.hid hh2
  clear hh hh2 hf0
  have FB := Lib.hid (fun f => (FlP.foot g f))
  have FM := Lib.hid ((IntO.foot (.slice a5 N d5) (idsP 0 N)).sep FE0.out)
  have FT := Lib.hid (fun f => (FlP.foot g f).sep FM.out)
  have MZ : ∀ w, (Instr.makeSlice 22 (.int .i64 N) (.int .i64 N)).run Try.prog w = .ok (.slice (some ⟨w.heap.size, 0, none⟩) N N) (w.alloc (.cells (intsV (List.replicate N 0)).toArray 3)) := fun w => make_ints N (by omega) w
  have MB : ∀ w, (Instr.makeSlice 36 (.int .i64 N) (.int .i64 N)).run Try.prog w = .ok (.slice (some ⟨w.heap.size, 0, none⟩) N N) (w.alloc (.cells (boolsV (List.replicate N false)).toArray 4)) := fun w => make_bools N (by omega) w
  have HA := Lib.hid ((H.out.alloc' (FT.out f0) (intsV (List.replicate N 0)) 3 rfl).alloc' (FT.out f0) (boolsV (List.replicate N false)) 4 (g := w5.heap.size + 1) (by simp))
  obtain ⟨ld0, hld0⟩ : ∃ ld0 : List Int, List.replicate N 0 = ld0 := ⟨_, rfl⟩
  obtain ⟨rd0, hrd0⟩ : ∃ rd0 : List Bool, List.replicate N false = rd0 := ⟨_, rfl⟩
  obtain ⟨gl, hgl⟩ : ∃ gl, w5.heap.size = gl := ⟨_, rfl⟩
  rw [hld0] at MZ HA
  rw [hrd0] at MB HA
  rw [hgl] at HA
  have P0 := Lib.hid PS.out.2.2.1
  rw [hld0, hrd0] at P0
  have HN0 := Lib.hid PS.out.2.2.2
  go_wp2_with fail
  clear MZ MB hgl
  replace H := HA
  clear HA
  have R0 : Hid (∀ j, 0 ≤ j → j < N → rd0[j]? = some false) := Lib.hid (fun j _ hj => by rw [← hrd0, List.getElem?_replicate, if_pos hj])
  clear hrd0
  go_loopw [14] (fun i W => ∃ (k : Nat) (f : Fl) (rd : List Bool), k ≤ N ∧ i = .int .i64 (k : Int) ∧ Hid (PickI f C N ld0 rd) ∧ Hid (∀ j, k ≤ j → j < N → rd[j]? = some false) ∧ Hid (Hold w W [(gl, intsV ld0, 3), (gl + 1, boolsV rd, 4)] (Sep (FlP g f) (Sep (IntO (.slice a5 N d5) (idsP 0 N)) Emp)))) (fun i _ => N - (_root_.Go.RowKit.intOf i).toNat)
  case atStart => exact ⟨0, f0, rd0, by omega, rfl, P0, R0, H⟩
  case round =>
    clear H P0 R0
    obtain ⟨k, f, rd, hk, rfl, PI, RI, H⟩ := hrel
    have hk1 : IntKind.i64.wrap ((k : Int) + 1) = (k : Int) + 1 := IntWalk.i64_in _ ⟨by omega, by omega⟩
    by_cases hlt : k < N
    · have b0 : decide ((k : Int) < (N : Int)) = true := decide_eq_true (by omega)
      obtain ⟨b1, o1, rfl, hc⟩ := (off_intR2 (hold_reads8 H.out)).resolve_left (fun e => by have := idsP_len 0 N; rw [e] at this; have : N = 0 := this.symm; omega)
      have c1 := hc k ((k : Int) + 1) (by rw [idsP_at hlt]; congr 1; omega)
      have lc1 := lt_of_cellO c1
      have k2 : (0 : Int) ≤ (k : Int) := by omega
      clear hc
      have UP := Lib.hid (PI.out.up hlt (RI.out k (Nat.le_refl _) hlt))
      have hcase : (us.length ≤ k) ∨ (k < us.length ∧ us[k]? = some true) ∨ (k < us.length ∧ us[k]? = some false) := by
        rcases Nat.lt_or_ge k us.length with q | q
        · have := List.getElem?_eq_getElem q
          cases e : us[k] with
          | true => exact .inr (.inl ⟨q, by rw [this, e]⟩)
          | false => exact .inr (.inr ⟨q, by rw [this, e]⟩)
        · exact .inl q
      have hrl := PI.out.rl
      rcases hcase with q1 | ⟨q1, q2⟩ | ⟨q1, q2⟩
      case' inl =>
        have d1 : decide ((us.length : Int) ≤ (k : Int)) = true := decide_eq_true (by omega)
      case' inr.inl =>
        have d1 : decide (us.length ≤ k) = false := decide_eq_false (by omega)
        obtain ⟨b2, o2, rfl, c2⟩ := (HU.out.later H.out.below).at q2
        have lc2 := lt_of_cellO c2
      case' inr.inr =>
        have d1 : decide (us.length ≤ k) = false := decide_eq_false (by omega)
        obtain ⟨b2, o2, rfl, c2⟩ := (HU.out.later H.out.below).at q2
        have lc2 := lt_of_cellO c2
      case inr.inr =>
        clear UP
        go_wp2_with fail
        go_roundw
        case rel => exact ⟨k + 1, f, rd, by omega, by go_num, PI, Lib.hid (fun j h1 h2 => RI.out j (by omega) h2), H⟩
        case measure => simp [_root_.Go.RowKit.intOf]; omega
      all_goals
        go_wp2_with fail
        obtain ⟨f2, hf2⟩ : ∃ f2, f.aftUp ((k : Int) + 1) = f2 := ⟨_, rfl⟩
        have U1 := UP.out.1
        have U2 := Lib.hid UP.out.2.1
        rw [hf2] at U2
        refine (hold_fup (er := 0) (f' := f2) H.out FM.out ((k : Int) + 1) ⟨by omega, by omega⟩ U1 hf2).mono ?_
        rintro e w6 ⟨rfl, hst⟩
        replace H := Lib.hid hst
        clear hst U1 hf2 c1 lc1 UP
        (first | clear c2 lc2 | skip)
        go_wp2_with (refine Hold.store 1 (t := 4) ((FB.out f2).sep FM.out) rfl rfl rfl rfl (vs := [.bool true]) rfl (n := 1) (by kernel_rfl) H.out rfl rfl (by simp [hrl]; omega) rfl ?_; intro W8 HMm CW8)
        replace H := Lib.hid HMm
        clear HMm CW8
        refine Stay.go ?_
        go_wp2_with fail
        go_roundw
        case rel => exact ⟨k + 1, f2, rd.set k true, by omega, by go_num, U2, Lib.hid (fun j h1 h2 => by rw [List.getElem?_set_ne (by omega)]; exact RI.out j (by omega) h2), Lib.hid (by have := H.out; rw [← bool_set rd k true (by omega)]; exact this)⟩
        case measure => simp [_root_.Go.RowKit.intOf]; omega
    · have hnk : ¬ ((k : Int) < (N : Int)) := by omega
      have b0 : decide (k < N) = false := decide_eq_false hlt
      have W0 : Hid (WhI f []) := Lib.hid ⟨fun q hq => absurd hq (Nat.not_lt_zero _), fun y hy => absurd ((by rw [← hld0] at PI; exact PI.out.who0 y : whoL f.l y = 0)) hy⟩
      have H0 : Hid (Hold w wr [(gl, intsV ld0, 3), (gl + 1, boolsV rd, 4)] (Sep (FlP g f) (Sep (IntO (.slice none 0 0) []) Emp))) := Lib.hid ((drop2 H.out).beside2 (FB.out f) FE0.out (Grow.G.refl _) (IntO.nil wr) (fun k hk => hk.elim))
      have hkN : N ≤ k := by omega
      clear RI H
      go_wp2_with fail
      clear b0 hnk hlt
      have hrl := PI.out.rl
      go_loopw [15, 16] (fun wv i W => ∃ (m : Nat) (f : Fl) (ld whr : List Int) (aw : Option Addr) (cw : Nat), m ≤ 50 ∧ whr.length ≤ m ∧ wv = .slice aw whr.length cw ∧ i = .int .i64 (m : Int) ∧ Hid (PickI f C N ld rd) ∧ Hid (WhI f whr) ∧ Hid (Hold w W [(gl, intsV ld, 3), (gl + 1, boolsV rd, 4)] (Sep (FlP g f) (Sep (IntO (.slice aw whr.length cw) whr) Emp)))) (fun _ i _ => 50 - (_root_.Go.RowKit.intOf i).toNat)
      case atStart => exact ⟨0, f, ld0, [], none, 0, by omega, by simp, rfl, rfl, PI, W0, H0⟩
      case round =>
        clear H0 PI W0
        obtain ⟨m, f3, ld, whr, aw, cw, hm, hwm, rfl, rfl, PI, WI, H⟩ := hrel
        have hm1 : IntKind.i64.wrap ((m : Int) + 1) = (m : Int) + 1 := IntWalk.i64_in _ ⟨by omega, by omega⟩
        have hll := PI.out.ll
        by_cases h12 : m < zs.length ∧ m < 50
        · obtain ⟨h1, h2⟩ := h12
          have d1 : decide ((m : Int) < (zs.length : Int)) = true := decide_eq_true (by omega)
          have d2 : decide ((m : Int) < 50) = true := decide_eq_true (by omega)
          obtain ⟨b, off, hbo, hcz, hw⟩ := HZ.out.at H.out.below h1
          cases hbo
          generalize zs.getD m 0 = z at *
          have t1 := tdiv_wf hw 4 (by omega)
          have q4 := withinI_range z 4 (by omega)
          have W4 := Lib.hid (fun w => within11_any z 4 w (by omega) (by omega) hw.1 hw.2)
          have WQ := Lib.hid (fun (L : Int) (h1 : 1 ≤ L) (h2 : L ≤ 100) w => within11_any (z.tdiv 4) L w (by omega) (by omega) t1.1 t1.2)
          have wz : wrap64 (z.tdiv 4) = z.tdiv 4 := IntWalk.wrap64_in _ (by unfold wf64 at t1; omega)
          generalize withinI z 4 = c4 at *
          have k1 : (0 : Int) ≤ (m : Int) := by omega
          have lz := lt_of_cellO hcz
          clear hw t1
          have F7 := Lib.hid ((IntO.foot (.slice aw whr.length cw) whr).sep FE0.out)
          by_cases hg : c4 = 0 ∧ 0 < whr.length
          · obtain ⟨rfl, hg2⟩ := hg
            have d3 : decide (0 < whr.length) = true := decide_eq_true hg2
            clear q4
            have rq := withinI_range (z.tdiv 4) (whr.length : Int) (by omega)
            have WL := Lib.hid (WQ.out (whr.length : Int) (by omega) (by omega))
            obtain ⟨q, hq⟩ : ∃ q : Nat, withinI (z.tdiv 4) (whr.length : Int) = (q : Int) := ⟨(withinI (z.tdiv 4) (whr.length : Int)).toNat, by omega⟩
            rw [hq] at rq WL
            have hqw : q < whr.length := by omega
            have wq1 : IntKind.i64.wrap ((q : Int) + 1) = (q : Int) + 1 := IntWalk.i64_in _ ⟨by omega, by omega⟩
            clear hq WQ
            go_wp2_with fail
            refine (W4.out _).mono ?_
            rintro e wx ⟨rfl, rfl⟩
            go_wp2_with fail
            refine (WL.out _).mono ?_
            rintro e wx ⟨rfl, rfl⟩
            clear W4 WL
            have hy := WI.out.who q hqw
            obtain ⟨b9, o9, rfl, hc9⟩ := (off_intR2 (hold_reads8 H.out)).resolve_left (fun e => by rw [e] at hqw; exact absurd hqw (Nat.not_lt_zero _))
            have q0 : (0 : Int) ≤ (q : Int) := by omega
            have hwho := who_pos PI.out.ok ((q : Int) + 1)
            rcases hwho with hwho | hwho
            · rw [hwho] at hy
              have hy : whr[q]? = some (-1) := hy
              have GN := Lib.hid (PI.out.none hwho)
              go_wp2_with fail
              refine (hold_fgive (st := ⟨#[]⟩) (er := 6) (f' := f3) H.out F7.out ((q : Int) + 1) ⟨by omega, by omega⟩ GN.out.2.1 GN.out.1 GN.out.2.2).mono ?_
              rintro e w9 ⟨rfl, hst⟩
              replace H := Lib.hid hst
              obtain ⟨b9', o9', e9, hc9'⟩ := (off_intR2 (hold_reads8 H.out)).resolve_left (fun e => by rw [e] at hqw; exact absurd hqw (Nat.not_lt_zero _))
              cases e9
              have c9 := hc9' q _ hy
              have l9 := lt_of_cellO c9
              clear hc9 hc9' hst
              go_wp2_with fail
              go_roundw
              case rel => exact ⟨m + 1, f3, ld, whr, some ⟨b9, o9, none⟩, cw, by omega, by omega, rfl, by go_num, PI, WI, H⟩
              case measure => simp [_root_.Go.RowKit.intOf]; omega
            · obtain ⟨i, hi⟩ : ∃ i : Nat, whoL f3.l ((q : Int) + 1) = (i : Int) + 1 := ⟨(whoL f3.l ((q : Int) + 1) - 1).toNat, by omega⟩
              rw [hi] at hy
              have hy : whr[q]? = some (i : Int) := by rw [hy]; congr 1; omega
              obtain ⟨hin, g1, g2, M, g3, g4, g5, g6, g7⟩ := PI.out.give hi
              obtain ⟨f4, hf4⟩ : ∃ f4, f3.aftGive ((q : Int) + 1) = f4 := ⟨_, rfl⟩
              rw [hf4] at g5 g6 g7
              have P2 := Lib.hid g5
              have W2 := Lib.hid (WI.out.set hqw g6 g7)
              have GN := Lib.hid (And.intro g1 (And.intro g2 hf4))
              have hM := Lib.hid g3
              have wM : IntKind.i64.wrap (M : Int) = (M : Int) := IntWalk.i64_in _ ⟨by omega, by omega⟩
              have i0 : (0 : Int) ≤ (i : Int) := by omega
              have i1 : ¬ ((i : Int) < 0) := by omega
              have dI : decide ((i : Int) < 0) = false := decide_eq_false i1
              have hin2 : (i : Int) < (N : Int) := by omega
              clear g1 g2 g3 g5 g6 g7 hf4 hi hwho
              go_wp2_with fail
              refine (hold_fgive (st := ⟨#[97, 45, 49]⟩) (er := 0) (f' := f4) H.out F7.out ((q : Int) + 1) ⟨by omega, by omega⟩ GN.out.2.1 GN.out.1 GN.out.2.2).mono ?_
              rintro e w9 ⟨rfl, hst⟩
              replace H := Lib.hid hst
              obtain ⟨b9', o9', e9, hc9'⟩ := (off_intR2 (hold_reads8 H.out)).resolve_left (fun e => by rw [e] at hqw; exact absurd hqw (Nat.not_lt_zero _))
              cases e9
              have c9 := hc9' q _ hy
              have l9 := lt_of_cellO c9
              have cL := H.out.mem.cell (i := 0) (o := i) rfl (show (intsV ld)[i]? = some (.int .i64 ((M : Int) + 1)) by rw [List.getElem?_map, hM.out]; rfl)
              have lL := lt_of_cellO cL
              have hild : i < ld.length := by omega
              clear hc9 hc9' hst hM
              go_wp2_with (refine Hold.store 0 (t := 3) ((FB.out f4).sep F7.out) rfl rfl rfl rfl (vs := [.int .i64 (M : Int)]) rfl (n := 1) (by kernel_rfl) H.out rfl rfl (by simp; omega) rfl ?_; intro W8 HMm CW8)
              replace H := Lib.hid HMm
              clear HMm CW8 c9 l9 cL lL
              refine Stay.go ?_
              go_wp2_with (refine wpList_setI (t := 3) (x := -1) ((FB.out f4).sep FE0.out) rfl rfl rfl rfl (by kernel_rfl) H.out.rot rfl hqw ?_; intro W9 H9)
              refine Stay.go ?_
              have H9' := Lib.hid H9.rot
              clear H9 H
              go_wp2_with fail
              go_roundw
              case rel => exact ⟨m + 1, f4, ld.set i (M : Int), whr.set q (-1), some ⟨b9, o9, none⟩, cw, by omega, by rw [List.length_set]; omega, by rw [List.length_set], by go_num, P2, W2, Lib.hid (by have := H9'.out; rw [← int_set ld i (M : Int) hild, List.length_set]; exact this)⟩
              case measure => simp [_root_.Go.RowKit.intOf]; omega
          · have hcase : (c4 == 0) = false ∨ ((c4 == 0) = true ∧ decide (0 < whr.length) = false) := by
              by_cases e : c4 = 0
              · exact .inr ⟨by simpa using e, decide_eq_false (fun q => hg ⟨e, q⟩)⟩
              · exact .inl (by simpa using e)
            have wl1 : IntKind.i64.wrap ((whr.length : Int) + 1) = (whr.length : Int) + 1 := IntWalk.i64_in _ ⟨by omega, by omega⟩
            have TK := Lib.hid (PI.out.take (x := (whr.length : Int) + 1) ⟨by omega, by omega⟩ WI.out.fresh)
            have SR := Lib.hid (fun w (x : Int) => blk_src (l := [x]) (Blk.new w _ 3))
            clear hg q4 WQ
            refine wp_seq_S ?_
            go_wp2_with fail
            refine Stay.go ?_
            refine wp_seq ?_
            refine wp_block ?_
            (repeat refine wp_seq ?_)
            refine wp_spec (fun a0 A W => ∃ x92 x93 x94 x95 x96 x97 x98 x99 x100 x101 : Value, A = (((((((((((a0.put (some 92) x92).put (some 93) x93).put (some 94) x94).put (some 95) x95).put (some 96) x96).put (some 97) x97).put (some 98) x98).put (some 99) x99).put (some 100) x100).put (some 101) x101).put (some 102) (.bool false)) ∧ W = wr) ?_ ?_
            all_goals simp only [Act.put, L0, L1, L2]
            ·
              rcases hcase with d3 | ⟨d3, d4⟩
              all_goals
                go_wp2_with fail
                refine (W4.out _).mono ?_
                rintro e wx ⟨rfl, rfl⟩
                go_wp2_with fail
                dsimp only [PostN]
                (repeat apply Exists.intro)
                exact ⟨rfl, rfl⟩
            ·
              rintro A W9 ⟨x92, x93, x94, x95, x96, x97, x98, x99, x100, x101, rfl, rfl⟩
              clear W4 wz d1 d2 hcase
              go_wp2_with fail
              go_loopw [20, 21] (fun bv kv wb => ∃ (j : Nat) (B : Int), j ≤ N ∧ kv = .int .i64 (j : Int) ∧ bv = .int .i64 B ∧ Hid (PickI.bestV (pickP (f3.l.take j) rvA1) = B) ∧ (-1 ≤ B ∧ B < (j : Int)) ∧ Hid (Hold w wb [(gl, intsV ld, 3), (gl + 1, boolsV rd, 4)] (Sep (FlP g f3) (Sep (IntO (.slice aw whr.length cw) whr) Emp)))) (fun _ kv _ => N - (_root_.Go.RowKit.intOf kv).toNat)
              case atStart => exact ⟨0, -1, by omega, rfl, rfl, Lib.hid (PickI.best_start f3), ⟨by decide, by decide⟩, H⟩
              case round =>
                clear H
                obtain ⟨j, B, hj, rfl, rfl, HB, hB, H⟩ := hrel
                have hj1 : IntKind.i64.wrap ((j : Int) + 1) = (j : Int) + 1 := IntWalk.i64_in _ ⟨by omega, by omega⟩
                by_cases hlt : j < N
                · have b0 : decide ((j : Int) < (N : Int)) = true := decide_eq_true (by omega)
                  obtain ⟨rb, hrb⟩ : ∃ rb, rd[j]? = some rb := ⟨_, List.getElem?_eq_getElem (by omega)⟩
                  obtain ⟨x, hx⟩ : ∃ x, ld[j]? = some x := ⟨_, List.getElem?_eq_getElem (by omega)⟩
                  have BS := PI.out.best_step hlt hrb hx
                  rw [HB.out] at BS
                  have cR := H.out.mem.cell (i := 1) (o := j) rfl (show (boolsV rd)[j]? = some (.bool rb) by rw [List.getElem?_map, hrb]; rfl)
                  have cL := H.out.mem.cell (i := 0) (o := j) rfl (show (intsV ld)[j]? = some (.int .i64 x) by rw [List.getElem?_map, hx]; rfl)
                  have j0 : (0 : Int) ≤ (j : Int) := by omega
                  have jN : (j : Int) < (N : Int) := by omega
                  rcases BS with ⟨hno, e1⟩ | ⟨⟨rfl, hxc⟩, e0, e1⟩ | ⟨⟨rfl, hxc⟩, jj, y, hjj, e0, hy, hyy⟩
                  · have HB2 := Lib.hid e1
                    clear e1
                    cases hb : rb with
                    | false =>
                      subst hb
                      have KC := Lib.hid (fun (w' : World) (h : Chg (fun _ => False) wr w') => (⟨h.cell cR id, h.cell cL id, h.cell cL id, trivial⟩ : w'.cell? ⟨gl + 1, j, none⟩ = some (.bool false) ∧ w'.cell? ⟨gl, j, none⟩ = some (.int .i64 x) ∧ w'.cell? ⟨gl, j, none⟩ = some (.int .i64 x) ∧ True))
                      clear cR cL
                      go_wp2_with fail
                      refine Evo2.start' (ℓ := none) (S := Chg (fun _ => False)) (E := Grow.G) (by kernel_rfl) ⟨Chg.pre _, by decide +kernel, (by intro c a d v w h; cases d <;> exact h), by decide +kernel⟩ (fun ok => ?_)
                      refine Evo2.va ok 0 _ _ ?_
                      refine Evo2.va ok 1 _ _ ?_
                      refine Evo2.va ok 2 _ _ ?_
                      first | (refine Evo2.vl ok 3 KC.out (Chg.refl (fun _ => False) _) _ _ ?_) | (refine Evo2.va ok 3 _ _ ?_)
                      refine Evo2.va ok 4 _ _ ?_
                      first | (refine Evo2.va ok 5 _ _ ?_) | (refine Evo2.vi ok 5 _ ?_)
                      first | (refine Evo2.va ok 6 _ _ ?_) | (refine Evo2.vi ok 6 _ ?_)
                      first | (refine Evo2.va ok 7 _ _ ?_) | (refine Evo2.vi ok 7 _ ?_)
                      first | (refine Evo2.vl ok 8 KC.out (Chg.refl (fun _ => False) _) _ _ ?_) | (refine Evo2.va ok 8 _ _ ?_) | (refine Evo2.vi ok 8 _ ?_)
                      first | (refine Evo2.va ok 9 _ _ ?_) | (refine Evo2.vi ok 9 _ ?_)
                      first | (refine Evo2.va ok 10 _ _ ?_) | (refine Evo2.vi ok 10 _ ?_)
                      refine Evo2.va ok 11 _ _ ?_
                      refine Evo2.va ok 12 _ _ ?_
                      first | (refine Evo2.va ok 13 _ _ ?_) | (refine Evo2.vi ok 13 _ ?_)
                      first | (refine Evo2.va ok 14 _ _ ?_) | (refine Evo2.vi ok 14 _ ?_)
                      first | (refine Evo2.va ok 15 _ _ ?_) | (refine Evo2.vi ok 15 _ ?_)
                      first | (refine Evo2.va ok 16 _ _ ?_) | (refine Evo2.vi ok 16 _ ?_)
                      first | (refine Evo2.va ok 17 _ _ ?_) | (refine Evo2.vi ok 17 _ ?_)
                      first | (refine Evo2.va ok 18 _ _ ?_) | (refine Evo2.vi ok 18 _ ?_)
                      first | (refine Evo2.vl ok 19 KC.out (Chg.refl (fun _ => False) _) _ _ ?_) | (refine Evo2.va ok 19 _ _ ?_) | (refine Evo2.vi ok 19 _ ?_)
                      first | (refine Evo2.va ok 20 _ _ ?_) | (refine Evo2.vi ok 20 _ ?_)
                      first | (refine Evo2.va ok 21 _ _ ?_) | (refine Evo2.vi ok 21 _ ?_)
                      first | (refine Evo2.va ok 22 _ _ ?_) | (refine Evo2.vi ok 22 _ ?_)
                      first | (refine Evo2.vl ok 23 KC.out (Chg.refl (fun _ => False) _) _ _ ?_) | (refine Evo2.va ok 23 _ _ ?_) | (refine Evo2.vi ok 23 _ ?_)
                      first | (refine Evo2.va ok 24 _ _ ?_) | (refine Evo2.vi ok 24 _ ?_)
                      first | (refine Evo2.va ok 25 _ _ ?_) | (refine Evo2.vi ok 25 _ ?_)
                      refine Evo2.va ok 26 _ _ ?_
                      refine Evo2.done (by decide +kernel) (fun wz gz => ?_)
                      have AZ := Chg.trans (Chg.refl (fun _ => False) _) (Chg.grow gz)
                      have H2 := Lib.hid (H.out.grow ((FB.out f3).sep F7.out) (AZ.toGrow (fun _ _ => id)))
                      clear AZ gz KC
                      go_wp2_with fail
                      go_roundw
                      case rel => exact ⟨j + 1, B, by omega, by go_num, rfl, HB2, ⟨by omega, by omega⟩, H2⟩
                      case measure => simp [_root_.Go.RowKit.intOf]; omega
                    | true =>
                      subst hb
                      have hxc : ¬ x < C := hno.resolve_left (by simp)
                      have dx : decide (x < C) = false := decide_eq_false hxc
                      clear hno
                      have KC := Lib.hid (fun (w' : World) (h : Chg (fun _ => False) wr w') => (⟨h.cell cR id, h.cell cL id, h.cell cL id, trivial⟩ : w'.cell? ⟨gl + 1, j, none⟩ = some (.bool true) ∧ w'.cell? ⟨gl, j, none⟩ = some (.int .i64 x) ∧ w'.cell? ⟨gl, j, none⟩ = some (.int .i64 x) ∧ True))
                      clear cR cL
                      go_wp2_with fail
                      refine Evo2.start' (ℓ := none) (S := Chg (fun _ => False)) (E := Grow.G) (by kernel_rfl) ⟨Chg.pre _, by decide +kernel, (by intro c a d v w h; cases d <;> exact h), by decide +kernel⟩ (fun ok => ?_)
                      refine Evo2.va ok 0 _ _ ?_
                      refine Evo2.va ok 1 _ _ ?_
                      refine Evo2.va ok 2 _ _ ?_
                      first | (refine Evo2.vl ok 3 KC.out (Chg.refl (fun _ => False) _) _ _ ?_) | (refine Evo2.va ok 3 _ _ ?_)
                      refine Evo2.va ok 4 _ _ ?_
                      first | (refine Evo2.va ok 5 _ _ ?_) | (refine Evo2.vi ok 5 _ ?_)
                      first | (refine Evo2.va ok 6 _ _ ?_) | (refine Evo2.vi ok 6 _ ?_)
                      first | (refine Evo2.va ok 7 _ _ ?_) | (refine Evo2.vi ok 7 _ ?_)
                      first | (refine Evo2.vl ok 8 KC.out (Chg.refl (fun _ => False) _) _ _ ?_) | (refine Evo2.va ok 8 _ _ ?_) | (refine Evo2.vi ok 8 _ ?_)
                      first | (refine Evo2.va ok 9 _ _ ?_) | (refine Evo2.vi ok 9 _ ?_)
                      first | (refine Evo2.va ok 10 _ _ ?_) | (refine Evo2.vi ok 10 _ ?_)
                      refine Evo2.va ok 11 _ _ ?_
                      refine Evo2.va ok 12 _ _ ?_
                      first | (refine Evo2.va ok 13 _ _ ?_) | (refine Evo2.vi ok 13 _ ?_)
                      first | (refine Evo2.va ok 14 _ _ ?_) | (refine Evo2.vi ok 14 _ ?_)
                      first | (refine Evo2.va ok 15 _ _ ?_) | (refine Evo2.vi ok 15 _ ?_)
                      first | (refine Evo2.va ok 16 _ _ ?_) | (refine Evo2.vi ok 16 _ ?_)
                      first | (refine Evo2.va ok 17 _ _ ?_) | (refine Evo2.vi ok 17 _ ?_)
                      first | (refine Evo2.va ok 18 _ _ ?_) | (refine Evo2.vi ok 18 _ ?_)
                      first | (refine Evo2.vl ok 19 KC.out (Chg.refl (fun _ => False) _) _ _ ?_) | (refine Evo2.va ok 19 _ _ ?_) | (refine Evo2.vi ok 19 _ ?_)
                      first | (refine Evo2.va ok 20 _ _ ?_) | (refine Evo2.vi ok 20 _ ?_)
                      first | (refine Evo2.va ok 21 _ _ ?_) | (refine Evo2.vi ok 21 _ ?_)
                      first | (refine Evo2.va ok 22 _ _ ?_) | (refine Evo2.vi ok 22 _ ?_)
                      first | (refine Evo2.vl ok 23 KC.out (Chg.refl (fun _ => False) _) _ _ ?_) | (refine Evo2.va ok 23 _ _ ?_) | (refine Evo2.vi ok 23 _ ?_)
                      first | (refine Evo2.va ok 24 _ _ ?_) | (refine Evo2.vi ok 24 _ ?_)
                      first | (refine Evo2.va ok 25 _ _ ?_) | (refine Evo2.vi ok 25 _ ?_)
                      refine Evo2.va ok 26 _ _ ?_
                      refine Evo2.done (by decide +kernel) (fun wz gz => ?_)
                      have AZ := Chg.trans (Chg.refl (fun _ => False) _) (Chg.grow gz)
                      have H2 := Lib.hid (H.out.grow ((FB.out f3).sep F7.out) (AZ.toGrow (fun _ _ => id)))
                      clear AZ gz KC
                      go_wp2_with fail
                      go_roundw
                      case rel => exact ⟨j + 1, B, by omega, by go_num, rfl, HB2, ⟨by omega, by omega⟩, H2⟩
                      case measure => simp [_root_.Go.RowKit.intOf]; omega
                  · have HB2 := Lib.hid e1
                    subst e0
                    clear e1
                    have dx : decide (x < C) = true := decide_eq_true hxc
                    have KC := Lib.hid (fun (w' : World) (h : Chg (fun _ => False) wr w') => (⟨h.cell cR id, h.cell cL id, h.cell cL id, trivial⟩ : w'.cell? ⟨gl + 1, j, none⟩ = some (.bool true) ∧ w'.cell? ⟨gl, j, none⟩ = some (.int .i64 x) ∧ w'.cell? ⟨gl, j, none⟩ = some (.int .i64 x) ∧ True))
                    clear cR cL
                    go_wp2_with fail
                    refine Evo2.start' (ℓ := none) (S := Chg (fun _ => False)) (E := Grow.G) (by kernel_rfl) ⟨Chg.pre _, by decide +kernel, (by intro c a d v w h; cases d <;> exact h), by decide +kernel⟩ (fun ok => ?_)
                    refine Evo2.va ok 0 _ _ ?_
                    refine Evo2.va ok 1 _ _ ?_
                    refine Evo2.va ok 2 _ _ ?_
                    first | (refine Evo2.vl ok 3 KC.out (Chg.refl (fun _ => False) _) _ _ ?_) | (refine Evo2.va ok 3 _ _ ?_)
                    refine Evo2.va ok 4 _ _ ?_
                    first | (refine Evo2.va ok 5 _ _ ?_) | (refine Evo2.vi ok 5 _ ?_)
                    first | (refine Evo2.va ok 6 _ _ ?_) | (refine Evo2.vi ok 6 _ ?_)
                    first | (refine Evo2.va ok 7 _ _ ?_) | (refine Evo2.vi ok 7 _ ?_)
                    first | (refine Evo2.vl ok 8 KC.out (Chg.refl (fun _ => False) _) _ _ ?_) | (refine Evo2.va ok 8 _ _ ?_) | (refine Evo2.vi ok 8 _ ?_)
                    first | (refine Evo2.va ok 9 _ _ ?_) | (refine Evo2.vi ok 9 _ ?_)
                    first | (refine Evo2.va ok 10 _ _ ?_) | (refine Evo2.vi ok 10 _ ?_)
                    refine Evo2.va ok 11 _ _ ?_
                    refine Evo2.va ok 12 _ _ ?_
                    first | (refine Evo2.va ok 13 _ _ ?_) | (refine Evo2.vi ok 13 _ ?_)
                    first | (refine Evo2.va ok 14 _ _ ?_) | (refine Evo2.vi ok 14 _ ?_)
                    first | (refine Evo2.va ok 15 _ _ ?_) | (refine Evo2.vi ok 15 _ ?_)
                    first | (refine Evo2.va ok 16 _ _ ?_) | (refine Evo2.vi ok 16 _ ?_)
                    first | (refine Evo2.va ok 17 _ _ ?_) | (refine Evo2.vi ok 17 _ ?_)
                    first | (refine Evo2.va ok 18 _ _ ?_) | (refine Evo2.vi ok 18 _ ?_)
                    first | (refine Evo2.vl ok 19 KC.out (Chg.refl (fun _ => False) _) _ _ ?_) | (refine Evo2.va ok 19 _ _ ?_) | (refine Evo2.vi ok 19 _ ?_)
                    first | (refine Evo2.va ok 20 _ _ ?_) | (refine Evo2.vi ok 20 _ ?_)
                    first | (refine Evo2.va ok 21 _ _ ?_) | (refine Evo2.vi ok 21 _ ?_)
                    first | (refine Evo2.va ok 22 _ _ ?_) | (refine Evo2.vi ok 22 _ ?_)
                    first | (refine Evo2.vl ok 23 KC.out (Chg.refl (fun _ => False) _) _ _ ?_) | (refine Evo2.va ok 23 _ _ ?_) | (refine Evo2.vi ok 23 _ ?_)
                    first | (refine Evo2.va ok 24 _ _ ?_) | (refine Evo2.vi ok 24 _ ?_)
                    first | (refine Evo2.va ok 25 _ _ ?_) | (refine Evo2.vi ok 25 _ ?_)
                    refine Evo2.va ok 26 _ _ ?_
                    refine Evo2.done (by decide +kernel) (fun wz gz => ?_)
                    have AZ := Chg.trans (Chg.refl (fun _ => False) _) (Chg.grow gz)
                    have H2 := Lib.hid (H.out.grow ((FB.out f3).sep F7.out) (AZ.toGrow (fun _ _ => id)))
                    clear AZ gz KC
                    go_wp2_with fail
                    go_roundw
                    case rel => exact ⟨j + 1, (j : Int), by omega, by go_num, rfl, HB2, ⟨by omega, by omega⟩, H2⟩
                    case measure => simp [_root_.Go.RowKit.intOf]; omega
                  · subst e0
                    have dx : decide (x < C) = true := decide_eq_true hxc
                    have jj1 : ¬ ((jj : Int) < 0) := by omega
                    have djj : decide ((jj : Int) < 0) = false := decide_eq_false jj1
                    have jj0 : (0 : Int) ≤ (jj : Int) := by omega
                    have jjN : (jj : Int) < (N : Int) := by omega
                    have cB := H.out.mem.cell (i := 0) (o := jj) rfl (show (intsV ld)[jj]? = some (.int .i64 y) by rw [List.getElem?_map, hy]; rfl)
                    rcases hyy with ⟨hxy, e1⟩ | ⟨hxy, e1⟩
                    · have HB2 := Lib.hid e1
                      clear e1
                      have dy : decide (x < y) = true := decide_eq_true hxy
                      have KC := Lib.hid (fun (w' : World) (h : Chg (fun _ => False) wr w') => (⟨h.cell cR id, h.cell cL id, h.cell cB id, trivial⟩ : w'.cell? ⟨gl + 1, j, none⟩ = some (.bool true) ∧ w'.cell? ⟨gl, j, none⟩ = some (.int .i64 x) ∧ w'.cell? ⟨gl, jj, none⟩ = some (.int .i64 y) ∧ True))
                      clear cR cL
                      go_wp2_with fail
                      refine Evo2.start' (ℓ := none) (S := Chg (fun _ => False)) (E := Grow.G) (by kernel_rfl) ⟨Chg.pre _, by decide +kernel, (by intro c a d v w h; cases d <;> exact h), by decide +kernel⟩ (fun ok => ?_)
                      refine Evo2.va ok 0 _ _ ?_
                      refine Evo2.va ok 1 _ _ ?_
                      refine Evo2.va ok 2 _ _ ?_
                      first | (refine Evo2.vl ok 3 KC.out (Chg.refl (fun _ => False) _) _ _ ?_) | (refine Evo2.va ok 3 _ _ ?_)
                      refine Evo2.va ok 4 _ _ ?_
                      first | (refine Evo2.va ok 5 _ _ ?_) | (refine Evo2.vi ok 5 _ ?_)
                      first | (refine Evo2.va ok 6 _ _ ?_) | (refine Evo2.vi ok 6 _ ?_)
                      first | (refine Evo2.va ok 7 _ _ ?_) | (refine Evo2.vi ok 7 _ ?_)
                      first | (refine Evo2.vl ok 8 KC.out (Chg.refl (fun _ => False) _) _ _ ?_) | (refine Evo2.va ok 8 _ _ ?_) | (refine Evo2.vi ok 8 _ ?_)
                      first | (refine Evo2.va ok 9 _ _ ?_) | (refine Evo2.vi ok 9 _ ?_)
                      first | (refine Evo2.va ok 10 _ _ ?_) | (refine Evo2.vi ok 10 _ ?_)
                      refine Evo2.va ok 11 _ _ ?_
                      refine Evo2.va ok 12 _ _ ?_
                      first | (refine Evo2.va ok 13 _ _ ?_) | (refine Evo2.vi ok 13 _ ?_)
                      first | (refine Evo2.va ok 14 _ _ ?_) | (refine Evo2.vi ok 14 _ ?_)
                      first | (refine Evo2.va ok 15 _ _ ?_) | (refine Evo2.vi ok 15 _ ?_)
                      first | (refine Evo2.va ok 16 _ _ ?_) | (refine Evo2.vi ok 16 _ ?_)
                      first | (refine Evo2.va ok 17 _ _ ?_) | (refine Evo2.vi ok 17 _ ?_)
                      first | (refine Evo2.va ok 18 _ _ ?_) | (refine Evo2.vi ok 18 _ ?_)
                      first | (refine Evo2.vl ok 19 KC.out (Chg.refl (fun _ => False) _) _ _ ?_) | (refine Evo2.va ok 19 _ _ ?_) | (refine Evo2.vi ok 19 _ ?_)
                      first | (refine Evo2.va ok 20 _ _ ?_) | (refine Evo2.vi ok 20 _ ?_)
                      first | (refine Evo2.va ok 21 _ _ ?_) | (refine Evo2.vi ok 21 _ ?_)
                      first | (refine Evo2.va ok 22 _ _ ?_) | (refine Evo2.vi ok 22 _ ?_)
                      first | (refine Evo2.vl ok 23 KC.out (Chg.refl (fun _ => False) _) _ _ ?_) | (refine Evo2.va ok 23 _ _ ?_) | (refine Evo2.vi ok 23 _ ?_)
                      first | (refine Evo2.va ok 24 _ _ ?_) | (refine Evo2.vi ok 24 _ ?_)
                      first | (refine Evo2.va ok 25 _ _ ?_) | (refine Evo2.vi ok 25 _ ?_)
                      refine Evo2.va ok 26 _ _ ?_
                      refine Evo2.done (by decide +kernel) (fun wz gz => ?_)
                      have AZ := Chg.trans (Chg.refl (fun _ => False) _) (Chg.grow gz)
                      have H2 := Lib.hid (H.out.grow ((FB.out f3).sep F7.out) (AZ.toGrow (fun _ _ => id)))
                      clear AZ gz KC
                      go_wp2_with fail
                      go_roundw
                      case rel => exact ⟨j + 1, (j : Int), by omega, by go_num, rfl, HB2, ⟨by omega, by omega⟩, H2⟩
                      case measure => simp [_root_.Go.RowKit.intOf]; omega
                    · have HB2 := Lib.hid e1
                      clear e1
                      have dy : decide (x < y) = false := decide_eq_false hxy
                      have KC := Lib.hid (fun (w' : World) (h : Chg (fun _ => False) wr w') => (⟨h.cell cR id, h.cell cL id, h.cell cB id, trivial⟩ : w'.cell? ⟨gl + 1, j, none⟩ = some (.bool true) ∧ w'.cell? ⟨gl, j, none⟩ = some (.int .i64 x) ∧ w'.cell? ⟨gl, jj, none⟩ = some (.int .i64 y) ∧ True))
                      clear cR cL
                      go_wp2_with fail
                      refine Evo2.start' (ℓ := none) (S := Chg (fun _ => False)) (E := Grow.G) (by kernel_rfl) ⟨Chg.pre _, by decide +kernel, (by intro c a d v w h; cases d <;> exact h), by decide +kernel⟩ (fun ok => ?_)
                      refine Evo2.va ok 0 _ _ ?_
                      refine Evo2.va ok 1 _ _ ?_
                      refine Evo2.va ok 2 _ _ ?_
                      first | (refine Evo2.vl ok 3 KC.out (Chg.refl (fun _ => False) _) _ _ ?_) | (refine Evo2.va ok 3 _ _ ?_)
                      refine Evo2.va ok 4 _ _ ?_
                      first | (refine Evo2.va ok 5 _ _ ?_) | (refine Evo2.vi ok 5 _ ?_)
                      first | (refine Evo2.va ok 6 _ _ ?_) | (refine Evo2.vi ok 6 _ ?_)
                      first | (refine Evo2.va ok 7 _ _ ?_) | (refine Evo2.vi ok 7 _ ?_)
                      first | (refine Evo2.vl ok 8 KC.out (Chg.refl (fun _ => False) _) _ _ ?_) | (refine Evo2.va ok 8 _ _ ?_) | (refine Evo2.vi ok 8 _ ?_)
                      first | (refine Evo2.va ok 9 _ _ ?_) | (refine Evo2.vi ok 9 _ ?_)
                      first | (refine Evo2.va ok 10 _ _ ?_) | (refine Evo2.vi ok 10 _ ?_)
                      refine Evo2.va ok 11 _ _ ?_
                      refine Evo2.va ok 12 _ _ ?_
                      first | (refine Evo2.va ok 13 _ _ ?_) | (refine Evo2.vi ok 13 _ ?_)
                      first | (refine Evo2.va ok 14 _ _ ?_) | (refine Evo2.vi ok 14 _ ?_)
                      first | (refine Evo2.va ok 15 _ _ ?_) | (refine Evo2.vi ok 15 _ ?_)
                      first | (refine Evo2.va ok 16 _ _ ?_) | (refine Evo2.vi ok 16 _ ?_)
                      first | (refine Evo2.va ok 17 _ _ ?_) | (refine Evo2.vi ok 17 _ ?_)
                      first | (refine Evo2.va ok 18 _ _ ?_) | (refine Evo2.vi ok 18 _ ?_)
                      first | (refine Evo2.vl ok 19 KC.out (Chg.refl (fun _ => False) _) _ _ ?_) | (refine Evo2.va ok 19 _ _ ?_) | (refine Evo2.vi ok 19 _ ?_)
                      first | (refine Evo2.va ok 20 _ _ ?_) | (refine Evo2.vi ok 20 _ ?_)
                      first | (refine Evo2.va ok 21 _ _ ?_) | (refine Evo2.vi ok 21 _ ?_)
                      first | (refine Evo2.va ok 22 _ _ ?_) | (refine Evo2.vi ok 22 _ ?_)
                      first | (refine Evo2.vl ok 23 KC.out (Chg.refl (fun _ => False) _) _ _ ?_) | (refine Evo2.va ok 23 _ _ ?_) | (refine Evo2.vi ok 23 _ ?_)
                      first | (refine Evo2.va ok 24 _ _ ?_) | (refine Evo2.vi ok 24 _ ?_)
                      first | (refine Evo2.va ok 25 _ _ ?_) | (refine Evo2.vi ok 25 _ ?_)
                      refine Evo2.va ok 26 _ _ ?_
                      refine Evo2.done (by decide +kernel) (fun wz gz => ?_)
                      have AZ := Chg.trans (Chg.refl (fun _ => False) _) (Chg.grow gz)
                      have H2 := Lib.hid (H.out.grow ((FB.out f3).sep F7.out) (AZ.toGrow (fun _ _ => id)))
                      clear AZ gz KC
                      go_wp2_with fail
                      go_roundw
                      case rel => exact ⟨j + 1, (jj : Int), by omega, by go_num, rfl, HB2, ⟨by omega, by omega⟩, H2⟩
                      case measure => simp [_root_.Go.RowKit.intOf]; omega
                · have b0 : decide (j < N) = false := decide_eq_false hlt
                  have HE : Hid (PickI.bestV (pickP f3.l rvA1) = B) := Lib.hid (by
                    have h1 := PI.out.best_end
                    have hjN : j = N := by omega
                    have h2 := HB.out
                    rw [hjN, h1] at h2
                    exact h2)
                  clear HB hj1
                  rcases TK.out with ⟨e1, e2, e3, e4⟩ | ⟨i, h, e1, hin, hid, e2, e3, e5, e6, -, e7, e8, e9, -⟩
                  · have hBm : B = -1 := by rw [← HE.out, e1]; rfl
                    subst hBm
                    have TN := Lib.hid (And.intro e3 (And.intro e2 e4))
                    clear e1 e2 e3 e4 TK
                    go_wp2_with fail
                    refine (hold_ftake (er := 0) (bo := false) (f' := f3) H.out F7.out rvA1 ((whr.length : Int) + 1) (by decide) ⟨by omega, by omega⟩ TN.out.1 TN.out.2.1 TN.out.2.2).mono ?_
                    rintro e w9 ⟨rfl, hst⟩
                    replace H := Lib.hid hst
                    have HA := Lib.hid (H.out.grow ((FB.out f3).sep F7.out) (Grow.G.alloc (Grow.G.refl _) (.cells #[.int .i64 (-1)] 3)))
                    have SR1 := Lib.hid (SR.out w9 (-1))
                    clear hst
                    go_wp2_with (refine wpList_appI (ys := [-1]) rfl (.tmp 208) (.tmp 209) rfl HA.out (FB.out f3) FE0.out rfl rfl rfl SR1.out (by simp; omega) ?_; intro a10 c10 w10 H10)
                    refine Stay.go ?_
                    have H11 := Lib.hid H10
                    clear H10 HA SR1
                    go_wp2_with fail
                    go_roundw
                    case rel => exact ⟨m + 1, f3, ld, whr ++ [-1], a10, c10, by omega, by rw [List.length_append, List.length_singleton]; omega, by rw [List.length_append, List.length_singleton], by go_num, PI, Lib.hid (WI.out.add (by rw [WI.out.fresh]; rfl) (fun y _ => rfl)), H11⟩
                    case measure => simp [_root_.Go.RowKit.intOf]; omega
                  · have hBi : B = (i : Int) := by rw [← HE.out, e1]; show h.id - 1 = _; omega
                    subst hBi
                    obtain ⟨f4, hf4⟩ : ∃ f4, f3.aftTake rvA1 ((whr.length : Int) + 1) = f4 := ⟨_, rfl⟩
                    rw [hf4] at e7 e8 e9
                    obtain ⟨M, hM⟩ : ∃ M : Int, (h.load : Int) = M := ⟨_, rfl⟩
                    have hM0 : 0 ≤ M := by omega
                    rw [hM] at e5 e6 e7
                    have P2 := Lib.hid e7
                    have W2 := Lib.hid (WI.out.add (v := (i : Int)) (by rw [e8]; omega) e9)
                    have TN := Lib.hid (And.intro e3 (And.intro e2 hf4))
                    have HL5 := Lib.hid e5
                    have wM : IntKind.i64.wrap (M + 1) = M + 1 := IntWalk.i64_in _ ⟨by omega, by omega⟩
                    have wI : IntKind.i64.wrap ((i : Int) + 1) = (i : Int) + 1 := IntWalk.i64_in _ ⟨by omega, by omega⟩
                    have i0 : (0 : Int) ≤ (i : Int) := by omega
                    have dI : decide ((0 : Int) ≤ (i : Int)) = true := decide_eq_true i0
                    have hin2 : (i : Int) < (N : Int) := by omega
                    have hild : i < ld.length := by omega
                    clear e1 e2 e3 e5 e7 e8 e9 TK hf4 hid hM
                    go_wp2_with fail
                    refine (hold_ftake (er := (i : Int) + 1) (bo := true) (f' := f4) H.out F7.out rvA1 ((whr.length : Int) + 1) (by decide) ⟨by omega, by omega⟩ TN.out.1 TN.out.2.1 TN.out.2.2).mono ?_
                    rintro e w9 ⟨rfl, hst⟩
                    replace H := Lib.hid hst
                    have cL := H.out.mem.cell (i := 0) (o := i) rfl (show (intsV ld)[i]? = some (.int .i64 M) by rw [List.getElem?_map, HL5.out]; rfl)
                    have lL := lt_of_cellO cL
                    clear hst
                    go_wp2_with (refine Hold.store 0 (t := 3) ((FB.out f4).sep F7.out) rfl rfl rfl rfl (vs := [.int .i64 (M + 1)]) rfl (n := 1) (by kernel_rfl) H.out rfl rfl (by simp; omega) rfl ?_; intro W8 HMm CW8)
                    have H8 := Lib.hid HMm
                    clear HMm CW8 cL lL
                    refine Stay.go ?_
                    have HA := Lib.hid (H8.out.grow ((FB.out f4).sep F7.out) (Grow.G.alloc (Grow.G.refl _) (.cells #[.int .i64 (i : Int)] 3)))
                    have SR1 := Lib.hid (SR.out W8 (i : Int))
                    go_wp2_with (refine wpList_appI (ys := [(i : Int)]) rfl (.tmp 204) (.tmp 206) rfl HA.out (FB.out f4) FE0.out rfl rfl rfl SR1.out (by simp; omega) ?_; intro a10 c10 w10 H10)
                    refine Stay.go ?_
                    have H11 := Lib.hid H10
                    clear H10 HA SR1
                    go_wp2_with fail
                    go_roundw
                    case rel => exact ⟨m + 1, f4, ld.set i (M + 1), whr ++ [(i : Int)], a10, c10, by omega, by rw [List.length_append, List.length_singleton]; omega, by rw [List.length_append, List.length_singleton], by go_num, P2, W2, Lib.hid (by have := H11.out; rw [← int_set ld i (M + 1) hild]; exact this)⟩
                    case measure => simp [_root_.Go.RowKit.intOf]; omega
        · rcases Classical.em (m < zs.length) with q1 | q1
          case' inl =>
            have d1 : decide ((m : Int) < (zs.length : Int)) = true := decide_eq_true (by omega)
            have q2 : ¬ ((m : Int) < 50) := by omega
            have d2 : decide ((m : Int) < 50) = false := decide_eq_false q2
          case' inr =>
            have d1 : decide (m < zs.length) = false := decide_eq_false q1
          all_goals
            have NO := Lib.hid (PI.out.no_other 999)
            have F7 := Lib.hid ((IntO.foot (.slice aw whr.length cw) whr).sep FE0.out)
            go_wp2_with fail
            refine (hold_ftake (er := 0) (bo := false) (f' := f3) H.out F7.out rvA2 999 (by decide) ⟨by decide, by decide⟩ NO.out.2.1 NO.out.1 NO.out.2.2).mono ?_
            rintro e w9 ⟨rfl, hst⟩
            replace H := Lib.hid hst
            clear hst
            go_wp2_with fail
            go_ret
            exact ⟨rfl, H.out.below⟩
end Go.Proofs.Ytfnpghekkhnjkaa

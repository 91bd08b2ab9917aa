
/- The walk of FleetApart. -/
import Derived.Test.YtfnpghekkhnjkaaZ78
import Derived.Test.YtfnpghekkhnjkaaZ75
import Derived.Test.YtfnpghekkhnjkaaZ81
import Derived.Test.YtfnpghekkhnjkaaZ82
namespace Go.Proofs.Ytfnpghekkhnjkaa
set_option maxRecDepth 100000
set_option linter.unusedVariables false
set_option linter.unusedSimpArgs false
set_option linter.unnecessarySimpa false
open Go.RowKit Go.Args

theorem look_cells {w0 w : World} {L : List MBox} {A B : Hp} {v : Value} {l : List Po} (hh : Hold w0 w L (Sep A (Sep (LookO v l) B))) : ∃ a c, v = .slice a l.length c ∧ (l = [] ∨ ∃ g off, a = some ⟨g, off, none⟩ ∧ g < w.heap.size ∧ ∀ k x, l[k]? = some x → w.cell? ⟨g, off + k * 3, none⟩ = some (.int .i64 x.id) ∧ w.cell? ⟨g, off + k * 3 + 1, none⟩ = some (.int .i64 x.p.st) ∧ w.cell? ⟨g, off + k * 3 + 2, none⟩ = some (.int .i64 x.load)) := by
  obtain ⟨F, ⟨F1, F2, _, ⟨F3, F4, ho, _⟩, _⟩, _⟩ := hh.st
  have hat : ∀ (l : List Po) k x, l[k]? = some x → (looks l)[k * 3]? = some (.int .i64 x.id) ∧ (looks l)[k * 3 + 1]? = some (.int .i64 x.p.st) ∧ (looks l)[k * 3 + 2]? = some (.int .i64 x.load) := by
    intro l
    induction l with
    | nil => intro k x hk; simp at hk
    | cons y l ih =>
      intro k x hk
      have e : looks (y :: l) = y.look ++ looks l := rfl
      cases k with
      | zero =>
        simp only [List.getElem?_cons_zero, Option.some.injEq] at hk
        subst hk
        exact ⟨rfl, rfl, rfl⟩
      | succ k =>
        rw [List.getElem?_cons_succ] at hk
        have := ih k x hk
        rw [e, show (k + 1) * 3 = k * 3 + 3 by omega]
        refine ⟨?_, ?_, ?_⟩
        · rw [List.getElem?_append_right (by show 3 ≤ _; omega)]; exact this.1
        · rw [List.getElem?_append_right (by show 3 ≤ _; omega), show k * 3 + 3 + 1 - y.look.length = k * 3 + 1 by show _ - 3 = _; omega]; exact this.2.1
        · rw [List.getElem?_append_right (by show 3 ≤ _; omega), show k * 3 + 3 + 2 - y.look.length = k * 3 + 2 by show _ - 3 = _; omega]; exact this.2.2
  rcases ho.1.at with ⟨h1, h2, h3⟩ | ⟨g, off, c, hv, -, -, hg, hc⟩
  · have hl : l = [] := List.eq_nil_of_length_eq_zero h2
    subst hl
    exact ⟨none, 0, h1, .inl rfl⟩
  · exact ⟨_, c, hv, .inr ⟨g, off, rfl, hg, fun k x hk => ⟨hc _ _ (hat l k x hk).1, by have := hc _ _ (hat l k x hk).2.1; rwa [← Nat.add_assoc] at this, by have := hc _ _ (hat l k x hk).2.2; rwa [← Nat.add_assoc] at this⟩⟩⟩
set_option maxHeartbeats 64000000 in
theorem walkFleetApart (w : World) (v1 : Value) (zs : List Int) (hz : IntSlice w v1 zs) (v2 : Value) (ms : List Int) (hm : IntSlice w v2 ms) :
    Calls Try.prog 8 #[v1, v2] w fun e w' => e = .returned (.bool true) ∧ Below w.heap.size w w' := by
  have KN := Lib.hid (fun w => known11_any w)
  have FE0 := Lib.hid Emp.foot
  obtain ⟨va, vc, rfl, hat⟩ := hz.open
  have HZ := Lib.hid hat
  obtain ⟨ma, mc, rfl, hat2⟩ := hm.open
  have HMS := Lib.hid hat2
  clear hat hz hat2 hm
  have AN := Lib.hid apart_new
  go_enter Try.func8, Try.ntmps8
  go_wp2_with fail
  refine (KN.out _).mono ?_
  rintro e w3 ⟨rfl, hg⟩
  have H := Lib.hid ((Hold.nil w).grow Emp.foot hg)
  clear hg
  go_wp2_with fail
  refine (hold_fnew H.out FE0.out 30 (by decide)).mono ?_
  rintro e w4 ⟨g, rfl, hh⟩
  have FB := Lib.hid (fun f => (FlP.foot g f))
  replace H := Lib.hid hh
  clear hh
  go_wp2_with fail
  refine (hold_rlnew H.out (FB.out _) FE0.out 30 (by decide)).mono ?_
  rintro e w5 ⟨q, rfl, hh⟩
  replace H := Lib.hid hh
  clear hh
  have FR := Lib.hid (fun x => (RflP.foot q x).sep FE0.out)
  go_wp2_with fail
  refine (hold_fscale H.out (FR.out _) rvA1 2 3 (by decide) (by decide) (by decide) (by decide) AN.out.1 AN.out.2.1 AN.out.2.2).mono ?_
  rintro e w6 ⟨v6, u6, rfl, hh⟩
  replace H := Lib.hid (drop2 (drop2 hh))
  clear hh
  go_wp2_with fail
  refine (hold_rlmore H.out (FB.out _) FE0.out rvA1 2 3 (by decide) (by decide) (by decide) (by decide) AN.out.1 AN.out.2.2).mono ?_
  rintro e w7 ⟨v7, u7, rfl, hh⟩
  replace H := Lib.hid hh.rot2.drop1
  clear hh
  go_wp2_with fail
  go_loopw [7] (fun i wr => ∃ k : Nat, k ≤ 3 ∧ i = .int .i64 ((k : Int) + 1) ∧ Hid (Hold w wr [] (Sep (FlP g (apart0 k)) (Sep (RflP q (apart0 k)) Emp)))) (fun i _ => 4 - (_root_.Go.RowKit.intOf i).toNat)
  case atStart => exact ⟨0, by omega, rfl, H⟩
  case round =>
    clear H
    obtain ⟨k, hk, rfl, H⟩ := hrel
    have hk1 : IntKind.i64.wrap ((k : Int) + 1 + 1) = (k : Int) + 1 + 1 := IntWalk.i64_in _ ⟨by omega, by omega⟩
    by_cases hlt : k < 3
    · have b0 : decide ((k : Int) + 1 ≤ 3) = true := decide_eq_true (by omega)
      have U := Lib.hid (apart_up hlt)
      go_wp2_with fail
      refine (hold_fup (er := 0) (f' := apart0 (k + 1)) H.out (FR.out _) ((k : Int) + 1) ⟨by omega, by omega⟩ U.out.1 U.out.2).mono ?_
      rintro e ws1 ⟨rfl, hst⟩
      replace H := Lib.hid hst
      clear hst
      go_wp2_with fail
      refine (hold_rlup (er := 0) (f' := apart0 (k + 1)) H.out (FB.out _) FE0.out ((k : Int) + 1) ⟨by omega, by omega⟩ U.out.1 U.out.2).mono ?_
      rintro e w8 ⟨rfl, hh⟩
      replace H := Lib.hid hh
      clear hh
      go_wp2_with fail
      go_roundw
      case rel => exact ⟨k + 1, by omega, by go_num, H⟩
      case measure => simp [_root_.Go.RowKit.intOf]; omega
    · have hk3 : k = 3 := by omega
      have H3 := H.out
      rw [hk3] at H3
      replace H := Lib.hid H3
      have nk : ¬ ((k : Int) + 1 ≤ 3) := by omega
      have b0 : decide ((k : Int) + 1 ≤ 3) = false := decide_eq_false nk
      clear hk3 H3 hlt
      go_wp2_with fail
      clear b0 nk
      have Q0 := Lib.hid apart_q.1
      have E0 := Lib.hid apart_q.2
      have hn0 : (apart0 3).n = 3 := rfl
      obtain ⟨f0, hf0⟩ : ∃ f0, apart0 3 = f0 := ⟨_, rfl⟩
      rw [hf0] at H Q0 E0 hn0
      clear hf0
      go_loopw [8] (fun i wr => ∃ (k : Nat) (f x : Fl), k ≤ 30 ∧ i = .int .i64 (k : Int) ∧ (3 ≤ f.n ∧ f.n ≤ 3 + 10 * (k : Int)) ∧ Hid (ofA f.l = x.l) ∧ Hid (ApQ f.l) ∧ Hid (Hold w wr [] (Sep (FlP g f) (Sep (RflP q x) Emp)))) (fun i _ => 30 - (_root_.Go.RowKit.intOf i).toNat)
      case atStart => exact ⟨0, f0, f0, by omega, rfl, ⟨by omega, by omega⟩, E0, Q0, H⟩
      case round =>
        clear H E0 Q0 hn0
        obtain ⟨k, f, x, hk, rfl, hfn, HE, HQ, H⟩ := hrel
        have hk1 : IntKind.i64.wrap ((k : Int) + 1) = (k : Int) + 1 := IntWalk.i64_in _ ⟨by omega, by omega⟩
        have hk100 : IntKind.i64.wrap (100 + (k : Int)) = 100 + (k : Int) := IntWalk.i64_in _ ⟨by omega, by omega⟩
        by_cases h12 : k < zs.length ∧ k < 30
        · obtain ⟨h1, h2⟩ := h12
          have d1 : decide ((k : Int) < (zs.length : Int)) = true := decide_eq_true (by omega)
          have d2 : decide ((k : Int) < 30) = true := decide_eq_true (by omega)
          obtain ⟨b, off, hbo, hcz, hw⟩ := HZ.out.at H.out.below h1
          cases hbo
          generalize zs.getD k 0 = z at *
          have q20 := withinI_range z 20 (by omega)
          have W20 := Lib.hid (fun w => within11_any z 20 w (by omega) (by omega) hw.1 hw.2)
          obtain ⟨X, hX⟩ : ∃ X : Int, 1 + withinI z 20 = X := ⟨_, rfl⟩
          have wX : IntKind.i64.wrap (1 + withinI z 20) = X := by rw [hX]; exact IntWalk.i64_in _ ⟨by omega, by omega⟩
          have hX20 : 1 ≤ X ∧ X ≤ 20 := by omega
          generalize withinI z 20 = c20 at *
          have k1 : (0 : Int) ≤ (k : Int) := by omega
          have lz := lt_of_cellO hcz
          have OK := hold_fok H.out
          obtain ⟨t1, t2, t3, t4, t5⟩ := ap_take OK HQ.out HE.out (y := X) (by omega)
          obtain ⟨f2, hf2⟩ : ∃ f2, f.aftTake rvA1 X = f2 := ⟨_, rfl⟩
          obtain ⟨x2, hx2⟩ : ∃ x2, x.aftTake rvA1 X = x2 := ⟨_, rfl⟩
          obtain ⟨p, hp⟩ : ∃ p, f.take rvA1 X = p := ⟨_, rfl⟩
          obtain ⟨tb, htb⟩ : ∃ tb, f.takeB rvA1 X = tb := ⟨_, rfl⟩
          rw [hf2, hx2] at t3
          rw [hf2] at t4 t5
          have hp2 := Lib.hid (t1.symm.trans hp)
          have htb2 := Lib.hid (t2.symm.trans htb)
          have HE2 := Lib.hid t3
          have HQ2 := Lib.hid t4
          have HX2 := Lib.hid hx2
          have TT := Lib.hid (And.intro hp (And.intro htb hf2))
          clear hw q20 hX t1 t2 t3 t4 hf2 hx2 hp htb OK
          go_wp2_with fail
          refine (W20.out _).mono ?_
          rintro e wx ⟨rfl, rfl⟩
          go_wp2_with fail
          clear W20 wX hcz lz
          refine (hold_ftake H.out (FR.out _) rvA1 X (by decide) ⟨by omega, by omega⟩ TT.out.1 TT.out.2.1 TT.out.2.2).mono ?_
          rintro e w9 ⟨rfl, hst⟩
          replace H := Lib.hid hst
          clear hst TT
          go_wp2_with fail
          refine (hold_rltake H.out (FB.out _) FE0.out rvA1 X ⟨by omega, by omega⟩ hp2.out htb2.out HX2.out).mono ?_
          rintro e w10 ⟨rfl, hst⟩
          replace H := Lib.hid hst
          clear hst hp2 htb2 HX2 HE HQ d1 d2
          have hfn2 : 3 ≤ f2.n ∧ f2.n ≤ 3 + 10 * (k : Int) := by omega
          clear t5
          by_cases hmk : k < ms.length
          · have dm : decide ((k : Int) < (ms.length : Int)) = true := decide_eq_true (by omega)
            obtain ⟨b2, off2, hbo2, hcm, hw2⟩ := HMS.out.at H.out.below hmk
            cases hbo2
            obtain ⟨y, hy⟩ : ∃ y, ms.getD k 0 = y := ⟨_, rfl⟩
            rw [hy] at hcm hw2
            have q6 := withinI_range y 6 (by omega)
            have q30 := withinI_range y 30 (by omega)
            have W6 := Lib.hid (fun w => within11_any y 6 w (by omega) (by omega) hw2.1 hw2.2)
            have W30 := Lib.hid (fun w => within11_any y 30 w (by omega) (by omega) hw2.1 hw2.2)
            generalize withinI y 6 = wt at *
            generalize withinI y 30 = rr at *
            have wr30 : IntKind.i64.wrap (100 + rr) = 100 + rr := IntWalk.i64_in _ ⟨by omega, by omega⟩
            have lm2 := lt_of_cellO hcm
            have HY := Lib.hid hy
            obtain ⟨s1, s2, s3, s4, s5⟩ := ap_scale (hold_fok H.out) HQ2.out hfn2.1 (want := wt) ⟨by omega, by omega⟩
            obtain ⟨f3, hf3⟩ : ∃ f3, f2.scale rvB1 1 wt = f3 := ⟨_, rfl⟩
            obtain ⟨ml, hml⟩ : ∃ ml, f2.made rvB1 wt = ml := ⟨_, rfl⟩
            rw [hf3] at s1 s2 s3
            rw [hml] at s3 s4 s5
            have HE3 := Lib.hid (s1.trans HE2.out)
            have HQ3 := Lib.hid s2
            have HS5 := Lib.hid s5
            have SC := Lib.hid (And.intro hml hf3)
            clear hw2 s1 s2 s5 hf3 hml HE2 HQ2 hy
            go_wp2_with fail
            refine (W6.out _).mono ?_
            rintro e wx ⟨rfl, rfl⟩
            go_wp2_with fail
            clear W6 hcm lm2
            refine (hold_fscale H.out (FR.out _) rvB1 1 wt (by decide) (by decide) ⟨by omega, by omega⟩ (by omega) SC.out.1 rfl SC.out.2).mono ?_
            rintro e w11 ⟨v11, u11, rfl, hh⟩
            obtain ⟨a9, d9, rfl, -⟩ := hold_row hh
            replace H := Lib.hid (drop3 hh)
            have FM := Lib.hid ((IntO.foot (.slice a9 ml.length d9) ml).sep (FR.out x2))
            clear hh SC
            go_wp2_with fail
            have hf3n : 3 ≤ f3.n ∧ f3.n ≤ 3 + 10 * ((k : Int) + 1) := by omega
            go_loopw [16] (fun i wr => ∃ (jj : Nat) (f4 : Fl), jj ≤ ml.length ∧ i = .int .i64 (jj : Int) ∧ (3 ≤ f4.n ∧ f4.n ≤ 3 + 10 * ((k : Int) + 1)) ∧ Hid (ofA f4.l = x2.l) ∧ Hid (ApQ f4.l) ∧ Hid (Hold w wr [] (Sep (FlP g f4) (Sep (IntO (.slice a9 ml.length d9) ml) (Sep (RflP q x2) Emp))))) (fun i _ => ml.length - (_root_.Go.RowKit.intOf i).toNat)
            case atStart => exact ⟨0, f3, Nat.zero_le _, rfl, hf3n, HE3, HQ3, H⟩
            case round =>
              clear H HE3 HQ3 hf3n
              obtain ⟨jj, f4, hjj, rfl, hf4n, HE4, HQ4, H⟩ := hrel
              have hj1 : IntKind.i64.wrap ((jj : Int) + 1) = (jj : Int) + 1 := IntWalk.i64_in _ ⟨by omega, by omega⟩
              by_cases hlt : jj < ml.length
              · have b0 : decide ((jj : Int) < (ml.length : Int)) = true := decide_eq_true (by omega)
                obtain ⟨X3, hX3⟩ : ∃ X3, ml[jj]? = some X3 := ⟨_, List.getElem?_eq_getElem hlt⟩
                have hXr := HS5.out jj X3 hX3
                obtain ⟨b3, o3, rfl, hc3⟩ := (off_intR (hold_reads8 H.out)).resolve_left (fun e => by rw [e] at hlt; exact absurd hlt (Nat.not_lt_zero _))
                have c3 := hc3 jj _ hX3
                have lc3 := lt_of_cellO c3
                have jj0 : (0 : Int) ≤ (jj : Int) := by omega
                obtain ⟨u1, u2, u3⟩ := ap_up (hold_fok H.out) HQ4.out hXr.1
                obtain ⟨f5, hf5⟩ : ∃ f5, f4.aftUp X3 = f5 := ⟨_, rfl⟩
                rw [hf5] at u1 u2 u3
                have HE5 := Lib.hid (u1.trans HE4.out)
                have HQ5 := Lib.hid u2
                have HF5 := Lib.hid hf5
                clear hc3 hX3 u1 u2 hf5
                go_wp2_with fail
                refine (hold_fup (f' := f5) H.out FM.out X3 ⟨by omega, by omega⟩ rfl HF5.out).mono ?_
                rintro e w12 ⟨rfl, hst⟩
                replace H := Lib.hid hst
                clear hst c3 lc3
                go_wp2_with fail
                go_roundw
                case rel => exact ⟨jj + 1, f5, by omega, by go_num, ⟨by omega, by omega⟩, HE5, HQ5, H⟩
                case measure => simp [_root_.Go.RowKit.intOf]; omega
              · have b0 : decide (jj < ml.length) = false := decide_eq_false hlt
                obtain ⟨u1, u2, u3⟩ := ap_takeB (hold_fok H.out) HQ4.out (y := 100 + (k : Int)) (by omega)
                obtain ⟨f5, hf5⟩ : ∃ f5, f4.aftTake rvB1 (100 + (k : Int)) = f5 := ⟨_, rfl⟩
                rw [hf5] at u1 u2 u3
                have HE5 := Lib.hid (u1.trans HE4.out)
                have HQ5 := Lib.hid u2
                have HF5 := Lib.hid hf5
                clear u1 u2 hf5
                go_wp2_with fail
                clear b0
                refine (hold_ftake (f' := f5) H.out FM.out rvB1 (100 + (k : Int)) (by decide) ⟨by omega, by omega⟩ rfl rfl HF5.out).mono ?_
                rintro e w12 ⟨rfl, hst⟩
                replace H := Lib.hid hst
                obtain ⟨b4, off4, hbo4, hcm4, -⟩ := HMS.out.at H.out.below hmk
                cases hbo4
                rw [HY.out] at hcm4
                have lm4 := lt_of_cellO hcm4
                obtain ⟨g1, g2, g3⟩ := ap_give (hold_fok H.out) HQ5.out (y := 100 + rr) (by omega)
                obtain ⟨f6, hf6⟩ : ∃ f6, f5.aftGive (100 + rr) = f6 := ⟨_, rfl⟩
                rw [hf6] at g1 g2 g3
                have HE6 := Lib.hid (g1.trans HE5.out)
                have HQ6 := Lib.hid g2
                have HF6 := Lib.hid hf6
                clear hst g1 g2 hf6
                go_wp2_with fail
                refine (W30.out _).mono ?_
                rintro e wx ⟨rfl, rfl⟩
                go_wp2_with fail
                clear hcm4 lm4
                refine (hold_fgive (f' := f6) H.out FM.out (100 + rr) ⟨by omega, by omega⟩ rfl rfl HF6.out).mono ?_
                rintro e w13 ⟨rfl, hst⟩
                replace H := Lib.hid (drop2 hst)
                clear hst
                go_wp2_with fail
                go_roundw
                case rel => exact ⟨k + 1, f6, x2, by omega, by go_num, ⟨by omega, by omega⟩, HE6, HQ6, H⟩
                case measure => simp [_root_.Go.RowKit.intOf]; omega
          · have dm : decide (k < ms.length) = false := decide_eq_false hmk
            go_wp2_with fail
            go_roundw
            case rel => exact ⟨k + 1, f2, x2, by omega, by go_num, ⟨by omega, by omega⟩, HE2, HQ2, H⟩
            case measure => simp [_root_.Go.RowKit.intOf]; omega
        · rcases Classical.em (k < zs.length) with q1 | q1
          case' inl =>
            have d1 : decide ((k : Int) < (zs.length : Int)) = true := decide_eq_true (by omega)
            have q2 : ¬ ((k : Int) < 30) := by omega
            have d2 : decide ((k : Int) < 30) = false := decide_eq_false q2
          case' inr =>
            have d1 : decide (k < zs.length) = false := decide_eq_false q1
          all_goals
            have OK := hold_fok H.out
            have hPL30 : (ofA f.l).length ≤ 30 := by
              have h1 := OK.len; have h2 := OK.room
              have h3 : (ofA f.l).length ≤ f.l.length := List.length_filter_le _ _
              omega
            go_wp2_with fail
            refine (hold_fpods (pl := ofA f.l) H.out (FR.out x) rvA1 (by decide) rfl).mono ?_
            rintro e w9 ⟨u9, rfl, hh⟩
            obtain ⟨a9, d9, rfl, hl9⟩ := look_cells hh
            replace H := Lib.hid hh.rot.drop1
            obtain ⟨v0, lm, e1, ok, HS⟩ := hold_rlopen H.out
            obtain ⟨F, hS⟩ := hold_S HS
            have hlen : lm.length ≤ 1000 := by
              have := ok.len; have := ok.room
              rw [← e1, List.length_map] at *
              omega
            have PD := rlpods_any q x.room x.n v0 lm rvA1 w9 F hS hlen
            have hEQ : ofRv rvA1 lm = ofA f.l := by
              unfold ofRv
              rw [e1, ← HE.out]
              unfold ofA
              rw [List.filter_filter]
              exact List.filter_congr fun b _ => Bool.and_self _
            rw [hEQ] at PD
            have HPD := Lib.hid PD
            have HL9 := Lib.hid hl9
            have HB := Lib.hid H.out.below
            clear hh HS hS hlen PD hEQ e1 ok hl9 OK HE HQ H
            generalize ofA f.l = PL at *
            go_wp2_with fail
            refine HPD.out.mono ?_
            rintro e w10 ⟨u10, rfl, ho, hg10⟩
            obtain ⟨a10, d10, rfl⟩ := own_shape ho
            have HL10 := Lib.hid (own_lk ho)
            have HG10 := Lib.hid hg10
            clear ho hg10 HPD
            go_wp2_with fail
            go_loopw [19] (fun i wr => ∃ j : Nat, j ≤ PL.length ∧ i = .int .i64 (j : Int) ∧ Hid (Grow.G w10 wr)) (fun i _ => PL.length - (_root_.Go.RowKit.intOf i).toNat)
            case atStart => exact ⟨0, Nat.zero_le _, rfl, Lib.hid (Grow.G.refl _)⟩
            case round =>
              obtain ⟨j, hj, rfl, HG⟩ := hrel
              have hj1 : IntKind.i64.wrap ((j : Int) + 1) = (j : Int) + 1 := IntWalk.i64_in _ ⟨by omega, by omega⟩
              by_cases hlt : j < PL.length
              · have b0 : decide ((j : Int) < (PL.length : Int)) = true := decide_eq_true (by omega)
                obtain ⟨o, ho⟩ : ∃ o, PL[j]? = some o := ⟨_, List.getElem?_eq_getElem hlt⟩
                obtain ⟨g1, o1, rfl, hg1, hc1⟩ := HL9.out.resolve_left (fun e => by rw [e] at hlt; exact absurd hlt (Nat.not_lt_zero _))
                obtain ⟨g2, rfl, hg2, hc2⟩ := HL10.out.resolve_left (fun e => by rw [e] at hlt; exact absurd hlt (Nat.not_lt_zero _))
                obtain ⟨x1, x2, x3⟩ := hc1 j o ho
                obtain ⟨y1, y2, y3⟩ := hc2 j o ho
                have GG := HG10.out.trans HG.out
                have KC := Lib.hid (fun (w' : World) (h : Chg (fun _ => False) wr w') => (⟨h.cell (cell_later GG x1) id, h.cell (cell_later GG x2) id, h.cell (cell_later GG x3) id, h.cell (cell_later HG.out y1) id, h.cell (cell_later HG.out y2) id, h.cell (cell_later HG.out y3) id, trivial⟩ : w'.cell? ⟨g1, o1 + j * 3, none⟩ = some (.int .i64 o.id) ∧ w'.cell? ⟨g1, o1 + j * 3 + 1, none⟩ = some (.int .i64 o.p.st) ∧ w'.cell? ⟨g1, o1 + j * 3 + 2, none⟩ = some (.int .i64 o.load) ∧ w'.cell? ⟨g2, j * 3, none⟩ = some (.int .i64 o.id) ∧ w'.cell? ⟨g2, j * 3 + 1, none⟩ = some (.int .i64 o.p.st) ∧ w'.cell? ⟨g2, j * 3 + 2, none⟩ = some (.int .i64 o.load) ∧ True))
                have j0 : (0 : Int) ≤ (j : Int) := by omega
                have jN : (j : Int) < (PL.length : Int) := by omega
                clear x1 x2 x3 y1 y2 y3 GG hc1 hc2 ho hg1 hg2
                obtain ⟨oi, hoi⟩ : ∃ oi, o.id = oi := ⟨_, rfl⟩
                obtain ⟨os, hos⟩ : ∃ os, o.p.st = os := ⟨_, rfl⟩
                obtain ⟨ol, hol⟩ : ∃ ol : Int, (o.load : Int) = ol := ⟨_, rfl⟩
                rw [hoi, hos, hol] at KC
                have ni : (oi != oi) = false := by simp
                have ns : (os != os) = false := by simp
                have nl : (ol != ol) = false := by simp
                clear hoi hos hol
                go_wp2_with fail
                refine Evo2.start' (ℓ := none) (S := Chg (fun _ => False)) (E := Grow.G) (by kernel_rfl) ⟨Chg.pre _, by decide +kernel, (by intro c a d v w h; cases d <;> exact h), by decide +kernel⟩ (fun ok => ?_)
                refine Evo2.va ok 0 _ _ ?_
                refine Evo2.va ok 1 _ _ ?_
                refine Evo2.va ok 2 _ _ ?_
                refine Evo2.va ok 3 _ _ ?_
                first | (refine Evo2.vl ok 4 KC.out (Chg.refl (fun _ => False) _) _ _ ?_) | (refine Evo2.va ok 4 _ _ ?_)
                refine Evo2.va ok 5 _ _ ?_
                refine Evo2.va ok 6 _ _ ?_
                refine Evo2.va ok 7 _ _ ?_
                refine Evo2.va ok 8 _ _ ?_
                first | (refine Evo2.vl ok 9 KC.out (Chg.refl (fun _ => False) _) _ _ ?_) | (refine Evo2.va ok 9 _ _ ?_)
                refine Evo2.va ok 10 _ _ ?_
                refine Evo2.va ok 11 _ _ ?_
                first | (refine Evo2.va ok 12 _ _ ?_) | (refine Evo2.vi ok 12 _ ?_)
                first | (refine Evo2.va ok 13 _ _ ?_) | (refine Evo2.vi ok 13 _ ?_)
                first | (refine Evo2.va ok 14 _ _ ?_) | (refine Evo2.vi ok 14 _ ?_)
                first | (refine Evo2.va ok 15 _ _ ?_) | (refine Evo2.vi ok 15 _ ?_)
                first | (refine Evo2.vl ok 16 KC.out (Chg.refl (fun _ => False) _) _ _ ?_) | (refine Evo2.va ok 16 _ _ ?_) | (refine Evo2.vi ok 16 _ ?_)
                first | (refine Evo2.va ok 17 _ _ ?_) | (refine Evo2.vi ok 17 _ ?_)
                first | (refine Evo2.va ok 18 _ _ ?_) | (refine Evo2.vi ok 18 _ ?_)
                first | (refine Evo2.va ok 19 _ _ ?_) | (refine Evo2.vi ok 19 _ ?_)
                first | (refine Evo2.va ok 20 _ _ ?_) | (refine Evo2.vi ok 20 _ ?_)
                first | (refine Evo2.vl ok 21 KC.out (Chg.refl (fun _ => False) _) _ _ ?_) | (refine Evo2.va ok 21 _ _ ?_) | (refine Evo2.vi ok 21 _ ?_)
                first | (refine Evo2.va ok 22 _ _ ?_) | (refine Evo2.vi ok 22 _ ?_)
                refine Evo2.va ok 23 _ _ ?_
                refine Evo2.va ok 24 _ _ ?_
                first | (refine Evo2.va ok 25 _ _ ?_) | (refine Evo2.vi ok 25 _ ?_)
                first | (refine Evo2.va ok 26 _ _ ?_) | (refine Evo2.vi ok 26 _ ?_)
                first | (refine Evo2.va ok 27 _ _ ?_) | (refine Evo2.vi ok 27 _ ?_)
                first | (refine Evo2.va ok 28 _ _ ?_) | (refine Evo2.vi ok 28 _ ?_)
                first | (refine Evo2.vl ok 29 KC.out (Chg.refl (fun _ => False) _) _ _ ?_) | (refine Evo2.va ok 29 _ _ ?_) | (refine Evo2.vi ok 29 _ ?_)
                first | (refine Evo2.va ok 30 _ _ ?_) | (refine Evo2.vi ok 30 _ ?_)
                first | (refine Evo2.va ok 31 _ _ ?_) | (refine Evo2.vi ok 31 _ ?_)
                first | (refine Evo2.va ok 32 _ _ ?_) | (refine Evo2.vi ok 32 _ ?_)
                first | (refine Evo2.va ok 33 _ _ ?_) | (refine Evo2.vi ok 33 _ ?_)
                first | (refine Evo2.vl ok 34 KC.out (Chg.refl (fun _ => False) _) _ _ ?_) | (refine Evo2.va ok 34 _ _ ?_) | (refine Evo2.vi ok 34 _ ?_)
                first | (refine Evo2.va ok 35 _ _ ?_) | (refine Evo2.vi ok 35 _ ?_)
                refine Evo2.va ok 36 _ _ ?_
                refine Evo2.done (by decide +kernel) (fun wz gz => ?_)
                have AZ := Chg.trans (Chg.refl (fun _ => False) _) (Chg.grow gz)
                have HG2 := Lib.hid (HG.out.trans (AZ.toGrow (fun _ _ => id)))
                clear AZ gz KC
                go_wp2_with fail
                go_roundw
                case rel => exact ⟨j + 1, by omega, by go_num, HG2⟩
                case measure => simp [_root_.Go.RowKit.intOf]; omega
              · have nj : ¬ ((j : Int) < (PL.length : Int)) := by omega
                have b0 : decide (j < PL.length) = false := decide_eq_false hlt
                go_wp2_with fail
                go_ret
                exact ⟨rfl, HB.out.trans (HG10.out.trans HG.out)⟩
end Go.Proofs.Ytfnpghekkhnjkaa

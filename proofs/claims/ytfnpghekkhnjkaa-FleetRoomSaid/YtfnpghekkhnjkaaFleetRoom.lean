
/- The walk of FleetRoom. -/
import Derived.Test.YtfnpghekkhnjkaaZ75
import Derived.Test.YtfnpghekkhnjkaaZ76
namespace Go.Proofs.Ytfnpghekkhnjkaa
set_option maxRecDepth 100000
set_option linter.unusedVariables false
set_option linter.unusedSimpArgs false
set_option linter.unnecessarySimpa false
open Go.RowKit

def revL : List ByteArray := [rvA1, rvA2, rvB1]
theorem lt_of_cell {w : World} {b o : Nat} {v : Value} (h : w.cell? ⟨b, o, none⟩ = some v) : b < w.heap.size := by
  rcases Nat.lt_or_ge b w.heap.size with h' | h'
  · exact h'
  · simp [World.cell?, Array.getElem?_eq_none h'] at h
theorem revs_any (w : World) : Calls Try.prog 13 #[] w fun e w' => e = .returned (.slice (some ⟨w.heap.size, 0, none⟩) 3 3) ∧ Blk w' w.heap.size #[.string ⟨#[97, 45, 49]⟩, .string ⟨#[97, 45, 50]⟩, .string ⟨#[98, 45, 49]⟩] 9 ∧ Grow.G w w' := by
  go_enter Try.func13, Try.ntmps13
  go_wp2
  go_ret
  exact ⟨rfl, Blk.new w _ _, by (repeat (first | with_reducible exact Grow.G.refl _ | with_reducible exact Below.refl _ _ | with_reducible refine Grow.G.alloc ?_ _ | with_reducible refine Grow.G.trans ?_ hb1 | ((with_reducible refine Below.setCell ?_ ?_ _); rotate_left; (focus (first | omega | (simp; done) | (simp; omega)))) | with_reducible assumption | with_reducible refine Grow.G.trans ?_ (by with_reducible assumption)))⟩
set_option maxHeartbeats 64000000 in
theorem walkFleetRoom (w : World) (room : Int) (hroom : wf64 room) (v : Value) (zs : List Int) (hz : IntSlice w v zs) :
    Calls Try.prog 3 #[.int .i64 room, v] w fun e w' => e = .returned (.bool true) ∧ Below w.heap.size w w' := by
  have KN := Lib.hid (fun w => known11_any w)
  have FE0 := Lib.hid Emp.foot
  obtain ⟨va, vc, rfl, hat⟩ := hz.open
  have HZ := Lib.hid hat
  clear hat hz
  have WR := Lib.hid (fun w => within11_any room 30 w (by omega) (by omega) hroom.1 hroom.2)
  have rr := withinI_range room 30 (by omega)
  generalize withinI room 30 = r0 at *
  obtain ⟨R, hR⟩ : ∃ R, 1 + r0 = R := ⟨_, rfl⟩
  have hR30 : 1 ≤ R ∧ R ≤ 30 := by omega
  have wr1 : IntKind.i64.wrap (1 + r0) = R := by rw [hR]; exact IntWalk.i64_in _ ⟨by omega, by omega⟩
  clear hroom rr hR
  go_enter Try.func3, Try.ntmps3
  go_wp2_with fail
  refine (KN.out _).mono ?_
  rintro e w3 ⟨rfl, hg⟩
  have H := Lib.hid ((Hold.nil w).grow Emp.foot hg)
  clear hg
  go_wp2_with fail
  refine (WR.out _).mono ?_
  rintro e wx ⟨rfl, rfl⟩
  clear WR
  go_wp2_with fail
  clear wr1
  refine (hold_fnew H.out FE0.out R hR30).mono ?_
  rintro e w4 ⟨g, rfl, hh⟩
  replace H := Lib.hid hh
  clear hh
  go_wp2_with fail
  go_loopw [7, 8] (fun la i wr => ∃ (k : Nat) (l : Int) (f : Fl), k ≤ 60 ∧ i = .int .i64 (k : Int) ∧ la = .int .i64 l ∧ (0 ≤ l ∧ l ≤ f.n) ∧ f.n ≤ 10 * (k : Int) ∧ Hid (Raw f.l ∧ f.room = R) ∧ Hid (Hold w wr [] (Sep (FlP g f) Emp))) (fun _ i _ => 60 - (_root_.Go.RowKit.intOf i).toNat)
  case atStart => exact ⟨0, 0, Fl.new R, by omega, rfl, rfl, ⟨by decide, by show (0 : Int) ≤ 0; decide⟩, by show (0 : Int) ≤ _; omega, Lib.hid ⟨fun h hh => absurd hh List.not_mem_nil, rfl⟩, H⟩
  case round =>
    clear H
    obtain ⟨k, la, f, hk, rfl, rfl, hla, hfn, HF, H⟩ := hrel
    have hk1 : IntKind.i64.wrap ((k : Int) + 1) = (k : Int) + 1 := IntWalk.i64_in _ ⟨by omega, by omega⟩
    by_cases h12 : k < zs.length ∧ k < 60
    · obtain ⟨h1, h2⟩ := h12
      have d1 : decide ((k : Int) < (zs.length : Int)) = true := decide_eq_true (by omega)
      have d2 : decide ((k : Int) < 60) = true := decide_eq_true (by omega)
      obtain ⟨b, off, hbo, hcz, hw⟩ := HZ.out.at H.out.below h1
      cases hbo
      generalize zs.getD k 0 = z at *
      have t1 := tdiv_wf hw 3 (by omega)
      have q3 := withinI_range z 3 (by omega)
      have q11 := withinI_range (z.tdiv 3) 11 (by omega)
      have W3 := Lib.hid (fun w => Evo.same (within11_any z 3 w (by omega) (by omega) hw.1 hw.2))
      have W11 := Lib.hid (fun w => within11_any (z.tdiv 3) 11 w (by omega) (by omega) t1.1 t1.2)
      have HT := Lib.hid (show wrap64 (z.tdiv 3) = z.tdiv 3 from IntWalk.wrap64_in _ (by unfold wf64 at t1; omega))
      generalize withinI z 3 = c3 at *
      generalize withinI (z.tdiv 3) 11 = want at *
      have k1 : (0 : Int) ≤ (k : Int) := by omega
      have hcl : b < wr.heap.size := by
        rcases Nat.lt_or_ge b wr.heap.size with h' | h'
        · exact h'
        · simp [World.cell?, Array.getElem?_eq_none h'] at hcz
      clear hw t1
      go_wp2_with fail
      have KC := Lib.hid (fun (w' : World) (h : Chg (fun _ => False) wr w') => (⟨h.cell hcz id, trivial⟩ : w'.cell? ⟨b, off + k, none⟩ = some (.int .i64 z) ∧ True))
      have HK := H
      have FT := Lib.hid (fun f => (FlP.foot g f).sep FE0.out)
      refine wp_spec (fun a0 A W => ∃ x35 x36 x37 x38 x39 x40 x41 x42 : Value, ∃ (rv : ByteArray), A = (((((((((a0.put (some 9) (.string rv)).put (some 35) x35).put (some 36) x36).put (some 37) x37).put (some 38) x38).put (some 39) x39).put (some 40) x40).put (some 41) x41).put (some 42) x42) ∧ rv.size ≤ 100 ∧ Grow.G wr W) ?_ ?_
      all_goals simp only [Act.put, L0, L1, L2]
      ·
        have h3 : c3 = 0 ∨ c3 = 1 ∨ c3 = 2 := by omega
        rcases h3 with rfl | rfl | rfl
        all_goals
          refine Evo2.start' (ℓ := none) (S := Chg (fun _ => False)) (E := Grow.G) (by kernel_rfl) ⟨Chg.pre _, by decide +kernel, (by intro c a d v w h; cases d <;> exact h), by decide +kernel⟩ (fun ok => ?_)
          refine Evo2.va ok 1 _ _ ?_
          refine Evo2.va ok 2 _ _ ?_
          refine Evo2.va ok 3 _ _ ?_
          first | (refine Evo2.vl ok 4 KC.out (Chg.refl (fun _ => False) _) _ _ ?_) | (refine Evo2.va ok 4 _ _ ?_)
          refine Evo2.all [0] (by decide +kernel) rfl ?_
          intro wp1 gp1 iq hq
          simp only [List.mem_cons, List.mem_nil_iff, or_false] at hq
          have AP1 := Chg.trans (Chg.refl (fun _ => False) _) (Chg.grow gp1)
          subst hq
          refine Evo2.enters 13 _ (by rfl) (by rfl) (by go_simp; exact ⟨rfl, rfl⟩) ?_
          refine (revs_any _).mono ?_
          rintro e wc1 ⟨rfl, XB, hg⟩; have CH1 := Chg.grow (G := fun _ => False) hg; have QK1 := (fun (w' : World) (h : Chg (fun _ => False) wc1 w') => (⟨Blk.at (cs := [.string ⟨#[97, 45, 49]⟩, .string ⟨#[97, 45, 50]⟩, .string ⟨#[98, 45, 49]⟩]) (k := 0) (XB.chg h id) rfl, Blk.at (cs := [.string ⟨#[97, 45, 49]⟩, .string ⟨#[97, 45, 50]⟩, .string ⟨#[98, 45, 49]⟩]) (k := 1) (XB.chg h id) rfl, Blk.at (cs := [.string ⟨#[97, 45, 49]⟩, .string ⟨#[97, 45, 50]⟩, .string ⟨#[98, 45, 49]⟩]) (k := 2) (XB.chg h id) rfl⟩ : w'.cell? ⟨_, 0, none⟩ = some (.string ⟨#[97, 45, 49]⟩) ∧ w'.cell? ⟨_, 1, none⟩ = some (.string ⟨#[97, 45, 50]⟩) ∧ w'.cell? ⟨_, 2, none⟩ = some (.string ⟨#[98, 45, 49]⟩)))
          refine ⟨_, rfl, .inr CH1, ?_⟩
          have AC1 := Chg.trans AP1 CH1
          simp only [Act.put, L0, L1, L2]
          (refine Evo2.cal ok 5 ?_ 11 ?_ ?_ ?_ ?_; rotate_left 2; (focus (intro w'; go_simp <;> with_reducible rfl)); (focus (intro w' g'; with_reducible exact W3.out w')); simp only [Act.put, L0, L1, L2])
          refine Evo2.va ok 6 _ _ ?_
          first | (refine Evo2.val ok 7 ?_ ?_ ?_; rotate_left; (intro w' hg; have nq := QK1 w' hg; go_simp <;> with_reducible rfl); simp only [Act.put, L0, L1, L2]) | (refine Evo2.vl ok 7 KC.out AC1 _ _ ?_) | (refine Evo2.va ok 7 _ _ ?_)
          refine Evo2.va ok 8 _ _ ?_
          refine Evo2.done (by decide +kernel) (fun wz gz => ?_)
          have AZ := Chg.trans AC1 (Chg.grow gz)
          dsimp only [PostN] 
          (repeat apply Exists.intro) 
          exact ⟨rfl, by decide, AZ.toGrow (fun _ _ => id)⟩
      ·
        rintro A W5 ⟨x35, x36, x37, x38, x39, x40, x41, x42, rv, rfl, hrv, hg⟩
        have HG := Lib.hid hg
        replace H := Lib.hid (H.out.grow (FT.out _) hg)
        replace hcz := cell_later hg hcz
        have hcl2 := Nat.lt_of_lt_of_le hcl hg.size
        clear hg KC HK W3 q3
        have ht := HT.out
        go_wp2_with fail
        refine (W11.out _).mono ?_
        rintro e wx ⟨rfl, rfl⟩
        clear ht hcz W11
        have OK := hold_fok H.out
        have RS := raw_scale OK HF.out.1 rv (want := want) (by omega) (by omega)
        go_wp2_with fail
        obtain ⟨S, hS⟩ : ∃ S, f.scale rv 1 want = S := ⟨_, rfl⟩
        have GN0 := gone_rng OK rv (want := want) (by omega)
        obtain ⟨ml, hml⟩ : ∃ ml, f.made rv want = ml := ⟨_, rfl⟩
        obtain ⟨ul, hul⟩ : ∃ ul, f.gone rv want = ul := ⟨_, rfl⟩
        rw [hS, hml, hul] at RS
        rw [hul] at GN0
        have GN := Lib.hid GN0
        clear GN0
        refine (hold_fscale H.out FE0.out rv 1 want hrv (by decide) (by omega) (by omega) hml hul hS).mono ?_
        rintro e w6 ⟨v6, u6, rfl, hh⟩
        obtain ⟨a1, d1', rfl, -⟩ := hold_row hh
        obtain ⟨a2, d2', rfl, -⟩ := hold_row3 hh
        replace H := Lib.hid hh
        clear hh hS hml hul
        have HRS := Lib.hid RS
        obtain ⟨-, R2, R3, R4, R5, R6, R7, R8, R9, -, -⟩ := RS
        have hroom := HF.out.2
        rw [hroom] at R2 R3 R9
        have F2 := Lib.hid ((IntO.foot (.slice a1 ml.length d1') ml).sep ((IntO.foot (.slice a2 ul.length d2') ul).sep FE0.out))
        generalize hP : ((S.pods rv).length : Int) = P at *
        generalize hV : (S.l.length : Int) = V at *
        have HV := Lib.hid hV
        have HP := Lib.hid hP
        clear hP hV hroom
        go_wp2_with fail
        refine (hold_fpods H.out F2.out rv hrv rfl).mono ?_
        rintro e w7 ⟨u7, rfl, hh⟩
        obtain ⟨a3, d3, rfl⟩ := hold_look hh
        replace H := Lib.hid (hh.rot.drop1)
        clear hh
        have hp := HP.out
        have e5 : ¬ R < V := by omega
        have d5 : decide (R < V) = false := decide_eq_false e5
        have u6 : (if want < 0 then 0 else want) = want := by split <;> omega
        have e6 : ¬ want < P := by omega
        have d6 : decide (want < P) = false := decide_eq_false e6
        have hA : (decide (0 < ml.length) = false ∨ (decide (0 < ml.length) = true ∧ decide (0 < ul.length) = false)) := by
          rcases Nat.eq_zero_or_pos ml.length with q | q
          · exact .inl (decide_eq_false (by omega))
          · exact .inr ⟨decide_eq_true q, decide_eq_false (by omega)⟩
        have hB : P < want ∨ ¬ P < want := by omega
        have R9' := Lib.hid R9
        clear R9 R7 R8 R3
        rcases hA with d3 | ⟨d3, d4⟩ <;> rcases hB with e7 | e7
        all_goals (first | have d7 : decide (P < want) = true := decide_eq_true e7 | have d7 : decide (P < want) = false := decide_eq_false e7)
        all_goals (first | (have e8 : ¬ V < R := fun q => R9'.out ⟨e7, q⟩; have d8 : decide (V < R) = false := decide_eq_false e8) | skip)
        all_goals
          go_wp2_with fail
          refine (hold_flive (er := V) H.out F2.out HV.out).mono ?_
          rintro e ws1 ⟨rfl, -, hst⟩
          replace H := Lib.hid hst
          clear hst
          go_wp2_with fail
          (first | (refine (hold_flive (er := V) H.out F2.out HV.out).mono ?_; rintro e w9 ⟨rfl, -, hst⟩; replace H := Lib.hid hst; clear hst; go_wp2_with fail) | skip)
          clear hp d5 e5 u6 e6 d6 e7 d7 R9' HV HP
          (first | clear d8 e8 | skip)
          (first | clear d3 d4 | clear d3)
          go_loopw [7, 14] (fun la j W => ∃ (jj : Nat) (l2 : Int), jj ≤ ml.length ∧ j = .int .i64 (jj : Int) ∧ la = .int .i64 l2 ∧ (0 ≤ l2 ∧ l2 ≤ f.n + (jj : Int)) ∧ Hid (Hold w W [] (Sep (FlP g S) (Sep (IntO (.slice a1 ml.length d1') ml) (Sep (IntO (.slice a2 ul.length d2') ul) Emp))))) (fun _ j _ => ml.length - (_root_.Go.RowKit.intOf j).toNat)
          case atStart => exact ⟨0, la, Nat.zero_le _, rfl, rfl, ⟨hla.1, by omega⟩, H⟩
          case round =>
            clear H
            obtain ⟨jj, l2, hjj, rfl, rfl, hl2, H⟩ := hrel
            have hj1 : IntKind.i64.wrap ((jj : Int) + 1) = (jj : Int) + 1 := IntWalk.i64_in _ ⟨by omega, by omega⟩
            by_cases hlt : jj < ml.length
            · have b0 : decide ((jj : Int) < (ml.length : Int)) = true := decide_eq_true (by omega)
              have HX := Lib.hid (HRS.out.2.2.2.2.2.2.2.2.2.1 jj hlt)
              obtain ⟨b1, o1, rfl, hc⟩ := (off_intR (hold_reads8 H.out)).resolve_left (fun e => by rw [e] at hlt; cases hlt)
              have c1 := hc jj _ HX.out.1
              have lc1 := lt_of_cell c1
              obtain ⟨X, hX⟩ : ∃ X, f.n + 1 + (jj : Int) = X := ⟨_, rfl⟩
              rw [hX] at HX c1
              have hX2 : l2 < X := by omega
              have hX3 : 1 ≤ X ∧ X ≤ 100000 := by omega
              have e2 : decide (X ≤ l2) = false := decide_eq_false (by omega)
              have k2 : (0 : Int) ≤ (jj : Int) := by omega
              clear hc
              go_wp2_with fail
              refine (hold_fof (st := rv) H.out F2.out X ⟨by omega, by omega⟩ HX.out.2).mono ?_
              rintro e ws2 ⟨rfl, hg9, hst⟩
              replace H := Lib.hid hst
              clear hst
              replace c1 := cell_later hg9 c1
              have lc2 := Nat.lt_of_lt_of_le lc1 hg9.size
              clear hg9 HX
              go_wp2_with fail
              go_roundw
              case rel => exact ⟨jj + 1, X, by omega, by go_num, rfl, ⟨by omega, by omega⟩, H⟩
              case measure => simp [_root_.Go.RowKit.intOf]; omega
            · have b0 : decide (jj < ml.length) = false := decide_eq_false hlt
              go_wp2_with fail
              clear b0 hlt
              go_loopw [15] (fun j W => ∃ (qq : Nat), qq ≤ ul.length ∧ j = .int .i64 (qq : Int) ∧ Hid (Hold w W [] (Sep (FlP g S) (Sep (IntO (.slice a1 ml.length d1') ml) (Sep (IntO (.slice a2 ul.length d2') ul) Emp))))) (fun j _ => ul.length - (_root_.Go.RowKit.intOf j).toNat)
              case atStart => exact ⟨0, Nat.zero_le _, rfl, H⟩
              case round =>
                clear H
                obtain ⟨qq, hqq, rfl, H⟩ := hrel
                have hq1 : IntKind.i64.wrap ((qq : Int) + 1) = (qq : Int) + 1 := IntWalk.i64_in _ ⟨by omega, by omega⟩
                by_cases hlq : qq < ul.length
                · have b0 : decide ((qq : Int) < (ul.length : Int)) = true := decide_eq_true (by omega)
                  obtain ⟨X, hX⟩ : ∃ X, ul[qq]? = some X := ⟨_, List.getElem?_eq_getElem hlq⟩
                  have HX := Lib.hid (HRS.out.2.2.2.2.2.2.2.2.2.2 X (List.mem_of_getElem? hX))
                  have HX2 : Hid (1 ≤ X ∧ X ≤ 100000) := Lib.hid (GN.out X (List.mem_of_getElem? hX))
                  obtain ⟨b1, o1, rfl, hc⟩ := (off_intR (hold_reads8 H.out.drop1)).resolve_left (fun e => by rw [e] at hlq; cases hlq)
                  have c1 := hc qq _ hX
                  have lc1 := lt_of_cell c1
                  have k2 : (0 : Int) ≤ (qq : Int) := by omega
                  clear hc hX
                  go_wp2_with fail
                  refine (hold_fof (st := ⟨#[]⟩) H.out F2.out X ⟨by have := HX2.out; omega, by have := HX2.out; omega⟩ HX.out).mono ?_
                  rintro e ws3 ⟨rfl, -, hst⟩
                  replace H := Lib.hid hst
                  clear hst
                  go_wp2_with fail
                  go_roundw
                  case rel => exact ⟨qq + 1, by omega, by go_num, H⟩
                  case measure => simp [_root_.Go.RowKit.intOf]; omega
                · have b0 : decide (qq < ul.length) = false := decide_eq_false hlq
                  replace H := Lib.hid (drop2 (drop2 H.out))
                  go_wp2_with fail
                  go_roundw
                  case rel => exact ⟨k + 1, l2, S, by omega, by go_num, rfl, ⟨by omega, by omega⟩, by omega, Lib.hid ⟨HRS.out.1, by omega⟩, H⟩
                  case measure => simp [_root_.Go.RowKit.intOf]; omega
    · have d1 : (decide ((k : Int) < (zs.length : Int)) && decide ((k : Int) < 60)) = false := by
        simp only [Bool.and_eq_false_iff, decide_eq_false_iff_not]
        omega
      rcases Classical.em (k < zs.length) with q1 | q1
      · have d1 : decide ((k : Int) < (zs.length : Int)) = true := decide_eq_true (by omega)
        have q2 : ¬ ((k : Int) < 60) := by omega
        have d2 : decide ((k : Int) < 60) = false := decide_eq_false q2
        go_wp2_with fail
        go_ret
        exact ⟨rfl, H.out.below⟩
      · have d1 : decide (k < zs.length) = false := decide_eq_false q1
        go_wp2_with fail
        go_ret
        exact ⟨rfl, H.out.below⟩
end Go.Proofs.Ytfnpghekkhnjkaa

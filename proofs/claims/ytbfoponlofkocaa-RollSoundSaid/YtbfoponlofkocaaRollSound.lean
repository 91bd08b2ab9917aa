
/- RollSound: at each time the Shares are sound; what is to grow does not fall, what is to fall does not grow. -/
import Derived.Test.YtbfoponlofkocaaZ53
import Derived.Test.YtbfoponlofkocaaZ38
namespace Go.Proofs.Ytbfoponlofkocaa
set_option maxRecDepth 100000
set_option linter.unusedVariables false
set_option linter.unusedSimpArgs false
set_option linter.unnecessarySimpa false
open Go.RowKit Go.Args

set_option maxHeartbeats 8000000 in
theorem walkRollSound (w : World) (v0 : Value) (zs0 : List Int) (hz0 : IntSlice w v0 zs0) (v1 : Value) (zs1 : List Int) (hz1 : IntSlice w v1 zs1) (b : Int) (hb : wf64 b) :
    Calls Try.prog 4 #[v0, v1, .int .i64 b] w fun e w' => e = .returned (.bool true) ∧ Below w.heap.size w w' := by
  have M0 := Lib.hid (fun w' (g : Grow.G w w') => sharesAt v0 zs0 w' (hz0.below g))
  have M1 := Lib.hid (fun w' (g : Grow.G w w') => sharesAt v1 zs1 w' (hz1.below g))
  have LN0 := mkS_len zs0
  have S0 := Lib.hid (mk_sd zs0)
  have KR0 := Lib.hid (fun s hs => mkS_rev (zs := zs0) (s := s) hs)
  have LN1 := mkS_len zs1
  have S1 := Lib.hid (mk_sd zs1)
  have KR1 := Lib.hid (fun s hs => mkS_rev (zs := zs1) (s := s) hs)
  clear hz0 hz1
  generalize mkS zs0 = l at *
  generalize mkS zs1 = m at *
  have WN := Lib.hid (fun w => within6w_any b 60 w (by omega) (by omega) hb.1 hb.2)
  have RN := withinI_range b 60 (by omega)
  generalize hn0 : withinI b 60 = n0 at *
  clear hn0
  have hwn : IntKind.i64.wrap (1 + n0) = 1 + n0 := IntWalk.i64_in _ ⟨by omega, by omega⟩
  have hwt : IntKind.i64.wrap (1 + n0 + 2) = 1 + n0 + 2 := IntWalk.i64_in _ ⟨by omega, by omega⟩
  have RS := Lib.hid (fun (t : Int) => roll_sd (t := t) (n := 1 + n0) S0.out S1.out (by have := namesL_len l m; omega))
  have RL := Lib.hid (fun (t : Int) => roll_len l m t (1 + n0))
  have RM := Lib.hid (fun (t : Int) (x : ByteArray) => roll_mono (t := t) (s := t - 1) (n := 1 + n0) S0.out S1.out (by omega) (by omega) x)
  have RW := Lib.hid (fun (t : Int) (x : ByteArray) => roll_between (t := t) (n := 1 + n0) S0.out S1.out x)
  have hl0 : (l.length : Int) ≤ 500 := by omega
  clear hb
  go_enter Try.func4, Try.ntmps4
  go_wp2_with fail
  refine (known6_any w).mono ?_
  rintro e w0 ⟨rfl, g0⟩
  go_wp2_with fail
  refine (M0.out _ g0).mono ?_
  rintro e w1 ⟨a0, c0, rfl, A0, q0⟩
  have g1 := g0.trans q0
  go_wp2_with fail
  refine (M1.out _ g1).mono ?_
  rintro e w2 ⟨a1, c1, rfl, A1, q1⟩
  have A0 := SlOf.later A0 q1
  have g2 := g1.trans q1
  have G0 := Lib.hid g2
  clear q0 M0 q1 M1 g0 g1 g2
  generalize w2 = W at *
  have FS := Lib.hid (fun (w' : World) (g : Grow.G W w') => (⟨SlOf.later A0 g, SlOf.later A1 g, trivial⟩ : ShSl w' a0 l ∧ ShSl w' a1 m ∧ True))
  clear A0 A1
  go_wp2_with fail
  refine (WN.out _).mono ?_
  rintro e wx ⟨rfl, rfl⟩
  go_wp2_with fail
  refine (revs_any _).mono ?_
  rintro e wv ⟨rfl, hb, hg⟩
  have RB := Lib.hid (fun w' (g : Grow.G wv w') {k : Nat} (hk : k < 6) => rev_at (hb.grow g) hk)
  have GV := Lib.hid hg
  have hbv := hb.lt
  clear hb hg
  have WA := Lib.hid (fun (x : ByteArray) (w' : World) (g : Grow.G wv w') => (rweight_any a0 l c0 x w' (by omega) ((FS.out _ (GV.out.trans g)).1)).mono (fun e w'' (h : _ ∧ _) => (⟨h.1, h.2 ▸ Grow.G.refl _⟩ : _ ∧ Grow.G w' w'')))
  have WB := Lib.hid (fun (x : ByteArray) (w' : World) (g : Grow.G wv w') => (rweight_any a1 m c1 x w' (by omega) ((FS.out _ (GV.out.trans g)).2.1)).mono (fun e w'' (h : _ ∧ _) => (⟨h.1, h.2 ▸ Grow.G.refl _⟩ : _ ∧ Grow.G w' w'')))
  have C1 := Lib.hid (fun (t : Int) (w' : World) (g : Grow.G wv w') (ht : -1099511627776 ≤ t ∧ t ≤ 1099511627776) => rollAt c0 c1 t (1 + n0) w' S0.out S1.out rfl (FS.out _ (GV.out.trans g)).1 (FS.out _ (GV.out.trans g)).2.1 ht (by omega))
  have FV := Lib.hid (FS.out _ GV.out)
  have E0 : Hid (rollL l m (0 - 1) (1 + n0) = l) := Lib.hid (roll_from (by omega) (by omega))
  go_wp2_with fail
  go_loopw [10, 12] (fun lv i wr => ∃ (k : Nat) (xa : Option Addr) (xc : Nat), (k : Int) ≤ 4 + n0 ∧ i = .int .i64 k ∧ lv = .slice xa (rollL l m (k - 1) (1 + n0)).length xc ∧ Hid (ShSl wr xa (rollL l m (k - 1) (1 + n0))) ∧ Hid (Grow.G wv wr)) (fun _ i _ => 70 - (intOf i).toNat)
  case atStart => exact ⟨0, a0, c0, by omega, rfl, by rw [show ((0 : Nat) : Int) - 1 = 0 - 1 from rfl, E0.out], by rw [show ((0 : Nat) : Int) - 1 = 0 - 1 from rfl, E0.out]; exact Lib.hid FV.out.1, Lib.hid (Grow.G.refl _)⟩
  case round =>
    obtain ⟨k, xa, xc, hk, rfl, rfl, X, GR⟩ := hrel
    have hk1 : IntKind.i64.wrap ((k : Int) + 1) = (k : Int) + 1 := IntWalk.i64_in _ ⟨by omega, by omega⟩
    by_cases hlt : (k : Int) ≤ 1 + n0 + 2
    · have d0 : decide ((k : Int) ≤ 1 + n0 + 2) = true := decide_eq_true hlt
      have CK := Lib.hid (C1.out k _ GR.out (by omega))
      have SK := Lib.hid (RS.out k)
      have NK : Hid (((k + 1 : Nat) : Int) - 1 = (k : Int)) := Lib.hid (by omega)
      have MO := Lib.hid (RM.out k)
      have BW := Lib.hid (RW.out k)
      have h1 := RL.out ((k : Int) - 1)
      have h2 := RL.out (k : Int)
      generalize rollL l m ((k : Int) - 1) (1 + n0) = r0 at *
      generalize hr : rollL l m (k : Int) (1 + n0) = r at *
      have HR := Lib.hid hr
      clear hr
      go_wp2_with fail
      refine CK.out.mono ?_
      rintro e w6 ⟨ya, yc, rfl, Y6, g6⟩
      have SD := Lib.hid (soundAt yc w6 SK.out Y6)
      have Y6 := Lib.hid Y6
      have X6 := Lib.hid (SlOf.later X.out g6)
      have G6 := Lib.hid (GR.out.trans g6)
      clear g6 X CK
      go_wp2_with fail
      refine SD.out.mono ?_
      rintro e w7 ⟨rfl, g7⟩
      have Y7 := Lib.hid (SlOf.later Y6.out g7)
      have WX := Lib.hid (fun (x : ByteArray) (w' : World) (g : Grow.G w7 w') => (rweight_any xa r0 xc x w' (by omega) (SlOf.later X6.out (g7.trans g))).mono (fun e w'' (h : _ ∧ _) => (⟨h.1, h.2 ▸ Grow.G.refl _⟩ : _ ∧ Grow.G w' w'')))
      have WY := Lib.hid (fun (x : ByteArray) (w' : World) (g : Grow.G w7 w') => (rweight_any ya r yc x w' (by omega) (SlOf.later Y7.out g)).mono (fun e w'' (h : _ ∧ _) => (⟨h.1, h.2 ▸ Grow.G.refl _⟩ : _ ∧ Grow.G w' w'')))
      have G7 := Lib.hid (G6.out.trans g7)
      clear g7 SD X6 Y6
      go_wp2_with fail
      go_loopw [14] (fun i wr => ∃ (j : Nat), j ≤ 6 ∧ i = .int .i64 j ∧ Hid (Grow.G w7 wr)) (fun i _ => 6 - (intOf i).toNat)
      case atStart => exact ⟨0, by omega, rfl, Lib.hid (Grow.G.refl _)⟩
      case round =>
        obtain ⟨j, hj, rfl, GJ⟩ := hrel
        have hj1 : IntKind.i64.wrap ((j : Int) + 1) = (j : Int) + 1 := IntWalk.i64_in _ ⟨by omega, by omega⟩
        by_cases hjl : j < 6
        · have d1 : decide (j < 6) = true := decide_eq_true hjl
          have j1 : (0 : Int) ≤ (j : Int) := by omega
          have j2 : (j : Int) < 6 := by omega
          have KC := Lib.hid (fun (w' : World) (h : Chg (fun _ => False) wr w') => (⟨RB.out w' ((G7.out.trans GJ.out).trans (g0 h)) hjl, trivial⟩ : w'.cell? ⟨W.heap.size, j, none⟩ = some (.string (revK j)) ∧ True))
          have WA1 := Lib.hid (fun (w' : World) (h : Chg (fun _ => False) wr w') => WA.out (revK j) w' ((G7.out.trans GJ.out).trans (g0 h)))
          have WB1 := Lib.hid (fun (w' : World) (h : Chg (fun _ => False) wr w') => WB.out (revK j) w' ((G7.out.trans GJ.out).trans (g0 h)))
          have WX1 := Lib.hid (fun (w' : World) (h : Chg (fun _ => False) wr w') => WX.out (revK j) w' (GJ.out.trans (g0 h)))
          have WY1 := Lib.hid (fun (w' : World) (h : Chg (fun _ => False) wr w') => WY.out (revK j) w' (GJ.out.trans (g0 h)))
          have m1 := MO.out (revK j)
          have b1 := BW.out (revK j)
          generalize wtL l (revK j) = x at *
          generalize wtL m (revK j) = y at *
          generalize wtL r (revK j) = z at *
          generalize wtL r0 (revK j) = v at *
          rcases Int.lt_trichotomy x y with hc | hc | hc
          · have e0 : decide (y ≥ x) = true := decide_eq_true (by omega)
            have e1 : decide (x ≤ y) = true := decide_eq_true (by omega)
            have e2 : decide (y ≤ x) = false := decide_eq_false (by omega)
            have e3 : decide (z < v) = false := decide_eq_false (by omega)
            have e4 : decide (z > y) = false := decide_eq_false (by omega)
            have e5 : decide (y < z) = false := decide_eq_false (by omega)
            have f0 : y ≥ x := by omega
            have f1 : x ≤ y := by omega
            have f2 : ¬ y ≤ x := by omega
            have f3 : ¬ z < v := by omega
            have f4 : ¬ z > y := by omega
            have f5 : ¬ y < z := by omega
            clear m1 b1 hc
            go_wp2_with fail
            refine Evo2.start' (ℓ := none) (S := Chg (fun _ => False)) (E := Grow.G) (by kernel_rfl) ⟨Chg.pre _, by decide +kernel, (by intro c a d v w h; cases d <;> exact h), by decide +kernel⟩ (fun ok => ?_)
            refine Evo2.va ok 0 _ _ ?_
            refine Evo2.va ok 1 _ _ ?_
            refine Evo2.va ok 2 _ _ ?_
            refine Evo2.va ok 3 _ _ ?_
            first | (refine Evo2.vl ok 4 KC.out (Chg.refl (fun _ => False) _) _ _ ?_) | (refine Evo2.va ok 4 _ _ ?_)
            (refine Evo2.cal ok 5 ?_ 20 ?_ ?_ ?_ ?_; rotate_left 2; (focus (intro w'; go_simp <;> with_reducible rfl)); (focus (intro w' g'; with_reducible exact WY1.out w' (Chg.trans (Chg.refl (fun _ => False) _) g'))); simp only [Act.put, L0, L1, L2])
            refine Evo2.va ok 6 _ _ ?_
            refine Evo2.va ok 7 _ _ ?_
            refine Evo2.va ok 8 _ _ ?_
            refine Evo2.va ok 9 _ _ ?_
            first | (refine Evo2.vl ok 10 KC.out (Chg.refl (fun _ => False) _) _ _ ?_) | (refine Evo2.va ok 10 _ _ ?_)
            (refine Evo2.cal ok 11 ?_ 20 ?_ ?_ ?_ ?_; rotate_left 2; (focus (intro w'; go_simp <;> with_reducible rfl)); (focus (intro w' g'; with_reducible exact WX1.out w' (Chg.trans (Chg.refl (fun _ => False) _) g'))); simp only [Act.put, L0, L1, L2])
            refine Evo2.va ok 12 _ _ ?_
            refine Evo2.va ok 13 _ _ ?_
            refine Evo2.va ok 14 _ _ ?_
            refine Evo2.va ok 15 _ _ ?_
            first | (refine Evo2.vl ok 16 KC.out (Chg.refl (fun _ => False) _) _ _ ?_) | (refine Evo2.va ok 16 _ _ ?_)
            (refine Evo2.cal ok 17 ?_ 20 ?_ ?_ ?_ ?_; rotate_left 2; (focus (intro w'; go_simp <;> with_reducible rfl)); (focus (intro w' g'; with_reducible exact WA1.out w' (Chg.trans (Chg.refl (fun _ => False) _) g'))); simp only [Act.put, L0, L1, L2])
            refine Evo2.va ok 18 _ _ ?_
            refine Evo2.va ok 19 _ _ ?_
            refine Evo2.va ok 20 _ _ ?_
            refine Evo2.va ok 21 _ _ ?_
            first | (refine Evo2.vl ok 22 KC.out (Chg.refl (fun _ => False) _) _ _ ?_) | (refine Evo2.va ok 22 _ _ ?_)
            (refine Evo2.cal ok 23 ?_ 20 ?_ ?_ ?_ ?_; rotate_left 2; (focus (intro w'; go_simp <;> with_reducible rfl)); (focus (intro w' g'; with_reducible exact WB1.out w' (Chg.trans (Chg.refl (fun _ => False) _) g'))); simp only [Act.put, L0, L1, L2])
            refine Evo2.va ok 24 _ _ ?_
            refine Evo2.va ok 25 _ _ ?_
            refine Evo2.va ok 26 _ _ ?_
            refine Evo2.va ok 27 _ _ ?_
            refine Evo2.done (by decide +kernel) (fun wz gz => ?_)
            have AZ := Chg.trans (Chg.refl (fun _ => False) _) (Chg.grow gz)
            have G8 := Lib.hid (GJ.out.trans (g0 AZ))
            clear AZ KC WA1 WB1 WX1 WY1
            go_wp2_with fail
            go_roundw
            case rel => exact ⟨j + 1, by omega, by go_num, G8⟩
            case measure => simp [intOf]; omega
          · have e0 : decide (y ≥ x) = true := decide_eq_true (by omega)
            have e1 : decide (x ≤ y) = true := decide_eq_true (by omega)
            have e2 : decide (y ≤ x) = true := decide_eq_true (by omega)
            have e3 : decide (z < v) = false := decide_eq_false (by omega)
            have e4 : decide (z > y) = false := decide_eq_false (by omega)
            have e5 : decide (y < z) = false := decide_eq_false (by omega)
            have e6 : decide (z > v) = false := decide_eq_false (by omega)
            have e7 : decide (v < z) = false := decide_eq_false (by omega)
            have e8 : decide (z < y) = false := decide_eq_false (by omega)
            have f0 : y ≥ x := by omega
            have f1 : x ≤ y := by omega
            have f2 : y ≤ x := by omega
            have f3 : ¬ z < v := by omega
            have f4 : ¬ z > y := by omega
            have f5 : ¬ y < z := by omega
            have f6 : ¬ z > v := by omega
            have f7 : ¬ v < z := by omega
            have f8 : ¬ z < y := by omega
            clear m1 b1 hc
            go_wp2_with fail
            refine Evo2.start' (ℓ := none) (S := Chg (fun _ => False)) (E := Grow.G) (by kernel_rfl) ⟨Chg.pre _, by decide +kernel, (by intro c a d v w h; cases d <;> exact h), by decide +kernel⟩ (fun ok => ?_)
            refine Evo2.va ok 0 _ _ ?_
            refine Evo2.va ok 1 _ _ ?_
            refine Evo2.va ok 2 _ _ ?_
            refine Evo2.va ok 3 _ _ ?_
            first | (refine Evo2.vl ok 4 KC.out (Chg.refl (fun _ => False) _) _ _ ?_) | (refine Evo2.va ok 4 _ _ ?_)
            (refine Evo2.cal ok 5 ?_ 20 ?_ ?_ ?_ ?_; rotate_left 2; (focus (intro w'; go_simp <;> with_reducible rfl)); (focus (intro w' g'; with_reducible exact WY1.out w' (Chg.trans (Chg.refl (fun _ => False) _) g'))); simp only [Act.put, L0, L1, L2])
            refine Evo2.va ok 6 _ _ ?_
            refine Evo2.va ok 7 _ _ ?_
            refine Evo2.va ok 8 _ _ ?_
            refine Evo2.va ok 9 _ _ ?_
            first | (refine Evo2.vl ok 10 KC.out (Chg.refl (fun _ => False) _) _ _ ?_) | (refine Evo2.va ok 10 _ _ ?_)
            (refine Evo2.cal ok 11 ?_ 20 ?_ ?_ ?_ ?_; rotate_left 2; (focus (intro w'; go_simp <;> with_reducible rfl)); (focus (intro w' g'; with_reducible exact WX1.out w' (Chg.trans (Chg.refl (fun _ => False) _) g'))); simp only [Act.put, L0, L1, L2])
            refine Evo2.va ok 12 _ _ ?_
            refine Evo2.va ok 13 _ _ ?_
            refine Evo2.va ok 14 _ _ ?_
            refine Evo2.va ok 15 _ _ ?_
            first | (refine Evo2.vl ok 16 KC.out (Chg.refl (fun _ => False) _) _ _ ?_) | (refine Evo2.va ok 16 _ _ ?_)
            (refine Evo2.cal ok 17 ?_ 20 ?_ ?_ ?_ ?_; rotate_left 2; (focus (intro w'; go_simp <;> with_reducible rfl)); (focus (intro w' g'; with_reducible exact WA1.out w' (Chg.trans (Chg.refl (fun _ => False) _) g'))); simp only [Act.put, L0, L1, L2])
            refine Evo2.va ok 18 _ _ ?_
            refine Evo2.va ok 19 _ _ ?_
            refine Evo2.va ok 20 _ _ ?_
            refine Evo2.va ok 21 _ _ ?_
            first | (refine Evo2.vl ok 22 KC.out (Chg.refl (fun _ => False) _) _ _ ?_) | (refine Evo2.va ok 22 _ _ ?_)
            (refine Evo2.cal ok 23 ?_ 20 ?_ ?_ ?_ ?_; rotate_left 2; (focus (intro w'; go_simp <;> with_reducible rfl)); (focus (intro w' g'; with_reducible exact WB1.out w' (Chg.trans (Chg.refl (fun _ => False) _) g'))); simp only [Act.put, L0, L1, L2])
            refine Evo2.va ok 24 _ _ ?_
            refine Evo2.va ok 25 _ _ ?_
            refine Evo2.va ok 26 _ _ ?_
            refine Evo2.va ok 27 _ _ ?_
            refine Evo2.done (by decide +kernel) (fun wz gz => ?_)
            have AZ := Chg.trans (Chg.refl (fun _ => False) _) (Chg.grow gz)
            have G8 := Lib.hid (GJ.out.trans (g0 AZ))
            clear AZ KC WA1 WB1 WX1 WY1
            go_wp2_with fail
            go_roundw
            case rel => exact ⟨j + 1, by omega, by go_num, G8⟩
            case measure => simp [intOf]; omega
          · have e0 : decide (y ≥ x) = false := decide_eq_false (by omega)
            have e1 : decide (x ≤ y) = false := decide_eq_false (by omega)
            have e2 : decide (y ≤ x) = true := decide_eq_true (by omega)
            have e3 : decide (z > v) = false := decide_eq_false (by omega)
            have e4 : decide (v < z) = false := decide_eq_false (by omega)
            have e5 : decide (z < y) = false := decide_eq_false (by omega)
            have f0 : ¬ y ≥ x := by omega
            have f1 : ¬ x ≤ y := by omega
            have f2 : y ≤ x := by omega
            have f3 : ¬ z > v := by omega
            have f4 : ¬ v < z := by omega
            have f5 : ¬ z < y := by omega
            clear m1 b1 hc
            go_wp2_with fail
            refine Evo2.start' (ℓ := none) (S := Chg (fun _ => False)) (E := Grow.G) (by kernel_rfl) ⟨Chg.pre _, by decide +kernel, (by intro c a d v w h; cases d <;> exact h), by decide +kernel⟩ (fun ok => ?_)
            refine Evo2.va ok 0 _ _ ?_
            refine Evo2.va ok 1 _ _ ?_
            refine Evo2.va ok 2 _ _ ?_
            refine Evo2.va ok 3 _ _ ?_
            first | (refine Evo2.vl ok 4 KC.out (Chg.refl (fun _ => False) _) _ _ ?_) | (refine Evo2.va ok 4 _ _ ?_)
            (refine Evo2.cal ok 5 ?_ 20 ?_ ?_ ?_ ?_; rotate_left 2; (focus (intro w'; go_simp <;> with_reducible rfl)); (focus (intro w' g'; with_reducible exact WY1.out w' (Chg.trans (Chg.refl (fun _ => False) _) g'))); simp only [Act.put, L0, L1, L2])
            refine Evo2.va ok 6 _ _ ?_
            refine Evo2.va ok 7 _ _ ?_
            refine Evo2.va ok 8 _ _ ?_
            refine Evo2.va ok 9 _ _ ?_
            first | (refine Evo2.vl ok 10 KC.out (Chg.refl (fun _ => False) _) _ _ ?_) | (refine Evo2.va ok 10 _ _ ?_)
            (refine Evo2.cal ok 11 ?_ 20 ?_ ?_ ?_ ?_; rotate_left 2; (focus (intro w'; go_simp <;> with_reducible rfl)); (focus (intro w' g'; with_reducible exact WX1.out w' (Chg.trans (Chg.refl (fun _ => False) _) g'))); simp only [Act.put, L0, L1, L2])
            refine Evo2.va ok 12 _ _ ?_
            refine Evo2.va ok 13 _ _ ?_
            refine Evo2.va ok 14 _ _ ?_
            refine Evo2.va ok 15 _ _ ?_
            first | (refine Evo2.vl ok 16 KC.out (Chg.refl (fun _ => False) _) _ _ ?_) | (refine Evo2.va ok 16 _ _ ?_)
            (refine Evo2.cal ok 17 ?_ 20 ?_ ?_ ?_ ?_; rotate_left 2; (focus (intro w'; go_simp <;> with_reducible rfl)); (focus (intro w' g'; with_reducible exact WA1.out w' (Chg.trans (Chg.refl (fun _ => False) _) g'))); simp only [Act.put, L0, L1, L2])
            refine Evo2.va ok 18 _ _ ?_
            refine Evo2.va ok 19 _ _ ?_
            refine Evo2.va ok 20 _ _ ?_
            refine Evo2.va ok 21 _ _ ?_
            first | (refine Evo2.vl ok 22 KC.out (Chg.refl (fun _ => False) _) _ _ ?_) | (refine Evo2.va ok 22 _ _ ?_)
            (refine Evo2.cal ok 23 ?_ 20 ?_ ?_ ?_ ?_; rotate_left 2; (focus (intro w'; go_simp <;> with_reducible rfl)); (focus (intro w' g'; with_reducible exact WB1.out w' (Chg.trans (Chg.refl (fun _ => False) _) g'))); simp only [Act.put, L0, L1, L2])
            refine Evo2.va ok 24 _ _ ?_
            refine Evo2.va ok 25 _ _ ?_
            refine Evo2.va ok 26 _ _ ?_
            refine Evo2.va ok 27 _ _ ?_
            refine Evo2.done (by decide +kernel) (fun wz gz => ?_)
            have AZ := Chg.trans (Chg.refl (fun _ => False) _) (Chg.grow gz)
            have G8 := Lib.hid (GJ.out.trans (g0 AZ))
            clear AZ KC WA1 WB1 WX1 WY1
            go_wp2_with fail
            go_roundw
            case rel => exact ⟨j + 1, by omega, by go_num, G8⟩
            case measure => simp [intOf]; omega
        · have d1 : decide (j < 6) = false := decide_eq_false hjl
          go_wp2_with fail
          go_roundw
          case rel => exact ⟨k + 1, ya, yc, by omega, by go_num, by rw [NK.out, HR.out], by rw [NK.out, HR.out]; exact Lib.hid (SlOf.later Y7.out GJ.out), Lib.hid (G7.out.trans GJ.out)⟩
          case measure => simp [intOf]; omega
    · have d0 : decide ((k : Int) ≤ 1 + n0 + 2) = false := decide_eq_false hlt
      have EL : Hid (rollL l m ((k : Int) - 1) (1 + n0) = m) := Lib.hid (roll_to (by omega))
      have X' := X.out
      rw [EL.out] at X' ⊢
      have SM := Lib.hid (sameAt (l := m) xc c1 wr (by omega) X' (FS.out _ (GV.out.trans GR.out)).2.1)
      have GZ := Lib.hid ((G0.out.trans GV.out).trans GR.out)
      clear X X' EL
      go_wp2_with fail
      refine SM.out.mono ?_
      rintro e w8 ⟨rfl, g8⟩
      go_wp2_with fail
      go_ret
      exact ⟨rfl, GZ.out.trans g8⟩
end Go.Proofs.Ytbfoponlofkocaa


/- RollOrder: what is lost is lost by names. -/
import Derived.Test.YtbfoponlofkocaaZ53
import Derived.Test.YtbfoponlofkocaaZ38
namespace Go.Proofs.Ytbfoponlofkocaa
set_option maxRecDepth 100000
set_option linter.unusedVariables false
set_option linter.unusedSimpArgs false
set_option linter.unnecessarySimpa false
open Go.RowKit Go.Args

set_option maxHeartbeats 8000000 in
theorem walkRollOrder (w : World) (v0 : Value) (zs0 : List Int) (hz0 : IntSlice w v0 zs0) (v1 : Value) (zs1 : List Int) (hz1 : IntSlice w v1 zs1) (a : Int) (ha : wf64 a) (b : Int) (hb : wf64 b) :
    Calls Try.prog 7 #[v0, v1, .int .i64 a, .int .i64 b] w fun e w' => e = .returned (.bool true) ∧ Below w.heap.size w w' := by
  have M0 := Lib.hid (fun w' (g : Grow.G w w') => sharesAt v0 zs0 w' (hz0.below g))
  have M1 := Lib.hid (fun w' (g : Grow.G w w') => sharesAt v1 zs1 w' (hz1.below g))
  have LN0 := mkS_len zs0
  have S0 := Lib.hid (mk_sd zs0)
  have KR0 := Lib.hid (fun s hs => mkS_rev (zs := zs0) (s := s) hs)
  have LN1 := mkS_len zs1
  have S1 := Lib.hid (mk_sd zs1)
  have KR1 := Lib.hid (fun s hs => mkS_rev (zs := zs1) (s := s) hs)
  clear hz0 hz1
  generalize mkS zs0 = l at *
  generalize mkS zs1 = m at *
  have WN := Lib.hid (fun w => within6w_any b 60 w (by omega) (by omega) hb.1 hb.2)
  have RN := withinI_range b 60 (by omega)
  generalize hn0 : withinI b 60 = n0 at *
  clear hn0
  have hwn : IntKind.i64.wrap (1 + n0) = 1 + n0 := IntWalk.i64_in _ ⟨by omega, by omega⟩
  have WT := Lib.hid (fun w => within6w_any a (1 + n0) w (by omega) (by omega) ha.1 ha.2)
  have RT := withinI_range a (1 + n0) (by omega)
  generalize withinI a (1 + n0) = t at *
  have RS := roll_sd (t := t) (n := 1 + n0) S0.out S1.out (by have := namesL_len l m; omega)
  have HP := RS.pos
  have HL := RS.len
  have RO := Lib.hid (fun (j k : Nat) (hj : j < k) (hk : k < 6) (h1 : wtL m (revK j) < wtL l (revK j)) (h2 : wtL m (revK k) < wtL l (revK k)) => roll_order (t := t) (n := 1 + n0) S0.out S1.out (rev_lt ⟨j, by omega⟩ ⟨k, hk⟩ hj) h1 h2)
  clear ha hb RS
  go_enter Try.func7, Try.ntmps7
  go_wp2_with fail
  refine (known6_any w).mono ?_
  rintro e w0 ⟨rfl, g0⟩
  go_wp2_with fail
  refine (M0.out _ g0).mono ?_
  rintro e w1 ⟨a0, c0, rfl, A0, q0⟩
  have g1 := g0.trans q0
  go_wp2_with fail
  refine (M1.out _ g1).mono ?_
  rintro e w2 ⟨a1, c1, rfl, A1, q1⟩
  have A0 := SlOf.later A0 q1
  have g2 := g1.trans q1
  have G0 := Lib.hid g2
  clear q0 M0 q1 M1 g0 g1 g2
  generalize w2 = W at *
  have FS := Lib.hid (fun (w' : World) (g : Grow.G W w') => (⟨SlOf.later A0 g, SlOf.later A1 g, trivial⟩ : ShSl w' a0 l ∧ ShSl w' a1 m ∧ True))
  clear A0 A1
  have C1 := Lib.hid (fun (w' : World) (g : Grow.G W w') => rollAt c0 c1 t (1 + n0) w' S0.out S1.out rfl (FS.out _ g).1 (FS.out _ g).2.1 (by omega) (by omega))
  generalize rollL l m t (1 + n0) = r at *
  go_wp2_with fail
  refine (WN.out _).mono ?_
  rintro e wx ⟨rfl, rfl⟩
  go_wp2_with fail
  refine (WT.out _).mono ?_
  rintro e wx ⟨rfl, rfl⟩
  go_wp2_with fail
  refine (C1.out _ (Grow.G.refl _)).mono ?_
  rintro e w4 ⟨xa, xc, rfl, X4, g4⟩
  have F4 := Lib.hid (fun (w' : World) (g : Grow.G w4 w') => (⟨SlOf.later X4 g, (FS.out _ (g4.trans g)).1, (FS.out _ (g4.trans g)).2.1⟩ : ShSl w' xa r ∧ ShSl w' a0 l ∧ ShSl w' a1 m))
  have G4 := Lib.hid (G0.out.trans g4)
  clear X4 g4 C1
  go_wp2_with fail
  refine (revs_any _).mono ?_
  rintro e wv ⟨rfl, hb, hg⟩
  have RB := Lib.hid (fun w' (g : Grow.G wv w') {k : Nat} (hk : k < 6) => rev_at (hb.grow g) hk)
  have GV := Lib.hid hg
  have hbv := hb.lt
  clear hb hg
  have GV4 := Lib.hid (G4.out.trans GV.out)
  have WA := Lib.hid (fun (x : ByteArray) (w' : World) (g : Grow.G wv w') => (rweight_any a0 l c0 x w' (by omega) ((F4.out _ (GV.out.trans g)).2.1)).mono (fun e w'' (h : _ ∧ _) => (⟨h.1, h.2 ▸ Grow.G.refl _⟩ : _ ∧ Grow.G w' w'')))
  have WB := Lib.hid (fun (x : ByteArray) (w' : World) (g : Grow.G wv w') => (rweight_any a1 m c1 x w' (by omega) ((F4.out _ (GV.out.trans g)).2.2)).mono (fun e w'' (h : _ ∧ _) => (⟨h.1, h.2 ▸ Grow.G.refl _⟩ : _ ∧ Grow.G w' w'')))
  have WR := Lib.hid (fun (x : ByteArray) (w' : World) (g : Grow.G wv w') => (rweight_any xa r xc x w' (by omega) ((F4.out _ (GV.out.trans g)).1)).mono (fun e w'' (h : _ ∧ _) => (⟨h.1, h.2 ▸ Grow.G.refl _⟩ : _ ∧ Grow.G w' w'')))
  go_wp2_with fail
  go_loopw [14, 15] (fun p i wr => ∃ (k : Nat) (q : Bool), k ≤ 6 ∧ i = .int .i64 k ∧ p = .bool q ∧ Hid (q = true → ∃ j, j < k ∧ wtL m (revK j) < wtL l (revK j) ∧ wtL r (revK j) ≠ wtL m (revK j)) ∧ Hid (Grow.G wv wr)) (fun _ i _ => 6 - (intOf i).toNat)
  case atStart => exact ⟨0, false, by omega, rfl, rfl, Lib.hid (fun h => by cases h), Lib.hid (Grow.G.refl _)⟩
  case round =>
    obtain ⟨k, q, hk, rfl, rfl, HQ, GR⟩ := hrel
    have hk1 : IntKind.i64.wrap ((k : Int) + 1) = (k : Int) + 1 := IntWalk.i64_in _ ⟨by omega, by omega⟩
    by_cases hlt : k < 6
    · have d0 : decide (k < 6) = true := decide_eq_true hlt
      have k1 : (0 : Int) ≤ (k : Int) := by omega
      have k2 : (k : Int) < 6 := by omega
      have KC := Lib.hid (fun (w' : World) (h : Chg (fun _ => False) wr w') => (⟨RB.out w' (GR.out.trans (g0 h)) hlt, trivial⟩ : w'.cell? ⟨w4.heap.size, k, none⟩ = some (.string (revK k)) ∧ True))
      have RK := Lib.hid (fun (j : Nat) (hj : j < k) => RO.out j k hj hlt)
      have WA1 := Lib.hid (fun (w' : World) (h : Chg (fun _ => False) wr w') => WA.out (revK k) w' (GR.out.trans (g0 h)))
      have WB1 := Lib.hid (fun (w' : World) (h : Chg (fun _ => False) wr w') => WB.out (revK k) w' (GR.out.trans (g0 h)))
      have WR1 := Lib.hid (fun (w' : World) (h : Chg (fun _ => False) wr w') => WR.out (revK k) w' (GR.out.trans (g0 h)))
      generalize hx : wtL l (revK k) = x at *
      generalize hy : wtL m (revK k) = y at *
      generalize hz : wtL r (revK k) = z at *
      have HX := Lib.hid hx
      have HY := Lib.hid hy
      have HZ := Lib.hid hz
      clear hx hy hz
      by_cases hc : x ≤ y
      · have d1 : decide (y ≥ x) = true := decide_eq_true hc
        have d2 : decide (x ≤ y) = true := decide_eq_true hc
        go_wp2_with fail
        refine Evo2.start' (ℓ := none) (S := Chg (fun _ => False)) (E := Grow.G) (by kernel_rfl) ⟨Chg.pre _, by decide +kernel, (by intro c a d v w h; cases d <;> exact h), by decide +kernel⟩ (fun ok => ?_)
        refine Evo2.va ok 0 _ _ ?_
        refine Evo2.va ok 1 _ _ ?_
        refine Evo2.va ok 2 _ _ ?_
        refine Evo2.va ok 3 _ _ ?_
        first | (refine Evo2.vl ok 4 KC.out (Chg.refl (fun _ => False) _) _ _ ?_) | (refine Evo2.va ok 4 _ _ ?_)
        (refine Evo2.cal ok 5 ?_ 20 ?_ ?_ ?_ ?_; rotate_left 2; (focus (intro w'; go_simp <;> with_reducible rfl)); (focus (intro w' g'; with_reducible exact WA1.out w' (Chg.trans (Chg.refl (fun _ => False) _) g'))); simp only [Act.put, L0, L1, L2])
        refine Evo2.va ok 6 _ _ ?_
        refine Evo2.va ok 7 _ _ ?_
        refine Evo2.va ok 8 _ _ ?_
        refine Evo2.va ok 9 _ _ ?_
        first | (refine Evo2.vl ok 10 KC.out (Chg.refl (fun _ => False) _) _ _ ?_) | (refine Evo2.va ok 10 _ _ ?_)
        (refine Evo2.cal ok 11 ?_ 20 ?_ ?_ ?_ ?_; rotate_left 2; (focus (intro w'; go_simp <;> with_reducible rfl)); (focus (intro w' g'; with_reducible exact WB1.out w' (Chg.trans (Chg.refl (fun _ => False) _) g'))); simp only [Act.put, L0, L1, L2])
        refine Evo2.va ok 12 _ _ ?_
        refine Evo2.va ok 13 _ _ ?_
        refine Evo2.va ok 14 _ _ ?_
        refine Evo2.va ok 15 _ _ ?_
        first | (refine Evo2.vl ok 16 KC.out (Chg.refl (fun _ => False) _) _ _ ?_) | (refine Evo2.va ok 16 _ _ ?_)
        (refine Evo2.cal ok 17 ?_ 20 ?_ ?_ ?_ ?_; rotate_left 2; (focus (intro w'; go_simp <;> with_reducible rfl)); (focus (intro w' g'; with_reducible exact WR1.out w' (Chg.trans (Chg.refl (fun _ => False) _) g'))); simp only [Act.put, L0, L1, L2])
        refine Evo2.va ok 18 _ _ ?_
        refine Evo2.va ok 19 _ _ ?_
        refine Evo2.va ok 20 _ _ ?_
        refine Evo2.done (by decide +kernel) (fun wz gz => ?_)
        have AZ := Chg.trans (Chg.refl (fun _ => False) _) (Chg.grow gz)
        have G6 := Lib.hid (GR.out.trans (g0 AZ))
        clear AZ
        go_wp2_with fail
        go_roundw
        case rel => exact ⟨k + 1, q, by omega, by go_num, rfl, Lib.hid (fun h => by obtain ⟨j, h1, h2⟩ := HQ.out h; exact ⟨j, by omega, h2⟩), G6⟩
        case measure => simp [intOf]; omega
      · have d1 : decide (y ≥ x) = false := decide_eq_false hc
        have d2 : decide (x ≤ y) = false := decide_eq_false hc
        obtain ⟨zx, hzx⟩ : ∃ zx, (z != x) = zx := ⟨_, rfl⟩
        obtain ⟨zy, hzy⟩ : ∃ zy, (z != y) = zy := ⟨_, rfl⟩
        cases q with
        | true =>
          have E : z = x := by
            obtain ⟨j, h1, h2, h3⟩ := HQ.out rfl
            exact RK.out j h1 h2 (by omega) h3
          obtain rfl : zx = false := by rw [← hzx, E]; simp
          have HT : Hid (true = true → ∃ j, j < k + 1 ∧ wtL m (revK j) < wtL l (revK j) ∧ wtL r (revK j) ≠ wtL m (revK j)) := Lib.hid (fun _ => by obtain ⟨j, h1, h2⟩ := HQ.out rfl; exact ⟨j, by omega, h2⟩)
          clear E hzy
          go_wp2_with fail
          refine Evo2.start' (ℓ := none) (S := Chg (fun _ => False)) (E := Grow.G) (by kernel_rfl) ⟨Chg.pre _, by decide +kernel, (by intro c a d v w h; cases d <;> exact h), by decide +kernel⟩ (fun ok => ?_)
          refine Evo2.va ok 0 _ _ ?_
          refine Evo2.va ok 1 _ _ ?_
          refine Evo2.va ok 2 _ _ ?_
          refine Evo2.va ok 3 _ _ ?_
          first | (refine Evo2.vl ok 4 KC.out (Chg.refl (fun _ => False) _) _ _ ?_) | (refine Evo2.va ok 4 _ _ ?_)
          (refine Evo2.cal ok 5 ?_ 20 ?_ ?_ ?_ ?_; rotate_left 2; (focus (intro w'; go_simp <;> with_reducible rfl)); (focus (intro w' g'; with_reducible exact WA1.out w' (Chg.trans (Chg.refl (fun _ => False) _) g'))); simp only [Act.put, L0, L1, L2])
          refine Evo2.va ok 6 _ _ ?_
          refine Evo2.va ok 7 _ _ ?_
          refine Evo2.va ok 8 _ _ ?_
          refine Evo2.va ok 9 _ _ ?_
          first | (refine Evo2.vl ok 10 KC.out (Chg.refl (fun _ => False) _) _ _ ?_) | (refine Evo2.va ok 10 _ _ ?_)
          (refine Evo2.cal ok 11 ?_ 20 ?_ ?_ ?_ ?_; rotate_left 2; (focus (intro w'; go_simp <;> with_reducible rfl)); (focus (intro w' g'; with_reducible exact WB1.out w' (Chg.trans (Chg.refl (fun _ => False) _) g'))); simp only [Act.put, L0, L1, L2])
          refine Evo2.va ok 12 _ _ ?_
          refine Evo2.va ok 13 _ _ ?_
          refine Evo2.va ok 14 _ _ ?_
          refine Evo2.va ok 15 _ _ ?_
          first | (refine Evo2.vl ok 16 KC.out (Chg.refl (fun _ => False) _) _ _ ?_) | (refine Evo2.va ok 16 _ _ ?_)
          (refine Evo2.cal ok 17 ?_ 20 ?_ ?_ ?_ ?_; rotate_left 2; (focus (intro w'; go_simp <;> with_reducible rfl)); (focus (intro w' g'; with_reducible exact WR1.out w' (Chg.trans (Chg.refl (fun _ => False) _) g'))); simp only [Act.put, L0, L1, L2])
          refine Evo2.va ok 18 _ _ ?_
          refine Evo2.va ok 19 _ _ ?_
          refine Evo2.va ok 20 _ _ ?_
          refine Evo2.done (by decide +kernel) (fun wz gz => ?_)
          have AZ := Chg.trans (Chg.refl (fun _ => False) _) (Chg.grow gz)
          have G6 := Lib.hid (GR.out.trans (g0 AZ))
          clear AZ
          go_wp2_with fail
          go_roundw
          case rel => exact ⟨k + 1, true, by omega, by go_num, rfl, Lib.hid (fun _ => HT.out (by first | rfl | trivial)), G6⟩
          case measure => simp [intOf]; omega
        | false =>
          have HN : Hid (zy = true → ∃ j, j < k + 1 ∧ wtL m (revK j) < wtL l (revK j) ∧ wtL r (revK j) ≠ wtL m (revK j)) := Lib.hid (fun h => ⟨k, by omega, by rw [HX.out, HY.out]; omega, by rw [HZ.out, HY.out]; rw [← hzy] at h; simpa using h⟩)
          clear hzx
          go_wp2_with fail
          refine Evo2.start' (ℓ := none) (S := Chg (fun _ => False)) (E := Grow.G) (by kernel_rfl) ⟨Chg.pre _, by decide +kernel, (by intro c a d v w h; cases d <;> exact h), by decide +kernel⟩ (fun ok => ?_)
          refine Evo2.va ok 0 _ _ ?_
          refine Evo2.va ok 1 _ _ ?_
          refine Evo2.va ok 2 _ _ ?_
          refine Evo2.va ok 3 _ _ ?_
          first | (refine Evo2.vl ok 4 KC.out (Chg.refl (fun _ => False) _) _ _ ?_) | (refine Evo2.va ok 4 _ _ ?_)
          (refine Evo2.cal ok 5 ?_ 20 ?_ ?_ ?_ ?_; rotate_left 2; (focus (intro w'; go_simp <;> with_reducible rfl)); (focus (intro w' g'; with_reducible exact WA1.out w' (Chg.trans (Chg.refl (fun _ => False) _) g'))); simp only [Act.put, L0, L1, L2])
          refine Evo2.va ok 6 _ _ ?_
          refine Evo2.va ok 7 _ _ ?_
          refine Evo2.va ok 8 _ _ ?_
          refine Evo2.va ok 9 _ _ ?_
          first | (refine Evo2.vl ok 10 KC.out (Chg.refl (fun _ => False) _) _ _ ?_) | (refine Evo2.va ok 10 _ _ ?_)
          (refine Evo2.cal ok 11 ?_ 20 ?_ ?_ ?_ ?_; rotate_left 2; (focus (intro w'; go_simp <;> with_reducible rfl)); (focus (intro w' g'; with_reducible exact WB1.out w' (Chg.trans (Chg.refl (fun _ => False) _) g'))); simp only [Act.put, L0, L1, L2])
          refine Evo2.va ok 12 _ _ ?_
          refine Evo2.va ok 13 _ _ ?_
          refine Evo2.va ok 14 _ _ ?_
          refine Evo2.va ok 15 _ _ ?_
          first | (refine Evo2.vl ok 16 KC.out (Chg.refl (fun _ => False) _) _ _ ?_) | (refine Evo2.va ok 16 _ _ ?_)
          (refine Evo2.cal ok 17 ?_ 20 ?_ ?_ ?_ ?_; rotate_left 2; (focus (intro w'; go_simp <;> with_reducible rfl)); (focus (intro w' g'; with_reducible exact WR1.out w' (Chg.trans (Chg.refl (fun _ => False) _) g'))); simp only [Act.put, L0, L1, L2])
          refine Evo2.va ok 18 _ _ ?_
          refine Evo2.va ok 19 _ _ ?_
          refine Evo2.va ok 20 _ _ ?_
          refine Evo2.done (by decide +kernel) (fun wz gz => ?_)
          have AZ := Chg.trans (Chg.refl (fun _ => False) _) (Chg.grow gz)
          have G6 := Lib.hid (GR.out.trans (g0 AZ))
          clear AZ
          go_wp2_with fail
          go_roundw
          case rel => exact ⟨k + 1, zy, by omega, by go_num, by first | rfl | simp [hzy], HN, G6⟩
          case measure => simp [intOf]; omega
    · have d0 : decide (k < 6) = false := decide_eq_false hlt
      have d3 : decide ((r.length : Int) > 0) = true := decide_eq_true (by omega)
      have d4 : decide (0 < r.length) = true := decide_eq_true HP
      go_wp2_with fail
      go_ret
      exact ⟨by first | rfl | (simp; done) | (simp; omega), GV4.out.trans GR.out⟩
end Go.Proofs.Ytbfoponlofkocaa

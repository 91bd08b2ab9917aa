
/- RollGains: what grows has grown by just its part of the time, each by itself, rounded down. -/
import Derived.Test.YtbfoponlofkocaaZ53
import Derived.Test.YtbfoponlofkocaaZ38
namespace Go.Proofs.Ytbfoponlofkocaa
set_option maxRecDepth 100000
set_option linter.unusedVariables false
set_option linter.unusedSimpArgs false
set_option linter.unnecessarySimpa false
open Go.RowKit Go.Args

/-- A sum over the first k names of a law. -/
def sumK (f : ByteArray → Int) : Nat → Int
  | 0 => 0
  | k + 1 => sumK f k + f (revK k)
theorem sumK_bd {f : ByteArray → Int} (h : ∀ x, 0 ≤ f x ∧ f x ≤ 100) : ∀ k : Nat, 0 ≤ sumK f k ∧ sumK f k ≤ 100 * k
  | 0 => by simp [sumK]
  | k + 1 => by
    have := sumK_bd h k
    have := h (revK k)
    rw [sumK]; omega
theorem sumK_six (f : ByteArray → Int) : sumK f 6 = sumN f revL := by
  show 0 + f (revK 0) + f (revK 1) + f (revK 2) + f (revK 3) + f (revK 4) + f (revK 5) = f (revK 0) + (f (revK 1) + (f (revK 2) + (f (revK 3) + (f (revK 4) + (f (revK 5) + 0)))))
  omega
theorem revL_asc : Asc revL := by unfold Asc; decide +kernel
theorem revK_mem : ∀ i : Fin 6, revK i ∈ revL := fun i => by
  unfold revK
  match i with
  | 0 => simp [revL]
  | 1 => simp [revL]
  | 2 => simp [revL]
  | 3 => simp [revL]
  | 4 => simp [revL]
  | 5 => simp [revL]
theorem roll_revs {P : ByteArray → Prop} {a b : List Shr} {t n : Int} (ha : ∀ s, s ∈ a → P s.rev) (hb : ∀ s, s ∈ b → P s.rev) : ∀ s, s ∈ rollL a b t n → P s.rev := fun s hs => by
  unfold rollL at hs
  split at hs
  · exact hb s hs
  · split at hs
    · exact ha s hs
    · rcases (namesL_mem a b _).1 (out_mem hs) with ⟨x, hx, e⟩ | ⟨x, hx, e⟩
      · exact e ▸ ha x hx
      · exact e ▸ hb x hx
theorem gains_eq {l r : List Shr} (hl : Sd l) (hr : Sd r) (k1 : ∀ s, s ∈ l → ∃ i : Nat, i < 6 ∧ s.rev = revK i) (k2 : ∀ s, s ∈ r → ∃ i : Nat, i < 6 ∧ s.rev = revK i) : sumK (fun x => max (wtL r x - wtL l x) 0) 6 = sumK (fun x => max (wtL l x - wtL r x) 0) 6 := by
  rw [sumK_six, sumK_six]
  have e1 := sumN_wt revL_asc hl.revs (fun s hs => by obtain ⟨i, h1, h2⟩ := k1 s hs; rw [h2]; exact revK_mem ⟨i, h1⟩)
  have e2 := sumN_wt revL_asc hr.revs (fun s hs => by obtain ⟨i, h1, h2⟩ := k2 s hs; rw [h2]; exact revK_mem ⟨i, h1⟩)
  have e3 : sumN (fun x => max (wtL r x - wtL l x) 0 + wtL l x) revL = sumN (fun x => max (wtL l x - wtL r x) 0 + wtL r x) revL := sumN_congr (fun x _ => by omega)
  rw [sumN_add, sumN_add] at e3
  rw [hl.sum] at e1
  rw [hr.sum] at e2
  have e1 : sumN (fun x => wtL l x) revL = 100 := e1
  have e2 : sumN (fun x => wtL r x) revL = 100 := e2
  omega
set_option maxHeartbeats 8000000 in
theorem walkRollGains (w : World) (v0 : Value) (zs0 : List Int) (hz0 : IntSlice w v0 zs0) (v1 : Value) (zs1 : List Int) (hz1 : IntSlice w v1 zs1) (a : Int) (ha : wf64 a) (b : Int) (hb : wf64 b) :
    Calls Try.prog 9 #[v0, v1, .int .i64 a, .int .i64 b] w fun e w' => e = .returned (.bool true) ∧ Below w.heap.size w w' := by
  have M0 := Lib.hid (fun w' (g : Grow.G w w') => sharesAt v0 zs0 w' (hz0.below g))
  have M1 := Lib.hid (fun w' (g : Grow.G w w') => sharesAt v1 zs1 w' (hz1.below g))
  have LN0 := mkS_len zs0
  have S0 := Lib.hid (mk_sd zs0)
  have KR0 := Lib.hid (fun s hs => mkS_rev (zs := zs0) (s := s) hs)
  have LN1 := mkS_len zs1
  have S1 := Lib.hid (mk_sd zs1)
  have KR1 := Lib.hid (fun s hs => mkS_rev (zs := zs1) (s := s) hs)
  clear hz0 hz1
  generalize mkS zs0 = l at *
  generalize mkS zs1 = m at *
  have WN := Lib.hid (fun w => within6w_any b 60 w (by omega) (by omega) hb.1 hb.2)
  have RN := withinI_range b 60 (by omega)
  generalize hn0 : withinI b 60 = n0 at *
  clear hn0
  have hwn : IntKind.i64.wrap (1 + n0) = 1 + n0 := IntWalk.i64_in _ ⟨by omega, by omega⟩
  have WT := Lib.hid (fun w => within6w_any a (1 + n0) w (by omega) (by omega) ha.1 ha.2)
  have RT := withinI_range a (1 + n0) (by omega)
  generalize withinI a (1 + n0) = t at *
  have RS := roll_sd (t := t) (n := 1 + n0) S0.out S1.out (by have := namesL_len l m; omega)
  have HL := RS.len
  have RG := Lib.hid (fun (x : ByteArray) (h : wtL l x ≤ wtL m x) => roll_gains (t := t) (n := 1 + n0) S0.out S1.out (by omega) (by omega) h)
  have BD := Lib.hid (fun (x : ByteArray) => (⟨S0.out.wt x, S1.out.wt x, RS.wt x⟩ : _ ∧ _ ∧ _))
  have EQ := Lib.hid (gains_eq (l := l) (r := rollL l m t (1 + n0)) S0.out RS (fun s hs => by obtain ⟨i, h1, h2, _⟩ := KR0.out s hs; exact ⟨i, h1, h2⟩) (fun s hs => roll_revs (P := fun x => ∃ i : Nat, i < 6 ∧ x = revK i) (fun s hs => by obtain ⟨i, h1, h2, _⟩ := KR0.out s hs; exact ⟨i, h1, h2⟩) (fun s hs => by obtain ⟨i, h1, h2, _⟩ := KR1.out s hs; exact ⟨i, h1, h2⟩) s hs))
  clear ha hb RS
  go_enter Try.func9, Try.ntmps9
  go_wp2_with fail
  refine (known6_any w).mono ?_
  rintro e w0 ⟨rfl, g0⟩
  go_wp2_with fail
  refine (M0.out _ g0).mono ?_
  rintro e w1 ⟨a0, c0, rfl, A0, q0⟩
  have g1 := g0.trans q0
  go_wp2_with fail
  refine (M1.out _ g1).mono ?_
  rintro e w2 ⟨a1, c1, rfl, A1, q1⟩
  have A0 := SlOf.later A0 q1
  have g2 := g1.trans q1
  have G0 := Lib.hid g2
  clear q0 M0 q1 M1 g0 g1 g2
  generalize w2 = W at *
  have FS := Lib.hid (fun (w' : World) (g : Grow.G W w') => (⟨SlOf.later A0 g, SlOf.later A1 g, trivial⟩ : ShSl w' a0 l ∧ ShSl w' a1 m ∧ True))
  clear A0 A1
  have C1 := Lib.hid (fun (w' : World) (g : Grow.G W w') => rollAt c0 c1 t (1 + n0) w' S0.out S1.out rfl (FS.out _ g).1 (FS.out _ g).2.1 (by omega) (by omega))
  generalize rollL l m t (1 + n0) = r at *
  go_wp2_with fail
  refine (WN.out _).mono ?_
  rintro e wx ⟨rfl, rfl⟩
  go_wp2_with fail
  refine (WT.out _).mono ?_
  rintro e wx ⟨rfl, rfl⟩
  go_wp2_with fail
  refine (C1.out _ (Grow.G.refl _)).mono ?_
  rintro e w4 ⟨xa, xc, rfl, X4, g4⟩
  have F4 := Lib.hid (fun (w' : World) (g : Grow.G w4 w') => (⟨SlOf.later X4 g, (FS.out _ (g4.trans g)).1, (FS.out _ (g4.trans g)).2.1⟩ : ShSl w' xa r ∧ ShSl w' a0 l ∧ ShSl w' a1 m))
  have G4 := Lib.hid (G0.out.trans g4)
  clear X4 g4 C1
  go_wp2_with fail
  refine (revs_any _).mono ?_
  rintro e wv ⟨rfl, hb, hg⟩
  have RB := Lib.hid (fun w' (g : Grow.G wv w') {k : Nat} (hk : k < 6) => rev_at (hb.grow g) hk)
  have GV := Lib.hid hg
  have hbv := hb.lt
  clear hb hg
  have GV4 := Lib.hid (G4.out.trans GV.out)
  have WA := Lib.hid (fun (x : ByteArray) (w' : World) (g : Grow.G wv w') => (rweight_any a0 l c0 x w' (by omega) ((F4.out _ (GV.out.trans g)).2.1)).mono (fun e w'' (h : _ ∧ _) => (⟨h.1, h.2 ▸ Grow.G.refl _⟩ : _ ∧ Grow.G w' w'')))
  have WB := Lib.hid (fun (x : ByteArray) (w' : World) (g : Grow.G wv w') => (rweight_any a1 m c1 x w' (by omega) ((F4.out _ (GV.out.trans g)).2.2)).mono (fun e w'' (h : _ ∧ _) => (⟨h.1, h.2 ▸ Grow.G.refl _⟩ : _ ∧ Grow.G w' w'')))
  have WR := Lib.hid (fun (x : ByteArray) (w' : World) (g : Grow.G wv w') => weight_any xa r xc x w' (by omega) (F4.out _ (GV.out.trans g)).1)
  go_wp2_with fail
  go_loopw [15, 16, 17] (fun gv lv i wr => ∃ (k : Nat), k ≤ 6 ∧ i = .int .i64 k ∧ gv = .int .i64 (sumK (fun x => max (wtL r x - wtL l x) 0) k) ∧ lv = .int .i64 (sumK (fun x => max (wtL l x - wtL r x) 0) k) ∧ Hid (Grow.G wv wr)) (fun _ _ i _ => 6 - (intOf i).toNat)
  case atStart => exact ⟨0, by omega, rfl, rfl, rfl, Lib.hid (Grow.G.refl _)⟩
  case round =>
    obtain ⟨k, hk, rfl, rfl, rfl, GR⟩ := hrel
    have hk1 : IntKind.i64.wrap ((k : Int) + 1) = (k : Int) + 1 := IntWalk.i64_in _ ⟨by omega, by omega⟩
    by_cases hlt : k < 6
    · have d0 : decide (k < 6) = true := decide_eq_true hlt
      have k1 : (0 : Int) ≤ (k : Int) := by omega
      have k2 : (k : Int) < 6 := by omega
      have KC := Lib.hid (fun (w' : World) (h : Chg (fun _ => False) wr w') => (⟨RB.out w' (GR.out.trans (g0 h)) hlt, trivial⟩ : w'.cell? ⟨w4.heap.size, k, none⟩ = some (.string (revK k)) ∧ True))
      have WA1 := Lib.hid (fun (w' : World) (h : Chg (fun _ => False) wr w') => WA.out (revK k) w' (GR.out.trans (g0 h)))
      have WB1 := Lib.hid (fun (w' : World) (h : Chg (fun _ => False) wr w') => WB.out (revK k) w' (GR.out.trans (g0 h)))
      have WR1 := Lib.hid (fun (w' : World) (h : Chg (fun _ => False) wr w') => WR.out (revK k) w' (GR.out.trans (g0 h)))
      have RG1 := Lib.hid (RG.out (revK k))
      have B1 := BD.out (revK k)
      have SU := sumK_bd (f := fun x => max (wtL r x - wtL l x) 0) (fun x => by have := BD.out x; omega) k
      have SV := sumK_bd (f := fun x => max (wtL l x - wtL r x) 0) (fun x => by have := BD.out x; omega) k
      have T1 : Hid (sumK (fun x => max (wtL r x - wtL l x) 0) (k + 1) = sumK (fun x => max (wtL r x - wtL l x) 0) k + max (wtL r (revK k) - wtL l (revK k)) 0) := Lib.hid rfl
      have T2 : Hid (sumK (fun x => max (wtL l x - wtL r x) 0) (k + 1) = sumK (fun x => max (wtL l x - wtL r x) 0) k + max (wtL l (revK k) - wtL r (revK k)) 0) := Lib.hid rfl
      generalize sumK (fun x => max (wtL r x - wtL l x) 0) k = gs at *
      generalize sumK (fun x => max (wtL l x - wtL r x) 0) k = ls at *
      generalize wtL l (revK k) = x at *
      generalize wtL m (revK k) = y at *
      generalize wtL r (revK k) = z at *
      have hw1 : IntKind.i64.wrap (z - x) = z - x := IntWalk.i64_in _ ⟨by omega, by omega⟩
      have hw2 : IntKind.i64.wrap (x - z) = x - z := IntWalk.i64_in _ ⟨by omega, by omega⟩
      have hw3 : IntKind.i64.wrap (gs + max (z - x) 0) = gs + max (z - x) 0 := IntWalk.i64_in _ ⟨by omega, by omega⟩
      have hw4 : IntKind.i64.wrap (ls + max (x - z) 0) = ls + max (x - z) 0 := IntWalk.i64_in _ ⟨by omega, by omega⟩
      by_cases hc : x ≤ y
      · have d1 : decide (y ≥ x) = true := decide_eq_true hc
        have d2 : decide (x ≤ y) = true := decide_eq_true hc
        have E := RG1.out hc
        have hm0 : 0 ≤ (y - x) * t := Int.mul_nonneg (by omega) (by omega)
        have hm1 : (y - x) * t ≤ 1000 * 1000 := Int.mul_le_mul (by omega) (by omega) (by omega) (by omega)
        have htd : ((y - x) * t).tdiv (1 + n0) = (y - x) * t / (1 + n0) := Int.tdiv_eq_ediv_of_nonneg hm0
        have hn0 : (1 + n0 == 0) = false := by simp; omega
        have hw5 : IntKind.i64.wrap (y - x) = y - x := IntWalk.i64_in _ ⟨by omega, by omega⟩
        have hw6 : IntKind.i64.wrap ((y - x) * t) = (y - x) * t := IntWalk.i64_in _ ⟨by omega, by omega⟩
        have hq0 : 0 ≤ (y - x) * t / (1 + n0) := Int.ediv_nonneg hm0 (by omega)
        have hq1 : (y - x) * t / (1 + n0) ≤ 1000 * 1000 := Int.le_trans (Int.ediv_le_self _ hm0) hm1
        have hw7 : IntKind.i64.wrap ((y - x) * t / (1 + n0)) = (y - x) * t / (1 + n0) := IntWalk.i64_in _ ⟨by omega, by omega⟩
        have hw8 : IntKind.i64.wrap (x + (y - x) * t / (1 + n0)) = x + (y - x) * t / (1 + n0) := IntWalk.i64_in _ ⟨by omega, by omega⟩
        have EB : (z != x + (y - x) * t / (1 + n0)) = false := by rw [← E]; simp
        clear E hm0 hm1 hq0 hq1
        go_wp2_with fail
        refine Evo2.start' (ℓ := none) (S := Chg (fun _ => False)) (E := Grow.G) (by kernel_rfl) ⟨Chg.pre _, by decide +kernel, (by intro c a d v w h; cases d <;> exact h), by decide +kernel⟩ (fun ok => ?_)
        refine Evo2.va ok 0 _ _ ?_
        refine Evo2.va ok 1 _ _ ?_
        refine Evo2.va ok 2 _ _ ?_
        refine Evo2.va ok 3 _ _ ?_
        first | (refine Evo2.vl ok 4 KC.out (Chg.refl (fun _ => False) _) _ _ ?_) | (refine Evo2.va ok 4 _ _ ?_)
        (refine Evo2.cal ok 5 ?_ 20 ?_ ?_ ?_ ?_; rotate_left 2; (focus (intro w'; go_simp <;> with_reducible rfl)); (focus (intro w' g'; with_reducible exact WA1.out w' (Chg.trans (Chg.refl (fun _ => False) _) g'))); simp only [Act.put, L0, L1, L2])
        refine Evo2.va ok 6 _ _ ?_
        refine Evo2.va ok 7 _ _ ?_
        refine Evo2.va ok 8 _ _ ?_
        refine Evo2.va ok 9 _ _ ?_
        first | (refine Evo2.vl ok 10 KC.out (Chg.refl (fun _ => False) _) _ _ ?_) | (refine Evo2.va ok 10 _ _ ?_)
        (refine Evo2.cal ok 11 ?_ 20 ?_ ?_ ?_ ?_; rotate_left 2; (focus (intro w'; go_simp <;> with_reducible rfl)); (focus (intro w' g'; with_reducible exact WB1.out w' (Chg.trans (Chg.refl (fun _ => False) _) g'))); simp only [Act.put, L0, L1, L2])
        refine Evo2.va ok 12 _ _ ?_
        refine Evo2.va ok 13 _ _ ?_
        refine Evo2.va ok 14 _ _ ?_
        refine Evo2.va ok 15 _ _ ?_
        first | (refine Evo2.vl ok 16 KC.out (Chg.refl (fun _ => False) _) _ _ ?_) | (refine Evo2.va ok 16 _ _ ?_)
        (refine Evo2.cal ok 17 ?_ 19 ?_ ?_ ?_ ?_; rotate_left 2; (focus (intro w'; go_simp <;> with_reducible rfl)); (focus (intro w' g'; with_reducible exact WR1.out w' (Chg.trans (Chg.refl (fun _ => False) _) g'))); simp only [Act.put, L0, L1, L2])
        refine Evo2.va ok 18 _ _ ?_
        refine Evo2.va ok 19 _ _ ?_
        refine Evo2.va ok 20 _ _ ?_
        refine Evo2.done (by decide +kernel) (fun wz gz => ?_)
        have AZ := Chg.trans (Chg.refl (fun _ => False) _) (Chg.grow gz)
        have G6 := Lib.hid (GR.out.trans (g0 AZ))
        clear AZ
        go_wp2_with fail
        go_roundw
        case rel => exact ⟨k + 1, by omega, by go_num, by rw [T1.out], by rw [T2.out], G6⟩
        case measure => simp [intOf]; omega
      · have d1 : decide (y ≥ x) = false := decide_eq_false hc
        have d2 : decide (x ≤ y) = false := decide_eq_false hc
        go_wp2_with fail
        refine Evo2.start' (ℓ := none) (S := Chg (fun _ => False)) (E := Grow.G) (by kernel_rfl) ⟨Chg.pre _, by decide +kernel, (by intro c a d v w h; cases d <;> exact h), by decide +kernel⟩ (fun ok => ?_)
        refine Evo2.va ok 0 _ _ ?_
        refine Evo2.va ok 1 _ _ ?_
        refine Evo2.va ok 2 _ _ ?_
        refine Evo2.va ok 3 _ _ ?_
        first | (refine Evo2.vl ok 4 KC.out (Chg.refl (fun _ => False) _) _ _ ?_) | (refine Evo2.va ok 4 _ _ ?_)
        (refine Evo2.cal ok 5 ?_ 20 ?_ ?_ ?_ ?_; rotate_left 2; (focus (intro w'; go_simp <;> with_reducible rfl)); (focus (intro w' g'; with_reducible exact WA1.out w' (Chg.trans (Chg.refl (fun _ => False) _) g'))); simp only [Act.put, L0, L1, L2])
        refine Evo2.va ok 6 _ _ ?_
        refine Evo2.va ok 7 _ _ ?_
        refine Evo2.va ok 8 _ _ ?_
        refine Evo2.va ok 9 _ _ ?_
        first | (refine Evo2.vl ok 10 KC.out (Chg.refl (fun _ => False) _) _ _ ?_) | (refine Evo2.va ok 10 _ _ ?_)
        (refine Evo2.cal ok 11 ?_ 20 ?_ ?_ ?_ ?_; rotate_left 2; (focus (intro w'; go_simp <;> with_reducible rfl)); (focus (intro w' g'; with_reducible exact WB1.out w' (Chg.trans (Chg.refl (fun _ => False) _) g'))); simp only [Act.put, L0, L1, L2])
        refine Evo2.va ok 12 _ _ ?_
        refine Evo2.va ok 13 _ _ ?_
        refine Evo2.va ok 14 _ _ ?_
        refine Evo2.va ok 15 _ _ ?_
        first | (refine Evo2.vl ok 16 KC.out (Chg.refl (fun _ => False) _) _ _ ?_) | (refine Evo2.va ok 16 _ _ ?_)
        (refine Evo2.cal ok 17 ?_ 19 ?_ ?_ ?_ ?_; rotate_left 2; (focus (intro w'; go_simp <;> with_reducible rfl)); (focus (intro w' g'; with_reducible exact WR1.out w' (Chg.trans (Chg.refl (fun _ => False) _) g'))); simp only [Act.put, L0, L1, L2])
        refine Evo2.va ok 18 _ _ ?_
        refine Evo2.va ok 19 _ _ ?_
        refine Evo2.va ok 20 _ _ ?_
        refine Evo2.done (by decide +kernel) (fun wz gz => ?_)
        have AZ := Chg.trans (Chg.refl (fun _ => False) _) (Chg.grow gz)
        have G6 := Lib.hid (GR.out.trans (g0 AZ))
        clear AZ
        go_wp2_with fail
        go_roundw
        case rel => exact ⟨k + 1, by omega, by go_num, by rw [T1.out], by rw [T2.out], G6⟩
        case measure => simp [intOf]; omega
    · have d0 : decide (k < 6) = false := decide_eq_false hlt
      obtain rfl : k = 6 := by omega
      have EE : (sumK (fun x => max (wtL r x - wtL l x) 0) 6 == sumK (fun x => max (wtL l x - wtL r x) 0) 6) = true := by rw [EQ.out]; simp
      generalize sumK (fun x => max (wtL r x - wtL l x) 0) 6 = s1 at *
      generalize sumK (fun x => max (wtL l x - wtL r x) 0) 6 = s2 at *
      clear EQ
      go_wp2_with fail
      go_ret
      exact ⟨by first | rfl | (simp; done) | simpa using EE, GV4.out.trans GR.out⟩
end Go.Proofs.Ytbfoponlofkocaa


/- RollShares: from any sound Shares to any, at any time, the Shares are the document's; so is what each weighs. -/
import Derived.Test.YtbfoponlofkocaaZ53
import Derived.Test.YtbfoponlofkocaaZ38
import Derived.Test.YtbfoponlofkocaaArgTb
import Derived.Test.YtbfoponlofkocaaZ2
namespace Go.Proofs.Ytbfoponlofkocaa
set_option maxRecDepth 100000
set_option linter.unusedVariables false
set_option linter.unusedSimpArgs false
set_option linter.unnecessarySimpa false
open Go.RowKit Go.Args

theorem bne_same (x : Int) : (x != x) = false := by simp
theorem none_wt {l : List Shr} (h : ∀ s, s ∈ l → ∃ i : Nat, i < 6 ∧ s.rev = revK i ∧ 1 ≤ s.w ∧ s.w ≤ 100) : wtL l ⟨#[110, 111, 110, 101, 45, 49]⟩ = 0 := wtL_none (fun s hs e => by
  obtain ⟨i, h1, h2, _⟩ := h s hs
  have : ∀ i : Fin 6, revK i ≠ ⟨#[110, 111, 110, 101, 45, 49]⟩ := by decide +kernel
  exact this ⟨i, h1⟩ (h2 ▸ e))
def prC (p : Int × Int) : List Value := [.int .i64 p.1, .int .i64 p.2]
theorem trem_bd (a : Int) : -1099511627776 ≤ a.tmod 1000000 ∧ a.tmod 1000000 ≤ 1099511627776 := by
  have h1 := Int.tmod_lt_of_pos a (show (0 : Int) < 1000000 by omega)
  have h2 := Int.lt_tmod_of_pos a (show (0 : Int) < 1000000 by omega)
  omega
set_option maxHeartbeats 8000000 in
theorem walkRollShares (w : World) (v0 : Value) (zs0 : List Int) (hz0 : IntSlice w v0 zs0) (v1 : Value) (zs1 : List Int) (hz1 : IntSlice w v1 zs1) (a : Int) (ha : wf64 a) (b : Int) (hb : wf64 b) (ra : Option Addr) (rl : List Shr) (rc : Nat) (hr : ShrsIn w ra rl) :
    Calls Try.prog 3 #[v0, v1, .int .i64 a, .int .i64 b, .slice ra rl.length rc] w fun e w' => e = .returned (.bool true) ∧ Below w.heap.size w w' := by
  have M0 := Lib.hid (fun w' (g : Grow.G w w') => sharesAt v0 zs0 w' (hz0.below g))
  have M1 := Lib.hid (fun w' (g : Grow.G w w') => sharesAt v1 zs1 w' (hz1.below g))
  have LN0 := mkS_len zs0
  have S0 := Lib.hid (mk_sd zs0)
  have KR0 := Lib.hid (fun s hs => mkS_rev (zs := zs0) (s := s) hs)
  have LN1 := mkS_len zs1
  have S1 := Lib.hid (mk_sd zs1)
  have KR1 := Lib.hid (fun s hs => mkS_rev (zs := zs1) (s := s) hs)
  have NN := Lib.hid (none_wt (fun s hs => mkS_rev (zs := zs0) (s := s) hs))
  clear hz0 hz1
  generalize mkS zs0 = l at *
  generalize mkS zs1 = m at *
  have W1 := Lib.hid (fun w => within6w_any a 70 w (by omega) (by omega) ha.1 ha.2)
  have R1 := withinI_range a 70 (by omega)
  generalize withinI a 70 = ta at *
  have W2 := Lib.hid (fun w => within6w_any b 61 w (by omega) (by omega) hb.1 hb.2)
  have R2 := withinI_range b 61 (by omega)
  generalize withinI b 61 = tb at *
  have R3 := trem_bd a
  have R4 := trem_bd b
  generalize htc : a.tmod 1000000 = tc at *
  generalize htd : b.tmod 1000000 = td at *
  have hwc : IntKind.i64.wrap tc = tc := IntWalk.i64_in _ ⟨by omega, by omega⟩
  have hwd : IntKind.i64.wrap td = td := IntWalk.i64_in _ ⟨by omega, by omega⟩
  have HR := Lib.hid hr
  have RL := Lib.hid (fun (t n : Int) => roll_len l m t n)
  have PB : Hid (∀ k : Nat, k < 6 → ∃ t n : Int, ([(ta, tb), (tc, td), (0, 10), (10, 10), (-1, 10), (3, 0)] : List (Int × Int))[k]? = some (t, n) ∧ (-1099511627776 ≤ t ∧ t ≤ 1099511627776) ∧ (-1099511627776 ≤ n ∧ n ≤ 1099511627776)) := Lib.hid (fun k hk => match k, hk with | 0, _ => ⟨_, _, rfl, by omega, by omega⟩ | 1, _ => ⟨_, _, rfl, by omega, by omega⟩ | 2, _ => ⟨_, _, rfl, by omega, by omega⟩ | 3, _ => ⟨_, _, rfl, by omega, by omega⟩ | 4, _ => ⟨_, _, rfl, by omega, by omega⟩ | 5, _ => ⟨_, _, rfl, by omega, by omega⟩)
  clear ha hb hr R1 R2 R3 R4
  go_enter Try.func3, Try.ntmps3
  go_wp2_with fail
  refine (known6_any w).mono ?_
  rintro e w0 ⟨rfl, g0⟩
  go_wp2_with fail
  refine (M0.out _ g0).mono ?_
  rintro e w1 ⟨a0, c0, rfl, A0, q0⟩
  have g1 := g0.trans q0
  go_wp2_with fail
  refine (M1.out _ g1).mono ?_
  rintro e w2 ⟨a1, c1, rfl, A1, q1⟩
  have A0 := SlOf.later A0 q1
  have g2 := g1.trans q1
  have G0 := Lib.hid g2
  clear q0 M0 q1 M1 g0 g1 g2
  generalize w2 = W at *
  have FS := Lib.hid (fun (w' : World) (g : Grow.G W w') => (⟨SlOf.later A0 g, SlOf.later A1 g, trivial⟩ : ShSl w' a0 l ∧ ShSl w' a1 m ∧ True))
  clear A0 A1
  go_wp2_with fail
  refine (W1.out _).mono ?_
  rintro e wx ⟨rfl, rfl⟩
  go_wp2_with fail
  refine (W2.out _).mono ?_
  rintro e wx ⟨rfl, rfl⟩
  go_wp2_with fail
  have Q1 := Blk.new W #[.int .i64 ta, .int .i64 tb, .int .i64 tc, .int .i64 td, .int .i64 0, .int .i64 10, .int .i64 10, .int .i64 10, .int .i64 (-1), .int .i64 10, .int .i64 3, .int .i64 0] 27
  have g1 := Grow.G.alloc (Grow.G.refl W) (.cells #[.int .i64 ta, .int .i64 tb, .int .i64 tc, .int .i64 td, .int .i64 0, .int .i64 10, .int .i64 10, .int .i64 10, .int .i64 (-1), .int .i64 10, .int .i64 3, .int .i64 0] 27)
  have PS : SlOf (W.alloc (.cells #[.int .i64 ta, .int .i64 tb, .int .i64 tc, .int .i64 td, .int .i64 0, .int .i64 10, .int .i64 10, .int .i64 10, .int .i64 (-1), .int .i64 10, .int .i64 3, .int .i64 0] 27)) prC 2 (some ⟨W.heap.size, 0, none⟩) [(ta, tb), (tc, td), (0, 10), (10, 10), (-1, 10), (3, 0)] := SlOf.blk (cells := prC) (n := 2) (fun x => rfl) (more := []) Q1
  clear Q1
  generalize W.heap.size = gb at *
  obtain ⟨W4, hW4⟩ : ∃ W4, W4 = W.alloc (.cells #[.int .i64 ta, .int .i64 tb, .int .i64 tc, .int .i64 td, .int .i64 0, .int .i64 10, .int .i64 10, .int .i64 10, .int .i64 (-1), .int .i64 10, .int .i64 3, .int .i64 0] 27) := ⟨_, rfl⟩
  rw [← hW4] at g1 PS ⊢
  have G4 := Lib.hid g1
  have PS := Lib.hid PS
  clear hW4 g1
  go_loopw [14] (fun i wr => ∃ (k : Nat), k ≤ 6 ∧ i = .int .i64 k ∧ Hid (Grow.G W4 wr)) (fun i _ => 6 - (intOf i).toNat)
  case atStart => exact ⟨0, by omega, rfl, Lib.hid (Grow.G.refl _)⟩
  case round =>
    obtain ⟨k, hk, rfl, GR⟩ := hrel
    have hk1 : IntKind.i64.wrap ((k : Int) + 1) = (k : Int) + 1 := IntWalk.i64_in _ ⟨by omega, by omega⟩
    by_cases hlt : k < 6
    · have d0 : decide (k < 6) = true := decide_eq_true hlt
      have k1 : (0 : Int) ≤ (k : Int) := by omega
      have k2 : (k : Int) < 6 := by omega
      obtain ⟨t, n, hp, ht, hn⟩ := PB.out k hlt
      obtain ⟨b', off', eq, hc⟩ := PS.out.spot (i := k) (by simpa using hlt)
      cases eq
      have q0 := fun w' (g : Grow.G W4 w') => cell_later g (hc k _ hp 0 _ rfl)
      have q1 := fun w' (g : Grow.G W4 w') => cell_later g (hc k _ hp 1 _ rfl)
      simp only [Nat.zero_add, Nat.add_zero] at q0 q1
      have KC := Lib.hid (fun (w' : World) (h : Chg (fun _ => False) wr w') => (⟨q0 w' (GR.out.trans (g0 h)), q1 w' (GR.out.trans (g0 h)), trivial⟩ : w'.cell? ⟨gb, k * 2, none⟩ = some (.int .i64 t) ∧ w'.cell? ⟨gb, k * 2 + 1, none⟩ = some (.int .i64 n) ∧ True))
      have FK := Lib.hid (fun (w' : World) (h : Chg (fun _ => False) wr w') => FS.out w' (G4.out.trans (GR.out.trans (g0 h))))
      have C1 := Lib.hid (fun (w' : World) (h : Chg (fun _ => False) wr w') => rollAt c0 c1 t n w' S0.out S1.out rfl (FK.out _ h).1 (FK.out _ h).2.1 ht hn)
      have C2 := Lib.hid (fun (w' : World) (h : Chg (fun _ => False) wr w') => rrollAt c0 c1 t n w' S0.out S1.out rfl (FK.out _ h).1 (FK.out _ h).2.1 ht hn)
      have hrl := RL.out t n
      generalize rollL l m t n = r at *
      have SM := Lib.hid (fun (xa ya : Option Addr) (xc yc : Nat) (w' : World) (h1 : ShSl w' xa r) (h2 : ShSl w' ya r) => sameAt (l := r) xc yc w' (by omega) h1 h2)
      clear q0 q1 hc hp
      go_wp2_with fail
      refine Evo2.start' (ℓ := none) (S := Chg (fun _ => False)) (E := Grow.G) (by kernel_rfl) ⟨Chg.pre _, by decide +kernel, (by intro c a d v w h; cases d <;> exact h), by decide +kernel⟩ (fun ok => ?_)
      refine Evo2.va ok 0 _ _ ?_
      refine Evo2.va ok 1 _ _ ?_
      refine Evo2.va ok 2 _ _ ?_
      refine Evo2.va ok 3 _ _ ?_
      refine Evo2.va ok 4 _ _ ?_
      refine Evo2.va ok 5 _ _ ?_
      first | (refine Evo2.vl ok 6 KC.out (Chg.refl (fun _ => False) _) _ _ ?_) | (refine Evo2.va ok 6 _ _ ?_)
      refine Evo2.va ok 7 _ _ ?_
      refine Evo2.va ok 8 _ _ ?_
      refine Evo2.va ok 9 _ _ ?_
      refine Evo2.va ok 10 _ _ ?_
      first | (refine Evo2.vl ok 11 KC.out (Chg.refl (fun _ => False) _) _ _ ?_) | (refine Evo2.va ok 11 _ _ ?_)
      refine Evo2.va ok 13 _ _ ?_
      refine Evo2.va ok 14 _ _ ?_
      refine Evo2.va ok 15 _ _ ?_
      refine Evo2.va ok 16 _ _ ?_
      refine Evo2.va ok 17 _ _ ?_
      refine Evo2.va ok 18 _ _ ?_
      first | (refine Evo2.vl ok 19 KC.out (Chg.refl (fun _ => False) _) _ _ ?_) | (refine Evo2.va ok 19 _ _ ?_)
      refine Evo2.va ok 20 _ _ ?_
      refine Evo2.va ok 21 _ _ ?_
      refine Evo2.va ok 22 _ _ ?_
      refine Evo2.va ok 23 _ _ ?_
      first | (refine Evo2.vl ok 24 KC.out (Chg.refl (fun _ => False) _) _ _ ?_) | (refine Evo2.va ok 24 _ _ ?_)
      refine Evo2.all [12] (by decide +kernel) rfl ?_
      intro wp1 gp1 iq hq
      simp only [List.mem_cons, List.mem_nil_iff, or_false] at hq
      have AP1 := Chg.trans (Chg.refl (fun _ => False) _) (Chg.grow gp1)
      (try replace X4 := SlOf.later X4 gp1); (try replace Y4 := SlOf.later Y4 gp1)
      subst hq
      refine Evo2.enters 16 _ (by rfl) (by rfl) (by go_simp; exact ⟨rfl, rfl⟩) ?_
      refine (C1.out _ AP1).mono ?_
      rintro e wc1 ⟨xa, xc, rfl, X4, hg⟩; have CH1 := Chg.grow (G := fun _ => False) hg
      refine ⟨_, rfl, .inr CH1, ?_⟩
      have AC1 := Chg.trans AP1 CH1
      simp only [Act.put, L0, L1, L2]
      refine Evo2.all [25] (by decide +kernel) rfl ?_
      intro wp2 gp2 iq hq
      simp only [List.mem_cons, List.mem_nil_iff, or_false] at hq
      have AP2 := Chg.trans AC1 (Chg.grow gp2)
      (try replace X4 := SlOf.later X4 gp2); (try replace Y4 := SlOf.later Y4 gp2)
      subst hq
      refine Evo2.enters 17 _ (by rfl) (by rfl) (by go_simp; exact ⟨rfl, rfl⟩) ?_
      refine (C2.out _ AP2).mono ?_
      rintro e wc2 ⟨ya, yc, rfl, Y4, hg⟩; (try replace X4 := SlOf.later X4 hg); have CH2 := Chg.grow (G := fun _ => False) hg
      refine ⟨_, rfl, .inr CH2, ?_⟩
      have AC2 := Chg.trans AP2 CH2
      simp only [Act.put, L0, L1, L2]
      refine Evo2.all [26] (by decide +kernel) rfl ?_
      intro wp3 gp3 iq hq
      simp only [List.mem_cons, List.mem_nil_iff, or_false] at hq
      have AP3 := Chg.trans AC2 (Chg.grow gp3)
      (try replace X4 := SlOf.later X4 gp3); (try replace Y4 := SlOf.later Y4 gp3)
      subst hq
      refine Evo2.enters 15 _ (by rfl) (by rfl) (by go_simp; exact ⟨rfl, rfl⟩) ?_
      refine (SM.out _ _ _ _ _ X4 Y4).mono ?_
      rintro e wc3 ⟨rfl, hg⟩; have CH3 := Chg.grow (G := fun _ => False) hg
      refine ⟨_, rfl, .inr CH3, ?_⟩
      have AC3 := Chg.trans AP3 CH3
      simp only [Act.put, L0, L1, L2]
      refine Evo2.va ok 27 _ _ ?_
      refine Evo2.done (by decide +kernel) (fun wz gz => ?_)
      have AZ := Chg.trans AC3 (Chg.grow gz)
      (try replace X4 := SlOf.later X4 gz); (try replace Y4 := SlOf.later Y4 gz)
      have G6 := Lib.hid (GR.out.trans (g0 AZ))
      clear AZ X4 Y4 gz SM C1 C2 FK KC hrl ht hn
      generalize wz = W6 at *
      go_wp2_with fail
      go_roundw
      case rel => exact ⟨k + 1, by omega, by go_num, G6⟩
      case measure => simp [intOf]; omega
    · have d0 : decide (k < 6) = false := decide_eq_false hlt
      have G5 := Lib.hid (G4.out.trans GR.out)
      clear hk hk1
      go_wp2_with fail
      refine (revs_any _).mono ?_
      rintro e wv ⟨rfl, hb, hg⟩
      have RB := Lib.hid (fun w' (g : Grow.G wv w') {k : Nat} (hk : k < 6) => rev_at (hb.grow g) hk)
      have GV := Lib.hid (G5.out.trans hg)
      clear hb hg
      generalize wr.heap.size = rb at *
      have FV := Lib.hid (fun (w' : World) (g : Grow.G wv w') => (⟨(FS.out w' (GV.out.trans g)).1, SlOf.later HR.out.sh (G0.out.trans (GV.out.trans g))⟩ : ShSl w' a0 l ∧ ShSl w' ra rl))
      have WA := Lib.hid (fun (x : ByteArray) (w' : World) (g : Grow.G wv w') => weight_any a0 l c0 x w' (by omega) (FV.out _ g).1)
      have WB := Lib.hid (fun (x : ByteArray) (w' : World) (g : Grow.G wv w') => (rweight_any a0 l c0 x w' (by omega) (FV.out _ g).1).mono (fun e w'' (h : _ ∧ _) => (⟨h.1, h.2 ▸ Grow.G.refl _⟩ : _ ∧ Grow.G w' w'')))
      have WC := Lib.hid (fun (hq : rl.length ≤ 20) (x : ByteArray) (w' : World) (g : Grow.G wv w') => weight_any ra rl rc x w' (by omega) (FV.out _ g).2)
      have WD := Lib.hid (fun (hq : rl.length ≤ 20) (x : ByteArray) (w' : World) (g : Grow.G wv w') => (rweight_any ra rl rc x w' (by omega) (FV.out _ g).2).mono (fun e w'' (h : _ ∧ _) => (⟨h.1, h.2 ▸ Grow.G.refl _⟩ : _ ∧ Grow.G w' w'')))
      clear PS PB
      go_wp2_with fail
      go_loopw [16] (fun i wr => ∃ (k : Nat), k ≤ 6 ∧ i = .int .i64 k ∧ Hid (Grow.G wv wr)) (fun i _ => 6 - (intOf i).toNat)
      case atStart => exact ⟨0, by omega, rfl, Lib.hid (Grow.G.refl _)⟩
      case round =>
        obtain ⟨k, hk, rfl, GR⟩ := hrel
        have hk1 : IntKind.i64.wrap ((k : Int) + 1) = (k : Int) + 1 := IntWalk.i64_in _ ⟨by omega, by omega⟩
        by_cases hlt : k < 6
        · have d0 : decide (k < 6) = true := decide_eq_true hlt
          have k1 : (0 : Int) ≤ (k : Int) := by omega
          have k2 : (k : Int) < 6 := by omega
          have KC := Lib.hid (fun (w' : World) (h : Chg (fun _ => False) wr w') => (⟨RB.out w' (GR.out.trans (g0 h)) hlt, trivial⟩ : w'.cell? ⟨rb, k, none⟩ = some (.string (revK k)) ∧ True))
          have WA1 := Lib.hid (fun (w' : World) (h : Chg (fun _ => False) wr w') => WA.out (revK k) w' (GR.out.trans (g0 h)))
          have WB1 := Lib.hid (fun (w' : World) (h : Chg (fun _ => False) wr w') => WB.out (revK k) w' (GR.out.trans (g0 h)))
          have NE1 := bne_same (wtL l (revK k))
          have NE2 := bne_same (wtL rl (revK k))
          by_cases hq : rl.length ≤ 20
          · have d1 : decide (rl.length ≤ 20) = true := decide_eq_true hq
            have d2 : decide ((rl.length : Int) ≤ 20) = true := decide_eq_true (by omega)
            have WC1 := Lib.hid (fun (w' : World) (h : Chg (fun _ => False) wr w') => WC.out hq (revK k) w' (GR.out.trans (g0 h)))
            have WD1 := Lib.hid (fun (w' : World) (h : Chg (fun _ => False) wr w') => WD.out hq (revK k) w' (GR.out.trans (g0 h)))
            go_wp2_with fail
            refine Evo2.start' (ℓ := none) (S := Chg (fun _ => False)) (E := Grow.G) (by kernel_rfl) ⟨Chg.pre _, by decide +kernel, (by intro c a d v w h; cases d <;> exact h), by decide +kernel⟩ (fun ok => ?_)
            refine Evo2.va ok 0 _ _ ?_
            refine Evo2.va ok 1 _ _ ?_
            refine Evo2.va ok 2 _ _ ?_
            refine Evo2.va ok 3 _ _ ?_
            first | (refine Evo2.vl ok 4 KC.out (Chg.refl (fun _ => False) _) _ _ ?_) | (refine Evo2.va ok 4 _ _ ?_)
            (refine Evo2.cal ok 5 ?_ 19 ?_ ?_ ?_ ?_; rotate_left 2; (focus (intro w'; go_simp <;> with_reducible rfl)); (focus (intro w' g'; with_reducible exact WA1.out w' (Chg.trans (Chg.refl (fun _ => False) _) g'))); simp only [Act.put, L0, L1, L2])
            refine Evo2.va ok 6 _ _ ?_
            refine Evo2.va ok 7 _ _ ?_
            refine Evo2.va ok 8 _ _ ?_
            refine Evo2.va ok 9 _ _ ?_
            first | (refine Evo2.vl ok 10 KC.out (Chg.refl (fun _ => False) _) _ _ ?_) | (refine Evo2.va ok 10 _ _ ?_)
            (refine Evo2.cal ok 11 ?_ 20 ?_ ?_ ?_ ?_; rotate_left 2; (focus (intro w'; go_simp <;> with_reducible rfl)); (focus (intro w' g'; with_reducible exact WB1.out w' (Chg.trans (Chg.refl (fun _ => False) _) g'))); simp only [Act.put, L0, L1, L2])
            refine Evo2.va ok 12 _ _ ?_
            refine Evo2.va ok 13 _ _ ?_
            first | (refine Evo2.va ok 14 _ _ ?_) | (refine Evo2.vi ok 14 _ ?_)
            first | (refine Evo2.va ok 15 _ _ ?_) | (refine Evo2.vi ok 15 _ ?_)
            first | (refine Evo2.va ok 16 _ _ ?_) | (refine Evo2.vi ok 16 _ ?_)
            first | (refine Evo2.va ok 17 _ _ ?_) | (refine Evo2.vi ok 17 _ ?_)
            first | (refine Evo2.va ok 18 _ _ ?_) | (refine Evo2.vi ok 18 _ ?_)
            first | (refine Evo2.va ok 19 _ _ ?_) | (refine Evo2.vi ok 19 _ ?_)
            first | (refine Evo2.va ok 20 _ _ ?_) | (refine Evo2.vi ok 20 _ ?_)
            first | (refine Evo2.va ok 21 _ _ ?_) | (refine Evo2.vi ok 21 _ ?_)
            first | (refine Evo2.vl ok 22 KC.out (Chg.refl (fun _ => False) _) _ _ ?_) | (refine Evo2.va ok 22 _ _ ?_) | (refine Evo2.vi ok 22 _ ?_)
            first | (refine Evo2.cal ok 23 ?_ 19 ?_ ?_ ?_ ?_; rotate_left 2; (focus (intro w'; go_simp <;> with_reducible rfl)); (focus (intro w' g'; with_reducible exact WC1.out w' (Chg.trans (Chg.refl (fun _ => False) _) g'))); simp only [Act.put, L0, L1, L2]) | (refine Evo2.vi ok 23 _ ?_)
            first | (refine Evo2.va ok 24 _ _ ?_) | (refine Evo2.vi ok 24 _ ?_)
            first | (refine Evo2.va ok 25 _ _ ?_) | (refine Evo2.vi ok 25 _ ?_)
            first | (refine Evo2.va ok 26 _ _ ?_) | (refine Evo2.vi ok 26 _ ?_)
            first | (refine Evo2.va ok 27 _ _ ?_) | (refine Evo2.vi ok 27 _ ?_)
            first | (refine Evo2.vl ok 28 KC.out (Chg.refl (fun _ => False) _) _ _ ?_) | (refine Evo2.va ok 28 _ _ ?_) | (refine Evo2.vi ok 28 _ ?_)
            first | (refine Evo2.cal ok 29 ?_ 20 ?_ ?_ ?_ ?_; rotate_left 2; (focus (intro w'; go_simp <;> with_reducible rfl)); (focus (intro w' g'; with_reducible exact WD1.out w' (Chg.trans (Chg.refl (fun _ => False) _) g'))); simp only [Act.put, L0, L1, L2]) | (refine Evo2.vi ok 29 _ ?_)
            first | (refine Evo2.va ok 30 _ _ ?_) | (refine Evo2.vi ok 30 _ ?_)
            first | (refine Evo2.va ok 31 _ _ ?_) | (refine Evo2.vi ok 31 _ ?_)
            refine Evo2.va ok 32 _ _ ?_
            refine Evo2.done (by decide +kernel) (fun wz gz => ?_)
            have AZ := Chg.trans (Chg.refl (fun _ => False) _) (Chg.grow gz)
            have G6 := Lib.hid (GR.out.trans (g0 AZ))
            clear AZ KC WA1 WB1 WC1 WD1
            generalize wz = W6 at *
            go_wp2_with fail
            go_roundw
            case rel => exact ⟨k + 1, by omega, by go_num, G6⟩
            case measure => simp [intOf]; omega
          · have d1 : decide (rl.length ≤ 20) = false := decide_eq_false hq
            have d2 : decide ((rl.length : Int) ≤ 20) = false := decide_eq_false (by omega)
            have WC1 := Lib.hid (fun (w' : World) (h : Chg (fun _ => False) wr w') => WA.out (revK k) w' (GR.out.trans (g0 h)))
            go_wp2_with fail
            refine Evo2.start' (ℓ := none) (S := Chg (fun _ => False)) (E := Grow.G) (by kernel_rfl) ⟨Chg.pre _, by decide +kernel, (by intro c a d v w h; cases d <;> exact h), by decide +kernel⟩ (fun ok => ?_)
            refine Evo2.va ok 0 _ _ ?_
            refine Evo2.va ok 1 _ _ ?_
            refine Evo2.va ok 2 _ _ ?_
            refine Evo2.va ok 3 _ _ ?_
            first | (refine Evo2.vl ok 4 KC.out (Chg.refl (fun _ => False) _) _ _ ?_) | (refine Evo2.va ok 4 _ _ ?_)
            (refine Evo2.cal ok 5 ?_ 19 ?_ ?_ ?_ ?_; rotate_left 2; (focus (intro w'; go_simp <;> with_reducible rfl)); (focus (intro w' g'; with_reducible exact WA1.out w' (Chg.trans (Chg.refl (fun _ => False) _) g'))); simp only [Act.put, L0, L1, L2])
            refine Evo2.va ok 6 _ _ ?_
            refine Evo2.va ok 7 _ _ ?_
            refine Evo2.va ok 8 _ _ ?_
            refine Evo2.va ok 9 _ _ ?_
            first | (refine Evo2.vl ok 10 KC.out (Chg.refl (fun _ => False) _) _ _ ?_) | (refine Evo2.va ok 10 _ _ ?_)
            (refine Evo2.cal ok 11 ?_ 20 ?_ ?_ ?_ ?_; rotate_left 2; (focus (intro w'; go_simp <;> with_reducible rfl)); (focus (intro w' g'; with_reducible exact WB1.out w' (Chg.trans (Chg.refl (fun _ => False) _) g'))); simp only [Act.put, L0, L1, L2])
            refine Evo2.va ok 12 _ _ ?_
            refine Evo2.va ok 13 _ _ ?_
            first | (refine Evo2.va ok 14 _ _ ?_) | (refine Evo2.vi ok 14 _ ?_)
            first | (refine Evo2.va ok 15 _ _ ?_) | (refine Evo2.vi ok 15 _ ?_)
            first | (refine Evo2.va ok 16 _ _ ?_) | (refine Evo2.vi ok 16 _ ?_)
            first | (refine Evo2.va ok 17 _ _ ?_) | (refine Evo2.vi ok 17 _ ?_)
            first | (refine Evo2.va ok 18 _ _ ?_) | (refine Evo2.vi ok 18 _ ?_)
            first | (refine Evo2.va ok 19 _ _ ?_) | (refine Evo2.vi ok 19 _ ?_)
            first | (refine Evo2.va ok 20 _ _ ?_) | (refine Evo2.vi ok 20 _ ?_)
            first | (refine Evo2.va ok 21 _ _ ?_) | (refine Evo2.vi ok 21 _ ?_)
            first | (refine Evo2.vl ok 22 KC.out (Chg.refl (fun _ => False) _) _ _ ?_) | (refine Evo2.va ok 22 _ _ ?_) | (refine Evo2.vi ok 22 _ ?_)
            first | (refine Evo2.cal ok 23 ?_ 19 ?_ ?_ ?_ ?_; rotate_left 2; (focus (intro w'; go_simp <;> with_reducible rfl)); (focus (intro w' g'; with_reducible exact WC1.out w' (Chg.trans (Chg.refl (fun _ => False) _) g'))); simp only [Act.put, L0, L1, L2]) | (refine Evo2.vi ok 23 _ ?_)
            first | (refine Evo2.va ok 24 _ _ ?_) | (refine Evo2.vi ok 24 _ ?_)
            first | (refine Evo2.va ok 25 _ _ ?_) | (refine Evo2.vi ok 25 _ ?_)
            first | (refine Evo2.va ok 26 _ _ ?_) | (refine Evo2.vi ok 26 _ ?_)
            first | (refine Evo2.va ok 27 _ _ ?_) | (refine Evo2.vi ok 27 _ ?_)
            first | (refine Evo2.vl ok 28 KC.out (Chg.refl (fun _ => False) _) _ _ ?_) | (refine Evo2.va ok 28 _ _ ?_) | (refine Evo2.vi ok 28 _ ?_)
            first | (refine Evo2.cal ok 29 ?_ 20 ?_ ?_ ?_ ?_; rotate_left 2; (focus (intro w'; go_simp <;> with_reducible rfl)); (focus (intro w' g'; with_reducible exact WC1.out w' (Chg.trans (Chg.refl (fun _ => False) _) g'))); simp only [Act.put, L0, L1, L2]) | (refine Evo2.vi ok 29 _ ?_)
            first | (refine Evo2.va ok 30 _ _ ?_) | (refine Evo2.vi ok 30 _ ?_)
            first | (refine Evo2.va ok 31 _ _ ?_) | (refine Evo2.vi ok 31 _ ?_)
            refine Evo2.va ok 32 _ _ ?_
            refine Evo2.done (by decide +kernel) (fun wz gz => ?_)
            have AZ := Chg.trans (Chg.refl (fun _ => False) _) (Chg.grow gz)
            have G6 := Lib.hid (GR.out.trans (g0 AZ))
            clear AZ KC WA1 WB1 WC1
            generalize wz = W6 at *
            go_wp2_with fail
            go_roundw
            case rel => exact ⟨k + 1, by omega, by go_num, G6⟩
            case measure => simp [intOf]; omega
        · have d0 : decide (k < 6) = false := decide_eq_false hlt
          have WZ := Lib.hid (WA.out ⟨#[110, 111, 110, 101, 45, 49]⟩ _ GR.out)
          rw [NN.out] at WZ
          have GZ := Lib.hid ((G0.out.trans GV.out).trans GR.out)
          go_wp2_with fail
          refine WZ.out.mono ?_
          rintro e w9 ⟨rfl, g9⟩
          go_wp2_with fail
          go_ret
          exact ⟨by first | rfl | (simp; done), GZ.out.trans g9⟩
end Go.Proofs.Ytbfoponlofkocaa

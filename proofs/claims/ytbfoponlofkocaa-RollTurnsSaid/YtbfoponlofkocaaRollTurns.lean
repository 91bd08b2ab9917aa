
/- RollTurns: gone on to another one from where it is, it is sound, and comes there. -/
import Derived.Test.YtbfoponlofkocaaZ53
import Derived.Test.YtbfoponlofkocaaZ38
namespace Go.Proofs.Ytbfoponlofkocaa
set_option maxRecDepth 100000
set_option linter.unusedVariables false
set_option linter.unusedSimpArgs false
set_option linter.unnecessarySimpa false
open Go.RowKit Go.Args

set_option maxHeartbeats 8000000 in
theorem walkRollTurns (w : World) (v0 : Value) (zs0 : List Int) (hz0 : IntSlice w v0 zs0) (v1 : Value) (zs1 : List Int) (hz1 : IntSlice w v1 zs1) (v2 : Value) (zs2 : List Int) (hz2 : IntSlice w v2 zs2) (a : Int) (ha : wf64 a) (b : Int) (hb : wf64 b) :
    Calls Try.prog 10 #[v0, v1, v2, .int .i64 a, .int .i64 b] w fun e w' => e = .returned (.bool true) ∧ Below w.heap.size w w' := by
  have M0 := Lib.hid (fun w' (g : Grow.G w w') => sharesAt v0 zs0 w' (hz0.below g))
  have M1 := Lib.hid (fun w' (g : Grow.G w w') => sharesAt v1 zs1 w' (hz1.below g))
  have M2 := Lib.hid (fun w' (g : Grow.G w w') => sharesAt v2 zs2 w' (hz2.below g))
  have LN0 := mkS_len zs0
  have S0 := Lib.hid (mk_sd zs0)
  have KR0 := Lib.hid (fun s hs => mkS_rev (zs := zs0) (s := s) hs)
  have LN1 := mkS_len zs1
  have S1 := Lib.hid (mk_sd zs1)
  have KR1 := Lib.hid (fun s hs => mkS_rev (zs := zs1) (s := s) hs)
  have LN2 := mkS_len zs2
  have S2 := Lib.hid (mk_sd zs2)
  have KR2 := Lib.hid (fun s hs => mkS_rev (zs := zs2) (s := s) hs)
  clear hz0 hz1 hz2
  generalize mkS zs0 = l at *
  generalize mkS zs1 = m at *
  generalize mkS zs2 = p at *
  have WN := Lib.hid (fun w => within6w_any b 60 w (by omega) (by omega) hb.1 hb.2)
  have RN := withinI_range b 60 (by omega)
  generalize hn0 : withinI b 60 = n0 at *
  clear hn0
  have hwn : IntKind.i64.wrap (1 + n0) = 1 + n0 := IntWalk.i64_in _ ⟨by omega, by omega⟩
  have hwt : IntKind.i64.wrap (1 + n0 + 1) = 1 + n0 + 1 := IntWalk.i64_in _ ⟨by omega, by omega⟩
  have WT := Lib.hid (fun w => within6w_any a (1 + n0 + 1) w (by omega) (by omega) ha.1 ha.2)
  have RT := withinI_range a (1 + n0 + 1) (by omega)
  generalize withinI a (1 + n0 + 1) = t at *
  have RS := roll_sd (t := t) (n := 1 + n0) S0.out S1.out (by have := namesL_len l m; omega)
  have HR := roll_len l m t (1 + n0)
  have R2 := Lib.hid (fun (s : Int) => roll_sd (t := s) (n := 1 + n0) RS S2.out (by have := namesL_len (rollL l m t (1 + n0)) p; omega))
  have RS := Lib.hid RS
  have hlp : p.length ≤ 500 := S2.out.len
  clear ha hb
  go_enter Try.func10, Try.ntmps10
  go_wp2_with fail
  refine (known6_any w).mono ?_
  rintro e w0 ⟨rfl, g0⟩
  go_wp2_with fail
  refine (M0.out _ g0).mono ?_
  rintro e w1 ⟨a0, c0, rfl, A0, q0⟩
  have g1 := g0.trans q0
  go_wp2_with fail
  refine (M1.out _ g1).mono ?_
  rintro e w2 ⟨a1, c1, rfl, A1, q1⟩
  have A0 := SlOf.later A0 q1
  have g2 := g1.trans q1
  go_wp2_with fail
  refine (M2.out _ g2).mono ?_
  rintro e w3 ⟨a2, c2, rfl, A2, q2⟩
  have A0 := SlOf.later A0 q2
  have A1 := SlOf.later A1 q2
  have g3 := g2.trans q2
  have G0 := Lib.hid g3
  clear q0 M0 q1 M1 q2 M2 g0 g1 g2 g3
  generalize w3 = W at *
  have FS := Lib.hid (fun (w' : World) (g : Grow.G W w') => (⟨SlOf.later A0 g, SlOf.later A1 g, SlOf.later A2 g, trivial⟩ : ShSl w' a0 l ∧ ShSl w' a1 m ∧ ShSl w' a2 p ∧ True))
  clear A0 A1 A2
  have C1 := Lib.hid (fun (w' : World) (g : Grow.G W w') => rollAt c0 c1 t (1 + n0) w' S0.out S1.out rfl (FS.out _ g).1 (FS.out _ g).2.1 (by omega) (by omega))
  generalize rollL l m t (1 + n0) = r at *
  go_wp2_with fail
  refine (WN.out _).mono ?_
  rintro e wx ⟨rfl, rfl⟩
  go_wp2_with fail
  refine (WT.out _).mono ?_
  rintro e wx ⟨rfl, rfl⟩
  go_wp2_with fail
  refine (C1.out _ (Grow.G.refl _)).mono ?_
  rintro e w4 ⟨xa, xc, rfl, X4, g4⟩
  have F4 := Lib.hid (fun (w' : World) (g : Grow.G w4 w') => (⟨SlOf.later X4 g, (FS.out _ (g4.trans g)).2.2.1⟩ : ShSl w' xa r ∧ ShSl w' a2 p))
  have G4 := Lib.hid (G0.out.trans g4)
  have SD := Lib.hid (soundAt xc w4 RS.out X4)
  have C2 := Lib.hid (fun (s : Int) (w' : World) (g : Grow.G w4 w') (hs : -1099511627776 ≤ s ∧ s ≤ 1099511627776) => rollAt xc c2 s (1 + n0) w' RS.out S2.out rfl (F4.out _ g).1 (F4.out _ g).2 hs (by omega))
  have E1 := Lib.hid (fun (w' : World) (g : Grow.G w4 w') => rollAt xc c2 0 (1 + n0) w' RS.out S2.out (roll_from (by omega) (by omega)) (F4.out _ g).1 (F4.out _ g).2 (by omega) (by omega))
  have E2 := Lib.hid (fun (w' : World) (g : Grow.G w4 w') => rollAt xc c2 (1 + n0) (1 + n0) w' RS.out S2.out (roll_to (by omega)) (F4.out _ g).1 (F4.out _ g).2 (by omega) (by omega))
  clear X4 g4 C1
  go_wp2_with fail
  refine SD.out.mono ?_
  rintro e w5 ⟨rfl, g5⟩
  have G5 := Lib.hid g5
  clear g5 SD
  go_wp2_with fail
  go_loopw [16] (fun i wr => ∃ (k : Nat), (k : Int) ≤ 2 + n0 ∧ i = .int .i64 k ∧ Hid (Grow.G w4 wr)) (fun i _ => 70 - (intOf i).toNat)
  case atStart => exact ⟨0, by omega, rfl, G5⟩
  case round =>
    obtain ⟨k, hk, rfl, GR⟩ := hrel
    have hk1 : IntKind.i64.wrap ((k : Int) + 1) = (k : Int) + 1 := IntWalk.i64_in _ ⟨by omega, by omega⟩
    by_cases hlt : (k : Int) ≤ 1 + n0
    · have d0 : decide ((k : Int) ≤ 1 + n0) = true := decide_eq_true hlt
      go_wp2_with fail
      refine (C2.out k _ GR.out (by omega)).mono ?_
      rintro e w6 ⟨ya, yc, rfl, Y6, g6⟩
      have SD := Lib.hid (soundAt yc w6 (R2.out k) Y6)
      clear Y6
      go_wp2_with fail
      refine SD.out.mono ?_
      rintro e w7 ⟨rfl, g7⟩
      have G7 := Lib.hid ((GR.out.trans g6).trans g7)
      clear g6 g7 SD
      go_wp2_with fail
      go_roundw
      case rel => exact ⟨k + 1, by omega, by go_num, G7⟩
      case measure => simp [intOf]; omega
    · have d0 : decide ((k : Int) ≤ 1 + n0) = false := decide_eq_false hlt
      go_wp2_with fail
      refine (E1.out _ GR.out).mono ?_
      rintro e w6 ⟨ya, yc, rfl, Y6, g6⟩
      have g46 := GR.out.trans g6
      have SM := Lib.hid (sameAt (l := r) yc xc w6 (by have := RS.out.len; omega) Y6 (F4.out _ g46).1)
      clear Y6
      go_wp2_with fail
      refine SM.out.mono ?_
      rintro e w7 ⟨rfl, g7⟩
      have g47 := g46.trans g7
      go_wp2_with fail
      refine (E2.out _ g47).mono ?_
      rintro e w8 ⟨za, zc, rfl, Z8, g8⟩
      have g48 := g47.trans g8
      have SM2 := Lib.hid (sameAt (l := p) zc c2 w8 (by omega) Z8 (F4.out _ g48).2)
      clear Z8
      go_wp2_with fail
      refine SM2.out.mono ?_
      rintro e w9 ⟨rfl, g9⟩
      have G9 := Lib.hid (G4.out.trans (g48.trans g9))
      clear g6 g46 g7 g47 g8 g48 g9 SM SM2
      go_wp2_with fail
      go_ret
      exact ⟨rfl, G9.out⟩
end Go.Proofs.Ytbfoponlofkocaa

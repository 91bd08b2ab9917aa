
/- RollFiner: at one part of the time it is the same, however finely that is told. -/
import Derived.Test.YtbfoponlofkocaaZ53
import Derived.Test.YtbfoponlofkocaaZ38
namespace Go.Proofs.Ytbfoponlofkocaa
set_option maxRecDepth 100000
set_option linter.unusedVariables false
set_option linter.unusedSimpArgs false
set_option linter.unnecessarySimpa false
open Go.RowKit Go.Args

set_option maxHeartbeats 8000000 in
theorem walkRollFiner (w : World) (v0 : Value) (zs0 : List Int) (hz0 : IntSlice w v0 zs0) (v1 : Value) (zs1 : List Int) (hz1 : IntSlice w v1 zs1) (a : Int) (ha : wf64 a) (b : Int) (hb : wf64 b) (d : Int) (hd : wf64 d) :
    Calls Try.prog 11 #[v0, v1, .int .i64 a, .int .i64 b, .int .i64 d] w fun e w' => e = .returned (.bool true) ∧ Below w.heap.size w w' := by
  have M0 := Lib.hid (fun w' (g : Grow.G w w') => sharesAt v0 zs0 w' (hz0.below g))
  have M1 := Lib.hid (fun w' (g : Grow.G w w') => sharesAt v1 zs1 w' (hz1.below g))
  have LN0 := mkS_len zs0
  have S0 := Lib.hid (mk_sd zs0)
  have KR0 := Lib.hid (fun s hs => mkS_rev (zs := zs0) (s := s) hs)
  have LN1 := mkS_len zs1
  have S1 := Lib.hid (mk_sd zs1)
  have KR1 := Lib.hid (fun s hs => mkS_rev (zs := zs1) (s := s) hs)
  clear hz0 hz1
  generalize mkS zs0 = l at *
  generalize mkS zs1 = m at *
  have WN := Lib.hid (fun w => within6w_any b 60 w (by omega) (by omega) hb.1 hb.2)
  have RN := withinI_range b 60 (by omega)
  generalize hn0 : withinI b 60 = n0 at *
  clear hn0
  have hwn : IntKind.i64.wrap (1 + n0) = 1 + n0 := IntWalk.i64_in _ ⟨by omega, by omega⟩
  have hwt : IntKind.i64.wrap (1 + n0 + 2) = 1 + n0 + 2 := IntWalk.i64_in _ ⟨by omega, by omega⟩
  have WT := Lib.hid (fun w => within6w_any a (1 + n0 + 2) w (by omega) (by omega) ha.1 ha.2)
  have RT := withinI_range a (1 + n0 + 2) (by omega)
  generalize withinI a (1 + n0 + 2) = t at *
  have WK := Lib.hid (fun w => within6w_any d 100 w (by omega) (by omega) hd.1 hd.2)
  have RK := withinI_range d 100 (by omega)
  generalize withinI d 100 = k0 at *
  have hwk : IntKind.i64.wrap (1 + k0) = 1 + k0 := IntWalk.i64_in _ ⟨by omega, by omega⟩
  have hm1 : 0 ≤ t * (1 + k0) := Int.mul_nonneg (by omega) (by omega)
  have hm2 : t * (1 + k0) ≤ 100 * 200 := Int.mul_le_mul (by omega) (by omega) (by omega) (by omega)
  have hm3 : 0 ≤ (1 + n0) * (1 + k0) := Int.mul_nonneg (by omega) (by omega)
  have hm4 : (1 + n0) * (1 + k0) ≤ 100 * 200 := Int.mul_le_mul (by omega) (by omega) (by omega) (by omega)
  have hwm1 : IntKind.i64.wrap (t * (1 + k0)) = t * (1 + k0) := IntWalk.i64_in _ ⟨by omega, by omega⟩
  have hwm2 : IntKind.i64.wrap ((1 + n0) * (1 + k0)) = (1 + n0) * (1 + k0) := IntWalk.i64_in _ ⟨by omega, by omega⟩
  have RF := Lib.hid (roll_finer (a := l) (b := m) (t := t) (n := 1 + n0) (k := 1 + k0) (by omega) (by omega))
  have RS := roll_sd (t := t) (n := 1 + n0) S0.out S1.out (by have := namesL_len l m; omega)
  have HL := RS.len
  clear RS ha hb hd
  go_enter Try.func11, Try.ntmps11
  go_wp2_with fail
  refine (known6_any w).mono ?_
  rintro e w0 ⟨rfl, g0⟩
  go_wp2_with fail
  refine (M0.out _ g0).mono ?_
  rintro e w1 ⟨a0, c0, rfl, A0, q0⟩
  have g1 := g0.trans q0
  go_wp2_with fail
  refine (M1.out _ g1).mono ?_
  rintro e w2 ⟨a1, c1, rfl, A1, q1⟩
  have A0 := SlOf.later A0 q1
  have g2 := g1.trans q1
  have G0 := Lib.hid g2
  clear q0 M0 q1 M1 g0 g1 g2
  generalize w2 = W at *
  have FS := Lib.hid (fun (w' : World) (g : Grow.G W w') => (⟨SlOf.later A0 g, SlOf.later A1 g, trivial⟩ : ShSl w' a0 l ∧ ShSl w' a1 m ∧ True))
  clear A0 A1
  have C1 := Lib.hid (fun (w' : World) (g : Grow.G W w') => rollAt c0 c1 t (1 + n0) w' S0.out S1.out rfl (FS.out _ g).1 (FS.out _ g).2.1 (by omega) (by omega))
  have C2 := Lib.hid (fun (w' : World) (g : Grow.G W w') => rollAt c0 c1 (t * (1 + k0)) ((1 + n0) * (1 + k0)) w' S0.out S1.out RF.out (FS.out _ g).1 (FS.out _ g).2.1 (by omega) (by omega))
  generalize rollL l m t (1 + n0) = r at *
  go_wp2_with fail
  refine (WN.out _).mono ?_
  rintro e wx ⟨rfl, rfl⟩
  go_wp2_with fail
  refine (WT.out _).mono ?_
  rintro e wx ⟨rfl, rfl⟩
  go_wp2_with fail
  refine (WK.out _).mono ?_
  rintro e wx ⟨rfl, rfl⟩
  go_wp2_with fail
  refine (C1.out _ (Grow.G.refl _)).mono ?_
  rintro e w4 ⟨xa, xc, rfl, X4, g4⟩
  go_wp2_with fail
  refine (C2.out _ g4).mono ?_
  rintro e w5 ⟨ya, yc, rfl, Y5, g5⟩
  have SM := Lib.hid (sameAt (l := r) xc yc w5 (by omega) (SlOf.later X4 g5) Y5)
  have G5 := Lib.hid ((G0.out.trans g4).trans g5)
  clear X4 Y5 g4 g5 C1 C2
  go_wp2_with fail
  refine SM.out.mono ?_
  rintro e w6 ⟨rfl, g6⟩
  go_wp2_with fail
  go_ret
  exact ⟨rfl, G5.out.trans g6⟩
end Go.Proofs.Ytbfoponlofkocaa

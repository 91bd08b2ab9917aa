
/- RollEnds: it begins where it is from, is where it goes to from the end on; without a time to take, at once; to the same it stays. -/
import Derived.Test.YtbfoponlofkocaaZ53
namespace Go.Proofs.Ytbfoponlofkocaa
set_option maxRecDepth 100000
set_option linter.unusedVariables false
set_option linter.unusedSimpArgs false
set_option linter.unnecessarySimpa false
open Go.RowKit Go.Args

set_option maxHeartbeats 8000000 in
theorem walkRollEnds (w : World) (v : Value) (zs : List Int) (hz : IntSlice w v zs) (v2 : Value) (ms : List Int) (hm : IntSlice w v2 ms) (a : Int) (ha : wf64 a) (b : Int) (hb : wf64 b) :
    Calls Try.prog 5 #[v, v2, .int .i64 a, .int .i64 b] w fun e w' => e = .returned (.bool true) ∧ Below w.heap.size w w' := by
  have M1 := Lib.hid (fun w' (g : Grow.G w w') => sharesAt v zs w' (hz.below g))
  have M2 := Lib.hid (fun w' (g : Grow.G w w') => sharesAt v2 ms w' (hm.below g))
  have W1 := Lib.hid (fun w => within6w_any a 60 w (by omega) (by omega) ha.1 ha.2)
  have R1 := withinI_range a 60 (by omega)
  have W2 := Lib.hid (fun w => within6w_any b 1000 w (by omega) (by omega) hb.1 hb.2)
  have R2 := withinI_range b 1000 (by omega)
  have L1 := mkS_len zs
  have L2 := mkS_len ms
  have S1 := Lib.hid (mk_sd zs)
  have S2 := Lib.hid (mk_sd ms)
  have NL := Lib.hid (show (namesL (mkS zs) (mkS zs)).length ≤ 500 from by have := namesL_len (mkS zs) (mkS zs); omega)
  clear ha hb hz hm
  generalize mkS zs = l at *
  generalize mkS ms = m at *
  generalize hn0 : withinI a 60 = n0 at *
  generalize hk0 : withinI b 1000 = k at *
  clear hn0 hk0
  have hw1 : IntKind.i64.wrap (1 + n0) = 1 + n0 := IntWalk.i64_in _ ⟨by omega, by omega⟩
  have hw2 : IntKind.i64.wrap (0 - k) = 0 - k := IntWalk.i64_in _ ⟨by omega, by omega⟩
  have hw2' : IntKind.i64.wrap (-k) = -k := IntWalk.i64_in _ ⟨by omega, by omega⟩
  have hw3 : IntKind.i64.wrap (1 + n0 + k) = 1 + n0 + k := IntWalk.i64_in _ ⟨by omega, by omega⟩
  go_enter Try.func5, Try.ntmps5
  go_wp2_with fail
  refine (known6_any w).mono ?_
  rintro e w1 ⟨rfl, g1⟩
  go_wp2_with fail
  refine (M1.out _ g1).mono ?_
  rintro e w2 ⟨la, lc, rfl, A2, g2⟩
  have g2 := g1.trans g2
  go_wp2_with fail
  refine (M2.out _ g2).mono ?_
  rintro e w3 ⟨ma, mc, rfl, B3, g3⟩
  have A3 := SlOf.later A2 g3
  have G3 := Lib.hid (g2.trans g3)
  clear A2 g1 g2 g3 M1 M2
  go_wp2_with fail
  refine (W1.out _).mono ?_
  rintro e wx ⟨rfl, rfl⟩
  go_wp2_with fail
  refine (W2.out _).mono ?_
  rintro e wx ⟨rfl, rfl⟩
  have F := Lib.hid (fun (w' : World) (g : Grow.G w3 w') => (⟨SlOf.later A3 g, SlOf.later B3 g⟩ : ShSl w' la l ∧ ShSl w' ma m))
  have C1 := Lib.hid (fun (w' : World) (g : Grow.G w3 w') => rollAt lc mc 0 (1 + n0) w' S1.out S2.out (roll_from (by omega) (by omega)) (F.out _ g).1 (F.out _ g).2 (by omega) (by omega))
  have C2 := Lib.hid (fun (w' : World) (g : Grow.G w3 w') => rollAt lc mc (-k) (1 + n0) w' S1.out S2.out (roll_from (by omega) (by omega)) (F.out _ g).1 (F.out _ g).2 (by omega) (by omega))
  have C3 := Lib.hid (fun (w' : World) (g : Grow.G w3 w') => rollAt lc mc (1 + n0 + k) (1 + n0) w' S1.out S2.out (roll_to (by omega)) (F.out _ g).1 (F.out _ g).2 (by omega) (by omega))
  have C4 := Lib.hid (fun (w' : World) (g : Grow.G w3 w') => rollAt lc mc (-k) 0 w' S1.out S2.out (roll_to (by omega)) (F.out _ g).1 (F.out _ g).2 (by omega) (by omega))
  have C5 := Lib.hid (fun (w' : World) (g : Grow.G w3 w') => rollAt lc mc k (-k) w' S1.out S2.out (roll_to (by omega)) (F.out _ g).1 (F.out _ g).2 (by omega) (by omega))
  have C6 := Lib.hid (fun (w' : World) (g : Grow.G w3 w') => rollAt lc lc k (1 + n0) w' S1.out S1.out (roll_same S1.out NL.out) (F.out _ g).1 (F.out _ g).1 (by omega) (by omega))
  have SA := Lib.hid (fun (x : Option Addr) (c : Nat) (w' : World) (g : Grow.G w3 w') (h : ShSl w' x l) => sameAt (l := l) c lc w' (by omega) h (F.out _ g).1)
  have SB := Lib.hid (fun (x : Option Addr) (c : Nat) (w' : World) (g : Grow.G w3 w') (h : ShSl w' x m) => sameAt (l := m) c mc w' (by omega) h (F.out _ g).2)
  clear A3 B3 R2 L1 L2
  have GG := Grow.G.refl w3
  go_wp2_with fail
  refine (C1.out _ GG).mono ?_
  rintro e w4 ⟨xa, xc, rfl, X4, g4⟩
  have GG := GG.trans g4
  have XS := Lib.hid (SA.out xa xc _ GG X4)
  clear g4 X4
  go_wp2_with fail
  refine XS.out.mono ?_
  rintro e w5 ⟨rfl, g5⟩
  have GG := GG.trans g5
  clear g5 XS
  go_wp2_with fail
  refine (C2.out _ GG).mono ?_
  rintro e w4 ⟨xa, xc, rfl, X4, g4⟩
  have GG := GG.trans g4
  have XS := Lib.hid (SA.out xa xc _ GG X4)
  clear g4 X4
  go_wp2_with fail
  refine XS.out.mono ?_
  rintro e w5 ⟨rfl, g5⟩
  have GG := GG.trans g5
  clear g5 XS
  go_wp2_with fail
  refine (C3.out _ GG).mono ?_
  rintro e w4 ⟨xa, xc, rfl, X4, g4⟩
  have GG := GG.trans g4
  have XS := Lib.hid (SB.out xa xc _ GG X4)
  clear g4 X4
  go_wp2_with fail
  refine XS.out.mono ?_
  rintro e w5 ⟨rfl, g5⟩
  have GG := GG.trans g5
  clear g5 XS
  go_wp2_with fail
  refine (C4.out _ GG).mono ?_
  rintro e w4 ⟨xa, xc, rfl, X4, g4⟩
  have GG := GG.trans g4
  have XS := Lib.hid (SB.out xa xc _ GG X4)
  clear g4 X4
  go_wp2_with fail
  refine XS.out.mono ?_
  rintro e w5 ⟨rfl, g5⟩
  have GG := GG.trans g5
  clear g5 XS
  go_wp2_with fail
  refine (C5.out _ GG).mono ?_
  rintro e w4 ⟨xa, xc, rfl, X4, g4⟩
  have GG := GG.trans g4
  have XS := Lib.hid (SB.out xa xc _ GG X4)
  clear g4 X4
  go_wp2_with fail
  refine XS.out.mono ?_
  rintro e w5 ⟨rfl, g5⟩
  have GG := GG.trans g5
  clear g5 XS
  go_wp2_with fail
  refine (C6.out _ GG).mono ?_
  rintro e w4 ⟨xa, xc, rfl, X4, g4⟩
  have GG := GG.trans g4
  have XS := Lib.hid (SA.out xa xc _ GG X4)
  clear g4 X4
  go_wp2_with fail
  refine XS.out.mono ?_
  rintro e w5 ⟨rfl, g5⟩
  have GG := GG.trans g5
  clear g5 XS
  go_wp2_with fail
  go_ret
  exact ⟨rfl, G3.out.trans GG⟩
end Go.Proofs.Ytbfoponlofkocaa


/- The walk of StampFamily. -/
import Derived.Test.YtjcdmnogmpjkkaaDoorZ92D
import Derived.Test.YtjcdmnogmpjkkaaDoorZ92
namespace Go.Proofs.YtjcdmnogmpjkkaaDoor
set_option maxRecDepth 100000
set_option linter.unusedVariables false
set_option linter.unusedSimpArgs false
set_option linter.unnecessarySimpa false
open Go.RowKit

def w1C : Cfg := ⟨⟨#[119, 101, 98, 45, 49]⟩, 0, 2, 0, 1, 0⟩
theorem wbC_wf : wbC.wf := by unfold Cfg.wf wf64 wbC; decide
theorem w1C_wf : w1C.wf := by unfold Cfg.wf wf64 w1C; decide
set_option maxHeartbeats 16000000 in
theorem walkStampFamily (w : World) (a : Int) (ha : wf64 a) (b : Int) (hb : wf64 b) (ht : Tab w) :
    Calls Tryd.prog 8 #[.int .i64 a, .int .i64 b] w fun e w' => e = .returned (.bool true) ∧ Below w.heap.size w w' := by
  have KN := Lib.hid (known12_any w ht)
  have HT := Lib.hid ht
  have FP := Lib.hid (fun g l => (BkB.foot g l).sep Emp.foot)
  have FE := Lib.hid Emp.foot
  have WA := Lib.hid (fun w => within12_any a 99 w (by omega) (by omega) ha.1 ha.2)
  have WB := Lib.hid (fun w => within12_any b 99 w (by omega) (by omega) hb.1 hb.2)
  have ra := withinI_range a 99 (by omega)
  have rb := withinI_range b 99 (by omega)
  generalize withinI a 99 = a0 at *
  generalize withinI b 99 = b0 at *
  obtain ⟨x, hx⟩ : ∃ x, 1 + a0 = x := ⟨_, rfl⟩
  obtain ⟨y, hy⟩ : ∃ y, 1 + b0 = y := ⟨_, rfl⟩
  have hx1 : 1 ≤ x ∧ x ≤ 99 := by omega
  have hy1 : 1 ≤ y ∧ y ≤ 99 := by omega
  have wx1 : IntKind.i64.wrap (1 + a0) = x := by rw [hx]; exact IntWalk.i64_in _ ⟨by omega, by omega⟩
  have wy1 : IntKind.i64.wrap (1 + b0) = y := by rw [hy]; exact IntWalk.i64_in _ ⟨by omega, by omega⟩
  have px := web_rev (g := x) (by omega) (by omega)
  have py := web1_rev (g := y) (by omega) (by omega)
  have hne : webN ≠ web1N := by decide
  have e1 : putK [] wbC x = [newR wbC x] := putK_new (hasK_no.2 fun r h => by cases h)
  have n2 : hasK [newR wbC x] (revS web1N y) = false := hasK_no.2 fun r h e => by
    rw [List.mem_singleton] at h; subst h
    exact hne (revS_injK px py e).1
  have e2 : putK [newR wbC x] w1C y = [newR wbC x, newR w1C y] := putK_new n2
  have ok2 : BkOk [newR wbC x, newR w1C y] := by
    rw [← e2, ← e1]
    exact (BkOk.nil.put (c := wbC) wbC_wf px).put (c := w1C) w1C_wf py
  have m1 : MaxI webN (mineM webN) [newR wbC x, newR w1C y] x := by
    have q := (MaxI.nil webN (mineM webN)).put (c := wbC) BkOk.nil px
    rw [e1, show max 0 x = x by omega] at q
    have q2 := q.putO (c := w1C) (g := y) (fun e => hne e.symm)
    rwa [e2] at q2
  have m2 : MaxI web1N (mineM web1N) [newR wbC x, newR w1C y] y := by
    have q := (MaxI.nil web1N (mineM web1N)).putO (c := wbC) (g := x) hne
    rw [e1] at q
    have q2 := q.put (c := w1C) (e1 ▸ BkOk.nil.put (c := wbC) wbC_wf px) py
    rw [e2, show max 0 y = y by omega] at q2
    exact q2
  have l1 := m1.name ok2
  have l2 := m2.name ok2
  rw [if_neg (by omega)] at l1 l2
  have f2 : findK [newR wbC x, newR w1C y] (revS web1N y) = some (newR w1C y) := by
    rw [← e2, findK_put, n2]
    simp only [Bool.false_eq_true, if_false]
    exact if_pos rfl
  obtain ⟨sx, hsx⟩ : ∃ sx, revS webN x = sx := ⟨_, rfl⟩
  obtain ⟨sy, hsy⟩ : ∃ sy, revS web1N y = sy := ⟨_, rfl⟩
  have zy := revS_size web1N y
  have RX := Lib.hid (fun w => rrev_any webN x w (by decide))
  have RY := Lib.hid (fun w => rrev_any web1N y w (by decide))
  have E1 := Lib.hid (And.intro e1 (And.intro e2 (And.intro hsx hsy)))
  have g2 : getK [newR wbC x, newR w1C y] sy = newR w1C y := by unfold getK; rw [← hsy, f2]; rfl
  have i2 : hasK [newR wbC x, newR w1C y] sy = true := by unfold hasK; rw [← hsy, f2]; rfl
  have nr : newR w1C y = ⟨sy, y, w1C, false⟩ := by unfold newR; rw [← hsy]; rfl
  have HL := Lib.hid (show latM [newR wbC x, newR w1C y] webN = sx ∧ latM [newR wbC x, newR w1C y] web1N = sy from ⟨l1.trans hsx, l2.trans hsy⟩)
  have HG := Lib.hid (show getK [newR wbC x, newR w1C y] sy = ⟨sy, y, w1C, false⟩ ∧ hasK [newR wbC x, newR w1C y] sy = true from ⟨g2.trans nr, i2⟩)
  have HN := Lib.hid (show (allK [newR wbC x, newR w1C y]).length = 2 from allK_count ok2)
  rw [hsx] at RX
  rw [hsy] at RY zy
  clear ht ha hb hx hy ra rb px py hne e1 n2 e2 ok2 m1 m2 l1 l2 f2 hsx hsy g2 i2 nr
  go_enter Tryd.func8, Tryd.ntmps8
  go_wp2_with fail
  refine KN.out.mono ?_
  rintro e w3 ⟨rfl, hg⟩
  have H := Lib.hid ((Hold.nil w).grow Emp.foot hg)
  clear hg
  go_wp2_with fail
  refine (hold_bknew H.out FE.out).mono ?_
  rintro e w4 ⟨g, rfl, hh⟩
  replace H := Lib.hid hh
  clear hh
  go_wp2_with fail
  refine (WA.out _).mono ?_
  rintro e wx ⟨rfl, rfl⟩
  go_wp2_with fail
  refine (WB.out _).mono ?_
  rintro e wx ⟨rfl, rfl⟩
  clear WA WB
  go_wp2_with fail
  refine (hold_bkstamp (l' := [newR wbC x]) H.out FE.out (tabG HT.out H.out.below) wbC x (by decide +kernel) (by omega) (by decide) rfl rfl E1.out.1).mono ?_
  rintro e w5 ⟨rfl, hh⟩
  replace H := Lib.hid hh
  clear hh
  go_wp2_with fail
  refine (hold_bkstamp (l' := [newR wbC x, newR w1C y]) H.out FE.out (tabG HT.out H.out.below) w1C y (by decide +kernel) (by omega) (by show (1 : Nat) ≤ 900; decide) rfl rfl E1.out.2.1).mono ?_
  rintro e w6 ⟨rfl, hh⟩
  replace H := Lib.hid hh
  clear hh wx1 wy1
  have hl2 : ([newR wbC x, newR w1C y] : List Rv).length ≤ 1000 := by show (2 : Nat) ≤ 1000; decide
  generalize [newR wbC x, newR w1C y] = l at *
  clear E1
  go_wp2_with fail
  refine (hold_bklatest (mt := sx) H.out FE.out (tabG HT.out H.out.below) webN (by decide) hl2 HL.out.1 rfl).mono ?_
  rintro e w7 ⟨rfl, -, hh⟩
  replace H := Lib.hid hh
  clear hh
  go_wp2_with fail
  refine (hold_bklatest (mt := sy) H.out FE.out (tabG HT.out H.out.below) web1N (by decide) hl2 HL.out.2 rfl).mono ?_
  rintro e w8 ⟨rfl, -, hh⟩
  replace H := Lib.hid hh
  clear hh HL
  go_wp2_with fail
  refine (RY.out _).mono ?_
  rintro e w9 ⟨rfl, g9⟩
  replace H := Lib.hid (H.out.grow (FP.out _ _) g9)
  clear g9
  go_wp2_with fail
  refine (hold_bkget (bo := true) (r := ⟨sy, y, w1C, false⟩) H.out FE.out (tabG HT.out H.out.below) sy (by omega) hl2 HG.out.1 HG.out.2).mono ?_
  rintro e w10 ⟨rfl, -, hh⟩
  replace H := Lib.hid hh
  clear hh HG
  unfold Rv.cells w1C
  dsimp only
  go_wp2_with ((refine Hold.storeAll 0 (t := 46) (FP.out _ _) rfl rfl rfl rfl (n := 8) (by kernel_rfl) (Hold.alloc' H.out (FP.out _ _) _ _ rfl) rfl rfl rfl rfl ?_; intro W11 HMm CW11))
  simp only [K0, K1, L1, L2, K2, K3, K4, K5, K6, K7, Nat.reduceAdd, Nat.reduceSub] at HMm
  replace H := Lib.hid HMm
  clear HMm
  refine Stay.go ?_
  generalize w10.heap.size = rb at *
  go_wp2_with fail
  refine (RX.out _).mono ?_
  rintro e w12 ⟨rfl, g9⟩
  replace H := Lib.hid (H.out.grow (FP.out _ _) g9)
  clear g9
  go_wp2_with fail
  refine (RY.out _).mono ?_
  rintro e w13 ⟨rfl, g9⟩
  replace H := Lib.hid (H.out.grow (FP.out _ _) g9)
  clear g9
  have B := H.out.mem.blk (i := 0) rfl
  have c2 := (B.cell 2).trans (show _ = some (.string ⟨#[119, 101, 98, 45, 49]⟩) from rfl)
  have c1 := (B.cell 1).trans (show _ = some (.int .i64 y) from rfl)
  have hrl := B.lt
  clear B
  go_wp2_with fail
  refine (hold_bkall H.out FE.out (tabG HT.out H.out.below) hl2).mono ?_
  rintro e w14 ⟨u, rfl, ho, -, hh⟩
  obtain ⟨ua, uc, rfl⟩ := own_shape ho
  replace H := Lib.hid hh
  clear hh ho c1 c2
  rw [HN.out]
  go_wp2_with fail
  go_ret
  exact ⟨rfl, H.out.below⟩
end Go.Proofs.YtjcdmnogmpjkkaaDoor

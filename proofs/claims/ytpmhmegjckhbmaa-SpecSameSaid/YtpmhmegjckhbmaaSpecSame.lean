/- The walk of SpecSame. -/
import Derived.Test.YtpmhmegjckhbmaaSameP
import Derived.Test.YtpmhmegjckhbmaaEvo
namespace Go.Proofs.Ytpmhmegjckhbmaa
set_option linter.unusedVariables false
set_option linter.unusedSimpArgs false
set_option linter.unnecessarySimpa false
open Go.RowKit

set_option maxRecDepth 100000 in
set_option maxHeartbeats 4000000 in
theorem walkSpecSame (w : World) (name : Int) (hn : wf64 name) (v : Value) (zs : List Int) (hz : IntSlice w v zs) (roll : Int) (hr : wf64 roll) (u : Value) (ys : List Int) (hy : IntSlice w u ys) (which : Int) (hw : wf64 which) (at0 : Int) (ha : wf64 at0) :
    Calls Try.prog 5 #[.int .i64 name, v, .int .i64 roll, u, .int .i64 which, .int .i64 at0] w fun e w' => e = .returned (.bool true) ∧ Below w.heap.size w w' := by
  have HZ := Lib.hid hz
  have HY := Lib.hid hy
  have GA := Lib.hid (fun w (h : IntSlice w v zs) => groute_own name v zs roll w hn h hr)
  have GB := Lib.hid (fun w (h : IntSlice w u ys) => groute_own name u ys roll w hn h hr)
  unfold RtOwn at GA GB
  have LN := gTs_len (rtCf name) zs
  have N6 := nT_range zs
  rw [← LN] at N6
  have LM := gTs_len (rtCf name) ys
  have M6 := nT_range ys
  rw [← LM] at M6
  clear LN LM hz hy
  have PCS := Lib.hid (gTs_pc name zs)
  have OKS := Lib.hid (gTs_ok name zs)
  have s0 := rtName_size name
  have s1 : (rtCf name).size ≤ 3 := (name3_ok (name.tdiv 3)).2
  have hq : rtCf name ≠ ⟨#[113]⟩ := by
    unfold rtCf
    rcases name3_at (name.tdiv 3) with e | e | e <;> rw [e] <;> decide
  have HQ := Lib.hid hq
  have r6 := withinI_range which 6 (by omega)
  have WH := Lib.hid (fun w => within2_any which 6 w (by omega) (by omega) hw.1 hw.2)
  have rl := withinI_range roll 61 (by omega)
  generalize gTs (rtCf name) zs = ts at *
  generalize gTs (rtCf name) ys = us at *
  generalize rtName name = nm at *
  generalize rtCf name = cf at *
  generalize withinI roll 61 = ro at *
  generalize withinI which 6 = q at *
  have rk := withinI_range at0 ts.length (by omega)
  have WI := Lib.hid (fun w => within2_any at0 ts.length w (by omega) (by omega) ha.1 ha.2)
  generalize withinI at0 ts.length = k0 at *
  obtain ⟨k, rfl⟩ := Int.eq_ofNat_of_zero_le rk.1
  have hk : k < ts.length := by omega
  have hk1 : (k : Int) < (ts.length : Int) := by omega
  have hk0 : (0 : Int) ≤ (k : Int) := by omega
  have hq6 : q = 0 ∨ q = 1 ∨ q = 2 ∨ q = 3 ∨ q = 4 ∨ q = 5 := by omega
  clear ha hq rk hw hn hr r6
  go_enter Try.func5, Try.ntmps5
  go_wp2_with fail
  refine (known2_any _).mono ?_
  rintro e wn1 ⟨rfl, hb1⟩
  have KB1 := Lib.hid (Evo.later hb1)
  have hxwn1c := (bcell hb1).1
  have hxwn1f := (bcell hb1).2.1
  have hxwn1z := (bcell hb1).2.2
  (try (have hlewn1_1 : w.heap.size ≤ wn1.heap.size := (by first | omega | (have hh := hxwn1z; (try simp at hh); omega))))
  (try (have hlwn1_1_0 : w.heap.size < wn1.heap.size := (by first | omega | (have hh := hxwn1z; (try simp at hh); omega))))
  (try (have hlwn1_1_1 : w.heap.size + 1 < wn1.heap.size := (by first | omega | (have hh := hxwn1z; (try simp at hh); omega))))
  (try (have hlwn1_1_2 : w.heap.size + 1 + 1 < wn1.heap.size := (by first | omega | (have hh := hxwn1z; (try simp at hh); omega))))
  go_wp2_with fail
  refine (GA.out _ (HZ.out.below hb1)).mono ?_
  rintro e wn2 ⟨bA, cA, rfl, OA, hb2⟩
  have OA := Lib.hid OA
  have KB2 := Lib.hid (Evo.later hb2)
  have hxwn2c := (bcell hb2).1
  have hxwn2f := (bcell hb2).2.1
  have hxwn2z := (bcell hb2).2.2
  (try (have hlewn2_2 : wn1.heap.size ≤ wn2.heap.size := (by first | omega | (have hh := hxwn2z; (try simp at hh); omega))))
  (try (have hlwn2_2_0 : wn1.heap.size < wn2.heap.size := (by first | omega | (have hh := hxwn2z; (try simp at hh); omega))))
  (try (have hlwn2_2_1 : wn1.heap.size + 1 < wn2.heap.size := (by first | omega | (have hh := hxwn2z; (try simp at hh); omega))))
  (try (have hlwn2_2_2 : wn1.heap.size + 1 + 1 < wn2.heap.size := (by first | omega | (have hh := hxwn2z; (try simp at hh); omega))))
  (try (refine Evo.laterK KB1.out wn2 ?_ (fun hxwn2c1 hxwn2f1 hxwn2z1 => ?_); (focus ((repeat (first | with_reducible exact Grow.G.refl _ | with_reducible exact Below.refl _ _ | with_reducible refine Grow.G.alloc ?_ _ | with_reducible refine Grow.G.trans ?_ hb2 | with_reducible refine Grow.G.trans ?_ hb1 | ((with_reducible refine Below.setCell ?_ ?_ _); rotate_left; (focus (first | omega | (simp; done) | (simp; omega)))))); all_goals fail))))
  (try (have hlewn2_1 : w.heap.size ≤ wn2.heap.size := (by first | omega | (have hh := hxwn2z1; (try simp at hh); omega))))
  (try (have hlwn2_1_0 : w.heap.size < wn2.heap.size := (by first | omega | (have hh := hxwn2z1; (try simp at hh); omega))))
  (try (have hlwn2_1_1 : w.heap.size + 1 < wn2.heap.size := (by first | omega | (have hh := hxwn2z1; (try simp at hh); omega))))
  (try (have hlwn2_1_2 : w.heap.size + 1 + 1 < wn2.heap.size := (by first | omega | (have hh := hxwn2z1; (try simp at hh); omega))))
  go_wp2_with fail
  refine (GB.out _ (HY.out.below (Grow.G.trans hb1 hb2))).mono ?_
  rintro e wn3 ⟨bB, cB, rfl, OB, hb3⟩
  have OB := Lib.hid OB
  have KB3 := Lib.hid (Evo.later hb3)
  have hxwn3c := (bcell hb3).1
  have hxwn3f := (bcell hb3).2.1
  have hxwn3z := (bcell hb3).2.2
  (try (have hlewn3_3 : wn2.heap.size ≤ wn3.heap.size := (by first | omega | (have hh := hxwn3z; (try simp at hh); omega))))
  (try (have hlwn3_3_0 : wn2.heap.size < wn3.heap.size := (by first | omega | (have hh := hxwn3z; (try simp at hh); omega))))
  (try (have hlwn3_3_1 : wn2.heap.size + 1 < wn3.heap.size := (by first | omega | (have hh := hxwn3z; (try simp at hh); omega))))
  (try (have hlwn3_3_2 : wn2.heap.size + 1 + 1 < wn3.heap.size := (by first | omega | (have hh := hxwn3z; (try simp at hh); omega))))
  (try (refine Evo.laterK KB1.out wn3 ?_ (fun hxwn3c1 hxwn3f1 hxwn3z1 => ?_); (focus ((repeat (first | with_reducible exact Grow.G.refl _ | with_reducible exact Below.refl _ _ | with_reducible refine Grow.G.alloc ?_ _ | with_reducible refine Grow.G.trans ?_ hb3 | with_reducible refine Grow.G.trans ?_ hb2 | with_reducible refine Grow.G.trans ?_ hb1 | ((with_reducible refine Below.setCell ?_ ?_ _); rotate_left; (focus (first | omega | (simp; done) | (simp; omega)))))); all_goals fail))))
  (try (have hlewn3_1 : w.heap.size ≤ wn3.heap.size := (by first | omega | (have hh := hxwn3z1; (try simp at hh); omega))))
  (try (have hlwn3_1_0 : w.heap.size < wn3.heap.size := (by first | omega | (have hh := hxwn3z1; (try simp at hh); omega))))
  (try (have hlwn3_1_1 : w.heap.size + 1 < wn3.heap.size := (by first | omega | (have hh := hxwn3z1; (try simp at hh); omega))))
  (try (have hlwn3_1_2 : w.heap.size + 1 + 1 < wn3.heap.size := (by first | omega | (have hh := hxwn3z1; (try simp at hh); omega))))
  (try (refine Evo.laterK KB2.out wn3 ?_ (fun hxwn3c2 hxwn3f2 hxwn3z2 => ?_); (focus ((repeat (first | with_reducible exact Grow.G.refl _ | with_reducible exact Below.refl _ _ | with_reducible refine Grow.G.alloc ?_ _ | with_reducible refine Grow.G.trans ?_ hb3 | with_reducible refine Grow.G.trans ?_ hb2 | with_reducible refine Grow.G.trans ?_ hb1 | ((with_reducible refine Below.setCell ?_ ?_ _); rotate_left; (focus (first | omega | (simp; done) | (simp; omega)))))); all_goals fail))))
  (try (have hlewn3_2 : wn1.heap.size ≤ wn3.heap.size := (by first | omega | (have hh := hxwn3z2; (try simp at hh); omega))))
  (try (have hlwn3_2_0 : wn1.heap.size < wn3.heap.size := (by first | omega | (have hh := hxwn3z2; (try simp at hh); omega))))
  (try (have hlwn3_2_1 : wn1.heap.size + 1 < wn3.heap.size := (by first | omega | (have hh := hxwn3z2; (try simp at hh); omega))))
  (try (have hlwn3_2_2 : wn1.heap.size + 1 + 1 < wn3.heap.size := (by first | omega | (have hh := hxwn3z2; (try simp at hh); omega))))
  go_wp2_with fail
  refine (GA.out _ (HZ.out.below (by (repeat (first | with_reducible exact Grow.G.refl _ | with_reducible exact Below.refl _ _ | with_reducible refine Grow.G.alloc ?_ _ | with_reducible refine Grow.G.trans ?_ hb4 | with_reducible refine Grow.G.trans ?_ hb3 | with_reducible refine Grow.G.trans ?_ hb2 | with_reducible refine Grow.G.trans ?_ hb1 | ((with_reducible refine Below.setCell ?_ ?_ _); rotate_left; (focus (first | omega | (simp; done) | (simp; omega)))) | with_reducible assumption | with_reducible refine Grow.G.trans ?_ (by with_reducible assumption)))))).mono ?_
  rintro e wn4 ⟨bC, cC, rfl, OC, hb4⟩
  have OC := Lib.hid OC
  have KB4 := Lib.hid (Evo.later hb4)
  have hxwn4c := (bcell hb4).1
  have hxwn4f := (bcell hb4).2.1
  have hxwn4z := (bcell hb4).2.2
  (try (have hlewn4_4 : wn3.heap.size ≤ wn4.heap.size := (by first | omega | (have hh := hxwn4z; (try simp at hh); omega))))
  (try (have hlwn4_4_0 : wn3.heap.size < wn4.heap.size := (by first | omega | (have hh := hxwn4z; (try simp at hh); omega))))
  (try (have hlwn4_4_1 : wn3.heap.size + 1 < wn4.heap.size := (by first | omega | (have hh := hxwn4z; (try simp at hh); omega))))
  (try (have hlwn4_4_2 : wn3.heap.size + 1 + 1 < wn4.heap.size := (by first | omega | (have hh := hxwn4z; (try simp at hh); omega))))
  (try (refine Evo.laterK KB1.out wn4 ?_ (fun hxwn4c1 hxwn4f1 hxwn4z1 => ?_); (focus ((repeat (first | with_reducible exact Grow.G.refl _ | with_reducible exact Below.refl _ _ | with_reducible refine Grow.G.alloc ?_ _ | with_reducible refine Grow.G.trans ?_ hb4 | with_reducible refine Grow.G.trans ?_ hb3 | with_reducible refine Grow.G.trans ?_ hb2 | with_reducible refine Grow.G.trans ?_ hb1 | ((with_reducible refine Below.setCell ?_ ?_ _); rotate_left; (focus (first | omega | (simp; done) | (simp; omega)))))); all_goals fail))))
  (try (have hlewn4_1 : w.heap.size ≤ wn4.heap.size := (by first | omega | (have hh := hxwn4z1; (try simp at hh); omega))))
  (try (have hlwn4_1_0 : w.heap.size < wn4.heap.size := (by first | omega | (have hh := hxwn4z1; (try simp at hh); omega))))
  (try (have hlwn4_1_1 : w.heap.size + 1 < wn4.heap.size := (by first | omega | (have hh := hxwn4z1; (try simp at hh); omega))))
  (try (have hlwn4_1_2 : w.heap.size + 1 + 1 < wn4.heap.size := (by first | omega | (have hh := hxwn4z1; (try simp at hh); omega))))
  (try (refine Evo.laterK KB2.out wn4 ?_ (fun hxwn4c2 hxwn4f2 hxwn4z2 => ?_); (focus ((repeat (first | with_reducible exact Grow.G.refl _ | with_reducible exact Below.refl _ _ | with_reducible refine Grow.G.alloc ?_ _ | with_reducible refine Grow.G.trans ?_ hb4 | with_reducible refine Grow.G.trans ?_ hb3 | with_reducible refine Grow.G.trans ?_ hb2 | with_reducible refine Grow.G.trans ?_ hb1 | ((with_reducible refine Below.setCell ?_ ?_ _); rotate_left; (focus (first | omega | (simp; done) | (simp; omega)))))); all_goals fail))))
  (try (have hlewn4_2 : wn1.heap.size ≤ wn4.heap.size := (by first | omega | (have hh := hxwn4z2; (try simp at hh); omega))))
  (try (have hlwn4_2_0 : wn1.heap.size < wn4.heap.size := (by first | omega | (have hh := hxwn4z2; (try simp at hh); omega))))
  (try (have hlwn4_2_1 : wn1.heap.size + 1 < wn4.heap.size := (by first | omega | (have hh := hxwn4z2; (try simp at hh); omega))))
  (try (have hlwn4_2_2 : wn1.heap.size + 1 + 1 < wn4.heap.size := (by first | omega | (have hh := hxwn4z2; (try simp at hh); omega))))
  (try (refine Evo.laterK KB3.out wn4 ?_ (fun hxwn4c3 hxwn4f3 hxwn4z3 => ?_); (focus ((repeat (first | with_reducible exact Grow.G.refl _ | with_reducible exact Below.refl _ _ | with_reducible refine Grow.G.alloc ?_ _ | with_reducible refine Grow.G.trans ?_ hb4 | with_reducible refine Grow.G.trans ?_ hb3 | with_reducible refine Grow.G.trans ?_ hb2 | with_reducible refine Grow.G.trans ?_ hb1 | ((with_reducible refine Below.setCell ?_ ?_ _); rotate_left; (focus (first | omega | (simp; done) | (simp; omega)))))); all_goals fail))))
  (try (have hlewn4_3 : wn2.heap.size ≤ wn4.heap.size := (by first | omega | (have hh := hxwn4z3; (try simp at hh); omega))))
  (try (have hlwn4_3_0 : wn2.heap.size < wn4.heap.size := (by first | omega | (have hh := hxwn4z3; (try simp at hh); omega))))
  (try (have hlwn4_3_1 : wn2.heap.size + 1 < wn4.heap.size := (by first | omega | (have hh := hxwn4z3; (try simp at hh); omega))))
  (try (have hlwn4_3_2 : wn2.heap.size + 1 + 1 < wn4.heap.size := (by first | omega | (have hh := hxwn4z3; (try simp at hh); omega))))
  go_wp2_with fail
  have TA := Lib.hid (own_tgts OA.out).2.1
  have TB := Lib.hid (own_tgts OB.out).2.1
  have TC := Lib.hid (own_tgts OC.out).2.1
  obtain ⟨x, hX⟩ : ∃ x, sameR nm cf ts ro nm cf us ro = x := ⟨_, rfl⟩
  have hxx : (x != x) = false := by simp
  have S1 := Lib.hid (fun w h h' => same_at nm cf (some ⟨bA, 0, none⟩) ts ts.length cA ro nm cf (some ⟨bB, 0, none⟩) us us.length cB ro w x rfl rfl (by omega) h h' hX)
  have S2 := Lib.hid (fun w h h' => rsame_at nm cf (some ⟨bA, 0, none⟩) ts ts.length cA ro nm cf (some ⟨bB, 0, none⟩) us us.length cB ro w x rfl rfl (by omega) h h' hX)
  have S3 := Lib.hid (fun w h h' => same_at nm cf (some ⟨bA, 0, none⟩) ts ts.length cA ro nm cf (some ⟨bC, 0, none⟩) ts ts.length cC ro w true rfl rfl (by omega) h h' (sameR_refl _ _ _ _))
  clear hX
  refine Evo.start' (ℓ := none) (T := Grow.G) (by kernel_rfl) ⟨Evo.preG, by decide +kernel, (by intro c a d v w h; cases d <;> exact h), by decide +kernel⟩ (fun ok => ?_)
  first | (refine Evo.value ok 0 ?_ (by rfl) (by decide +kernel) (by rfl) ?_ ?_; rotate_left; (intro w' hg; have hgc := (bcell hg).1; have hgf := (bcell hg).2.1; (try (have hlew_5 : wn4.heap.size ≤ w'.heap.size := (by first | omega | (have hh := (bcell hg).2.2; (try simp at hh); omega)))); (try (have hlw_5_0 : wn4.heap.size < w'.heap.size := (by first | omega | (have hh := (bcell hg).2.2; (try simp at hh); omega)))); (try (have hlw_5_1 : wn4.heap.size + 1 < w'.heap.size := (by first | omega | (have hh := (bcell hg).2.2; (try simp at hh); omega)))); (try (have hlw_5_2 : wn4.heap.size + 1 + 1 < w'.heap.size := (by first | omega | (have hh := (bcell hg).2.2; (try simp at hh); omega)))); (try (refine Evo.laterK KB1.out w' ?_ (fun hxwc1 hxwf1 hxwz1 => ?_); (focus ((repeat (first | with_reducible exact Grow.G.refl _ | with_reducible exact Below.refl _ _ | with_reducible refine Grow.G.alloc ?_ _ | with_reducible refine Grow.G.trans ?_ hb5 | with_reducible refine Grow.G.trans ?_ hb4 | with_reducible refine Grow.G.trans ?_ hb3 | with_reducible refine Grow.G.trans ?_ hb2 | with_reducible refine Grow.G.trans ?_ hb1 | ((with_reducible refine Below.setCell ?_ ?_ _); rotate_left; (focus (first | omega | (simp; done) | (simp; omega)))))); all_goals fail)))); (try (have hlew_1 : w.heap.size ≤ w'.heap.size := (by first | omega | (have hh := hxwz1; (try simp at hh); omega)))); (try (have hlw_1_0 : w.heap.size < w'.heap.size := (by first | omega | (have hh := hxwz1; (try simp at hh); omega)))); (try (have hlw_1_1 : w.heap.size + 1 < w'.heap.size := (by first | omega | (have hh := hxwz1; (try simp at hh); omega)))); (try (have hlw_1_2 : w.heap.size + 1 + 1 < w'.heap.size := (by first | omega | (have hh := hxwz1; (try simp at hh); omega)))); (try (refine Evo.laterK KB2.out w' ?_ (fun hxwc2 hxwf2 hxwz2 => ?_); (focus ((repeat (first | with_reducible exact Grow.G.refl _ | with_reducible exact Below.refl _ _ | with_reducible refine Grow.G.alloc ?_ _ | with_reducible refine Grow.G.trans ?_ hb5 | with_reducible refine Grow.G.trans ?_ hb4 | with_reducible refine Grow.G.trans ?_ hb3 | with_reducible refine Grow.G.trans ?_ hb2 | with_reducible refine Grow.G.trans ?_ hb1 | ((with_reducible refine Below.setCell ?_ ?_ _); rotate_left; (focus (first | omega | (simp; done) | (simp; omega)))))); all_goals fail)))); (try (have hlew_2 : wn1.heap.size ≤ w'.heap.size := (by first | omega | (have hh := hxwz2; (try simp at hh); omega)))); (try (have hlw_2_0 : wn1.heap.size < w'.heap.size := (by first | omega | (have hh := hxwz2; (try simp at hh); omega)))); (try (have hlw_2_1 : wn1.heap.size + 1 < w'.heap.size := (by first | omega | (have hh := hxwz2; (try simp at hh); omega)))); (try (have hlw_2_2 : wn1.heap.size + 1 + 1 < w'.heap.size := (by first | omega | (have hh := hxwz2; (try simp at hh); omega)))); (try (refine Evo.laterK KB3.out w' ?_ (fun hxwc3 hxwf3 hxwz3 => ?_); (focus ((repeat (first | with_reducible exact Grow.G.refl _ | with_reducible exact Below.refl _ _ | with_reducible refine Grow.G.alloc ?_ _ | with_reducible refine Grow.G.trans ?_ hb5 | with_reducible refine Grow.G.trans ?_ hb4 | with_reducible refine Grow.G.trans ?_ hb3 | with_reducible refine Grow.G.trans ?_ hb2 | with_reducible refine Grow.G.trans ?_ hb1 | ((with_reducible refine Below.setCell ?_ ?_ _); rotate_left; (focus (first | omega | (simp; done) | (simp; omega)))))); all_goals fail)))); (try (have hlew_3 : wn2.heap.size ≤ w'.heap.size := (by first | omega | (have hh := hxwz3; (try simp at hh); omega)))); (try (have hlw_3_0 : wn2.heap.size < w'.heap.size := (by first | omega | (have hh := hxwz3; (try simp at hh); omega)))); (try (have hlw_3_1 : wn2.heap.size + 1 < w'.heap.size := (by first | omega | (have hh := hxwz3; (try simp at hh); omega)))); (try (have hlw_3_2 : wn2.heap.size + 1 + 1 < w'.heap.size := (by first | omega | (have hh := hxwz3; (try simp at hh); omega)))); (try (refine Evo.laterK KB4.out w' ?_ (fun hxwc4 hxwf4 hxwz4 => ?_); (focus ((repeat (first | with_reducible exact Grow.G.refl _ | with_reducible exact Below.refl _ _ | with_reducible refine Grow.G.alloc ?_ _ | with_reducible refine Grow.G.trans ?_ hb5 | with_reducible refine Grow.G.trans ?_ hb4 | with_reducible refine Grow.G.trans ?_ hb3 | with_reducible refine Grow.G.trans ?_ hb2 | with_reducible refine Grow.G.trans ?_ hb1 | ((with_reducible refine Below.setCell ?_ ?_ _); rotate_left; (focus (first | omega | (simp; done) | (simp; omega)))))); all_goals fail)))); (try (have hlew_4 : wn3.heap.size ≤ w'.heap.size := (by first | omega | (have hh := hxwz4; (try simp at hh); omega)))); (try (have hlw_4_0 : wn3.heap.size < w'.heap.size := (by first | omega | (have hh := hxwz4; (try simp at hh); omega)))); (try (have hlw_4_1 : wn3.heap.size + 1 < w'.heap.size := (by first | omega | (have hh := hxwz4; (try simp at hh); omega)))); (try (have hlw_4_2 : wn3.heap.size + 1 + 1 < w'.heap.size := (by first | omega | (have hh := hxwz4; (try simp at hh); omega)))); go_simp <;> with_reducible rfl); simp only [Act.put, List.setIfInBounds_toArray, List.set_cons_zero, List.set_cons_succ]) | (refine Evo.value ok 0 ?_ (by rfl) (by decide +kernel) (by rfl) ?_ ?_; rotate_left; (intro w' hg; go_simp <;> with_reducible rfl); simp only [Act.put, List.setIfInBounds_toArray, List.set_cons_zero, List.set_cons_succ])
  first | (refine Evo.value ok 1 ?_ (by rfl) (by decide +kernel) (by rfl) ?_ ?_; rotate_left; (intro w' hg; have hgc := (bcell hg).1; have hgf := (bcell hg).2.1; (try (have hlew_5 : wn4.heap.size ≤ w'.heap.size := (by first | omega | (have hh := (bcell hg).2.2; (try simp at hh); omega)))); (try (have hlw_5_0 : wn4.heap.size < w'.heap.size := (by first | omega | (have hh := (bcell hg).2.2; (try simp at hh); omega)))); (try (have hlw_5_1 : wn4.heap.size + 1 < w'.heap.size := (by first | omega | (have hh := (bcell hg).2.2; (try simp at hh); omega)))); (try (have hlw_5_2 : wn4.heap.size + 1 + 1 < w'.heap.size := (by first | omega | (have hh := (bcell hg).2.2; (try simp at hh); omega)))); (try (refine Evo.laterK KB1.out w' ?_ (fun hxwc1 hxwf1 hxwz1 => ?_); (focus ((repeat (first | with_reducible exact Grow.G.refl _ | with_reducible exact Below.refl _ _ | with_reducible refine Grow.G.alloc ?_ _ | with_reducible refine Grow.G.trans ?_ hb5 | with_reducible refine Grow.G.trans ?_ hb4 | with_reducible refine Grow.G.trans ?_ hb3 | with_reducible refine Grow.G.trans ?_ hb2 | with_reducible refine Grow.G.trans ?_ hb1 | ((with_reducible refine Below.setCell ?_ ?_ _); rotate_left; (focus (first | omega | (simp; done) | (simp; omega)))))); all_goals fail)))); (try (have hlew_1 : w.heap.size ≤ w'.heap.size := (by first | omega | (have hh := hxwz1; (try simp at hh); omega)))); (try (have hlw_1_0 : w.heap.size < w'.heap.size := (by first | omega | (have hh := hxwz1; (try simp at hh); omega)))); (try (have hlw_1_1 : w.heap.size + 1 < w'.heap.size := (by first | omega | (have hh := hxwz1; (try simp at hh); omega)))); (try (have hlw_1_2 : w.heap.size + 1 + 1 < w'.heap.size := (by first | omega | (have hh := hxwz1; (try simp at hh); omega)))); (try (refine Evo.laterK KB2.out w' ?_ (fun hxwc2 hxwf2 hxwz2 => ?_); (focus ((repeat (first | with_reducible exact Grow.G.refl _ | with_reducible exact Below.refl _ _ | with_reducible refine Grow.G.alloc ?_ _ | with_reducible refine Grow.G.trans ?_ hb5 | with_reducible refine Grow.G.trans ?_ hb4 | with_reducible refine Grow.G.trans ?_ hb3 | with_reducible refine Grow.G.trans ?_ hb2 | with_reducible refine Grow.G.trans ?_ hb1 | ((with_reducible refine Below.setCell ?_ ?_ _); rotate_left; (focus (first | omega | (simp; done) | (simp; omega)))))); all_goals fail)))); (try (have hlew_2 : wn1.heap.size ≤ w'.heap.size := (by first | omega | (have hh := hxwz2; (try simp at hh); omega)))); (try (have hlw_2_0 : wn1.heap.size < w'.heap.size := (by first | omega | (have hh := hxwz2; (try simp at hh); omega)))); (try (have hlw_2_1 : wn1.heap.size + 1 < w'.heap.size := (by first | omega | (have hh := hxwz2; (try simp at hh); omega)))); (try (have hlw_2_2 : wn1.heap.size + 1 + 1 < w'.heap.size := (by first | omega | (have hh := hxwz2; (try simp at hh); omega)))); (try (refine Evo.laterK KB3.out w' ?_ (fun hxwc3 hxwf3 hxwz3 => ?_); (focus ((repeat (first | with_reducible exact Grow.G.refl _ | with_reducible exact Below.refl _ _ | with_reducible refine Grow.G.alloc ?_ _ | with_reducible refine Grow.G.trans ?_ hb5 | with_reducible refine Grow.G.trans ?_ hb4 | with_reducible refine Grow.G.trans ?_ hb3 | with_reducible refine Grow.G.trans ?_ hb2 | with_reducible refine Grow.G.trans ?_ hb1 | ((with_reducible refine Below.setCell ?_ ?_ _); rotate_left; (focus (first | omega | (simp; done) | (simp; omega)))))); all_goals fail)))); (try (have hlew_3 : wn2.heap.size ≤ w'.heap.size := (by first | omega | (have hh := hxwz3; (try simp at hh); omega)))); (try (have hlw_3_0 : wn2.heap.size < w'.heap.size := (by first | omega | (have hh := hxwz3; (try simp at hh); omega)))); (try (have hlw_3_1 : wn2.heap.size + 1 < w'.heap.size := (by first | omega | (have hh := hxwz3; (try simp at hh); omega)))); (try (have hlw_3_2 : wn2.heap.size + 1 + 1 < w'.heap.size := (by first | omega | (have hh := hxwz3; (try simp at hh); omega)))); (try (refine Evo.laterK KB4.out w' ?_ (fun hxwc4 hxwf4 hxwz4 => ?_); (focus ((repeat (first | with_reducible exact Grow.G.refl _ | with_reducible exact Below.refl _ _ | with_reducible refine Grow.G.alloc ?_ _ | with_reducible refine Grow.G.trans ?_ hb5 | with_reducible refine Grow.G.trans ?_ hb4 | with_reducible refine Grow.G.trans ?_ hb3 | with_reducible refine Grow.G.trans ?_ hb2 | with_reducible refine Grow.G.trans ?_ hb1 | ((with_reducible refine Below.setCell ?_ ?_ _); rotate_left; (focus (first | omega | (simp; done) | (simp; omega)))))); all_goals fail)))); (try (have hlew_4 : wn3.heap.size ≤ w'.heap.size := (by first | omega | (have hh := hxwz4; (try simp at hh); omega)))); (try (have hlw_4_0 : wn3.heap.size < w'.heap.size := (by first | omega | (have hh := hxwz4; (try simp at hh); omega)))); (try (have hlw_4_1 : wn3.heap.size + 1 < w'.heap.size := (by first | omega | (have hh := hxwz4; (try simp at hh); omega)))); (try (have hlw_4_2 : wn3.heap.size + 1 + 1 < w'.heap.size := (by first | omega | (have hh := hxwz4; (try simp at hh); omega)))); go_simp <;> with_reducible rfl); simp only [Act.put, List.setIfInBounds_toArray, List.set_cons_zero, List.set_cons_succ]) | (refine Evo.value ok 1 ?_ (by rfl) (by decide +kernel) (by rfl) ?_ ?_; rotate_left; (intro w' hg; go_simp <;> with_reducible rfl); simp only [Act.put, List.setIfInBounds_toArray, List.set_cons_zero, List.set_cons_succ])
  (refine Evo.call ok 2 ?_ 21 ?_ (by rfl) (by decide +kernel) (by rfl) ?_ ?_ ?_; rotate_left 2; (focus (intro w'; go_simp <;> with_reducible rfl)); (focus (intro w' g'; with_reducible exact S1.out w' (TA.out.later (Grow.G.trans (by (repeat (first | with_reducible exact Grow.G.refl _ | with_reducible exact Below.refl _ _ | with_reducible refine Grow.G.alloc ?_ _ | with_reducible refine Grow.G.trans ?_ hb4 | with_reducible refine Grow.G.trans ?_ hb3 | with_reducible refine Grow.G.trans ?_ hb2 | with_reducible refine Grow.G.trans ?_ hb1 | ((with_reducible refine Below.setCell ?_ ?_ _); rotate_left; (focus (first | omega | (simp; done) | (simp; omega)))) | with_reducible assumption | with_reducible refine Grow.G.trans ?_ (by with_reducible assumption)))) g')) (TB.out.later (Grow.G.trans (by (repeat (first | with_reducible exact Grow.G.refl _ | with_reducible exact Below.refl _ _ | with_reducible refine Grow.G.alloc ?_ _ | with_reducible refine Grow.G.trans ?_ hb4 | with_reducible refine Grow.G.trans ?_ hb3 | with_reducible refine Grow.G.trans ?_ hb2 | with_reducible refine Grow.G.trans ?_ hb1 | ((with_reducible refine Below.setCell ?_ ?_ _); rotate_left; (focus (first | omega | (simp; done) | (simp; omega)))) | with_reducible assumption | with_reducible refine Grow.G.trans ?_ (by with_reducible assumption)))) g')))); simp only [Act.put, List.setIfInBounds_toArray, List.set_cons_zero, List.set_cons_succ])
  first | (refine Evo.value ok 3 ?_ (by rfl) (by decide +kernel) (by rfl) ?_ ?_; rotate_left; (intro w' hg; have hgc := (bcell hg).1; have hgf := (bcell hg).2.1; (try (have hlew_5 : wn4.heap.size ≤ w'.heap.size := (by first | omega | (have hh := (bcell hg).2.2; (try simp at hh); omega)))); (try (have hlw_5_0 : wn4.heap.size < w'.heap.size := (by first | omega | (have hh := (bcell hg).2.2; (try simp at hh); omega)))); (try (have hlw_5_1 : wn4.heap.size + 1 < w'.heap.size := (by first | omega | (have hh := (bcell hg).2.2; (try simp at hh); omega)))); (try (have hlw_5_2 : wn4.heap.size + 1 + 1 < w'.heap.size := (by first | omega | (have hh := (bcell hg).2.2; (try simp at hh); omega)))); (try (refine Evo.laterK KB1.out w' ?_ (fun hxwc1 hxwf1 hxwz1 => ?_); (focus ((repeat (first | with_reducible exact Grow.G.refl _ | with_reducible exact Below.refl _ _ | with_reducible refine Grow.G.alloc ?_ _ | with_reducible refine Grow.G.trans ?_ hb5 | with_reducible refine Grow.G.trans ?_ hb4 | with_reducible refine Grow.G.trans ?_ hb3 | with_reducible refine Grow.G.trans ?_ hb2 | with_reducible refine Grow.G.trans ?_ hb1 | ((with_reducible refine Below.setCell ?_ ?_ _); rotate_left; (focus (first | omega | (simp; done) | (simp; omega)))))); all_goals fail)))); (try (have hlew_1 : w.heap.size ≤ w'.heap.size := (by first | omega | (have hh := hxwz1; (try simp at hh); omega)))); (try (have hlw_1_0 : w.heap.size < w'.heap.size := (by first | omega | (have hh := hxwz1; (try simp at hh); omega)))); (try (have hlw_1_1 : w.heap.size + 1 < w'.heap.size := (by first | omega | (have hh := hxwz1; (try simp at hh); omega)))); (try (have hlw_1_2 : w.heap.size + 1 + 1 < w'.heap.size := (by first | omega | (have hh := hxwz1; (try simp at hh); omega)))); (try (refine Evo.laterK KB2.out w' ?_ (fun hxwc2 hxwf2 hxwz2 => ?_); (focus ((repeat (first | with_reducible exact Grow.G.refl _ | with_reducible exact Below.refl _ _ | with_reducible refine Grow.G.alloc ?_ _ | with_reducible refine Grow.G.trans ?_ hb5 | with_reducible refine Grow.G.trans ?_ hb4 | with_reducible refine Grow.G.trans ?_ hb3 | with_reducible refine Grow.G.trans ?_ hb2 | with_reducible refine Grow.G.trans ?_ hb1 | ((with_reducible refine Below.setCell ?_ ?_ _); rotate_left; (focus (first | omega | (simp; done) | (simp; omega)))))); all_goals fail)))); (try (have hlew_2 : wn1.heap.size ≤ w'.heap.size := (by first | omega | (have hh := hxwz2; (try simp at hh); omega)))); (try (have hlw_2_0 : wn1.heap.size < w'.heap.size := (by first | omega | (have hh := hxwz2; (try simp at hh); omega)))); (try (have hlw_2_1 : wn1.heap.size + 1 < w'.heap.size := (by first | omega | (have hh := hxwz2; (try simp at hh); omega)))); (try (have hlw_2_2 : wn1.heap.size + 1 + 1 < w'.heap.size := (by first | omega | (have hh := hxwz2; (try simp at hh); omega)))); (try (refine Evo.laterK KB3.out w' ?_ (fun hxwc3 hxwf3 hxwz3 => ?_); (focus ((repeat (first | with_reducible exact Grow.G.refl _ | with_reducible exact Below.refl _ _ | with_reducible refine Grow.G.alloc ?_ _ | with_reducible refine Grow.G.trans ?_ hb5 | with_reducible refine Grow.G.trans ?_ hb4 | with_reducible refine Grow.G.trans ?_ hb3 | with_reducible refine Grow.G.trans ?_ hb2 | with_reducible refine Grow.G.trans ?_ hb1 | ((with_reducible refine Below.setCell ?_ ?_ _); rotate_left; (focus (first | omega | (simp; done) | (simp; omega)))))); all_goals fail)))); (try (have hlew_3 : wn2.heap.size ≤ w'.heap.size := (by first | omega | (have hh := hxwz3; (try simp at hh); omega)))); (try (have hlw_3_0 : wn2.heap.size < w'.heap.size := (by first | omega | (have hh := hxwz3; (try simp at hh); omega)))); (try (have hlw_3_1 : wn2.heap.size + 1 < w'.heap.size := (by first | omega | (have hh := hxwz3; (try simp at hh); omega)))); (try (have hlw_3_2 : wn2.heap.size + 1 + 1 < w'.heap.size := (by first | omega | (have hh := hxwz3; (try simp at hh); omega)))); (try (refine Evo.laterK KB4.out w' ?_ (fun hxwc4 hxwf4 hxwz4 => ?_); (focus ((repeat (first | with_reducible exact Grow.G.refl _ | with_reducible exact Below.refl _ _ | with_reducible refine Grow.G.alloc ?_ _ | with_reducible refine Grow.G.trans ?_ hb5 | with_reducible refine Grow.G.trans ?_ hb4 | with_reducible refine Grow.G.trans ?_ hb3 | with_reducible refine Grow.G.trans ?_ hb2 | with_reducible refine Grow.G.trans ?_ hb1 | ((with_reducible refine Below.setCell ?_ ?_ _); rotate_left; (focus (first | omega | (simp; done) | (simp; omega)))))); all_goals fail)))); (try (have hlew_4 : wn3.heap.size ≤ w'.heap.size := (by first | omega | (have hh := hxwz4; (try simp at hh); omega)))); (try (have hlw_4_0 : wn3.heap.size < w'.heap.size := (by first | omega | (have hh := hxwz4; (try simp at hh); omega)))); (try (have hlw_4_1 : wn3.heap.size + 1 < w'.heap.size := (by first | omega | (have hh := hxwz4; (try simp at hh); omega)))); (try (have hlw_4_2 : wn3.heap.size + 1 + 1 < w'.heap.size := (by first | omega | (have hh := hxwz4; (try simp at hh); omega)))); go_simp <;> with_reducible rfl); simp only [Act.put, List.setIfInBounds_toArray, List.set_cons_zero, List.set_cons_succ]) | (refine Evo.value ok 3 ?_ (by rfl) (by decide +kernel) (by rfl) ?_ ?_; rotate_left; (intro w' hg; go_simp <;> with_reducible rfl); simp only [Act.put, List.setIfInBounds_toArray, List.set_cons_zero, List.set_cons_succ])
  first | (refine Evo.value ok 4 ?_ (by rfl) (by decide +kernel) (by rfl) ?_ ?_; rotate_left; (intro w' hg; have hgc := (bcell hg).1; have hgf := (bcell hg).2.1; (try (have hlew_5 : wn4.heap.size ≤ w'.heap.size := (by first | omega | (have hh := (bcell hg).2.2; (try simp at hh); omega)))); (try (have hlw_5_0 : wn4.heap.size < w'.heap.size := (by first | omega | (have hh := (bcell hg).2.2; (try simp at hh); omega)))); (try (have hlw_5_1 : wn4.heap.size + 1 < w'.heap.size := (by first | omega | (have hh := (bcell hg).2.2; (try simp at hh); omega)))); (try (have hlw_5_2 : wn4.heap.size + 1 + 1 < w'.heap.size := (by first | omega | (have hh := (bcell hg).2.2; (try simp at hh); omega)))); (try (refine Evo.laterK KB1.out w' ?_ (fun hxwc1 hxwf1 hxwz1 => ?_); (focus ((repeat (first | with_reducible exact Grow.G.refl _ | with_reducible exact Below.refl _ _ | with_reducible refine Grow.G.alloc ?_ _ | with_reducible refine Grow.G.trans ?_ hb5 | with_reducible refine Grow.G.trans ?_ hb4 | with_reducible refine Grow.G.trans ?_ hb3 | with_reducible refine Grow.G.trans ?_ hb2 | with_reducible refine Grow.G.trans ?_ hb1 | ((with_reducible refine Below.setCell ?_ ?_ _); rotate_left; (focus (first | omega | (simp; done) | (simp; omega)))))); all_goals fail)))); (try (have hlew_1 : w.heap.size ≤ w'.heap.size := (by first | omega | (have hh := hxwz1; (try simp at hh); omega)))); (try (have hlw_1_0 : w.heap.size < w'.heap.size := (by first | omega | (have hh := hxwz1; (try simp at hh); omega)))); (try (have hlw_1_1 : w.heap.size + 1 < w'.heap.size := (by first | omega | (have hh := hxwz1; (try simp at hh); omega)))); (try (have hlw_1_2 : w.heap.size + 1 + 1 < w'.heap.size := (by first | omega | (have hh := hxwz1; (try simp at hh); omega)))); (try (refine Evo.laterK KB2.out w' ?_ (fun hxwc2 hxwf2 hxwz2 => ?_); (focus ((repeat (first | with_reducible exact Grow.G.refl _ | with_reducible exact Below.refl _ _ | with_reducible refine Grow.G.alloc ?_ _ | with_reducible refine Grow.G.trans ?_ hb5 | with_reducible refine Grow.G.trans ?_ hb4 | with_reducible refine Grow.G.trans ?_ hb3 | with_reducible refine Grow.G.trans ?_ hb2 | with_reducible refine Grow.G.trans ?_ hb1 | ((with_reducible refine Below.setCell ?_ ?_ _); rotate_left; (focus (first | omega | (simp; done) | (simp; omega)))))); all_goals fail)))); (try (have hlew_2 : wn1.heap.size ≤ w'.heap.size := (by first | omega | (have hh := hxwz2; (try simp at hh); omega)))); (try (have hlw_2_0 : wn1.heap.size < w'.heap.size := (by first | omega | (have hh := hxwz2; (try simp at hh); omega)))); (try (have hlw_2_1 : wn1.heap.size + 1 < w'.heap.size := (by first | omega | (have hh := hxwz2; (try simp at hh); omega)))); (try (have hlw_2_2 : wn1.heap.size + 1 + 1 < w'.heap.size := (by first | omega | (have hh := hxwz2; (try simp at hh); omega)))); (try (refine Evo.laterK KB3.out w' ?_ (fun hxwc3 hxwf3 hxwz3 => ?_); (focus ((repeat (first | with_reducible exact Grow.G.refl _ | with_reducible exact Below.refl _ _ | with_reducible refine Grow.G.alloc ?_ _ | with_reducible refine Grow.G.trans ?_ hb5 | with_reducible refine Grow.G.trans ?_ hb4 | with_reducible refine Grow.G.trans ?_ hb3 | with_reducible refine Grow.G.trans ?_ hb2 | with_reducible refine Grow.G.trans ?_ hb1 | ((with_reducible refine Below.setCell ?_ ?_ _); rotate_left; (focus (first | omega | (simp; done) | (simp; omega)))))); all_goals fail)))); (try (have hlew_3 : wn2.heap.size ≤ w'.heap.size := (by first | omega | (have hh := hxwz3; (try simp at hh); omega)))); (try (have hlw_3_0 : wn2.heap.size < w'.heap.size := (by first | omega | (have hh := hxwz3; (try simp at hh); omega)))); (try (have hlw_3_1 : wn2.heap.size + 1 < w'.heap.size := (by first | omega | (have hh := hxwz3; (try simp at hh); omega)))); (try (have hlw_3_2 : wn2.heap.size + 1 + 1 < w'.heap.size := (by first | omega | (have hh := hxwz3; (try simp at hh); omega)))); (try (refine Evo.laterK KB4.out w' ?_ (fun hxwc4 hxwf4 hxwz4 => ?_); (focus ((repeat (first | with_reducible exact Grow.G.refl _ | with_reducible exact Below.refl _ _ | with_reducible refine Grow.G.alloc ?_ _ | with_reducible refine Grow.G.trans ?_ hb5 | with_reducible refine Grow.G.trans ?_ hb4 | with_reducible refine Grow.G.trans ?_ hb3 | with_reducible refine Grow.G.trans ?_ hb2 | with_reducible refine Grow.G.trans ?_ hb1 | ((with_reducible refine Below.setCell ?_ ?_ _); rotate_left; (focus (first | omega | (simp; done) | (simp; omega)))))); all_goals fail)))); (try (have hlew_4 : wn3.heap.size ≤ w'.heap.size := (by first | omega | (have hh := hxwz4; (try simp at hh); omega)))); (try (have hlw_4_0 : wn3.heap.size < w'.heap.size := (by first | omega | (have hh := hxwz4; (try simp at hh); omega)))); (try (have hlw_4_1 : wn3.heap.size + 1 < w'.heap.size := (by first | omega | (have hh := hxwz4; (try simp at hh); omega)))); (try (have hlw_4_2 : wn3.heap.size + 1 + 1 < w'.heap.size := (by first | omega | (have hh := hxwz4; (try simp at hh); omega)))); go_simp <;> with_reducible rfl); simp only [Act.put, List.setIfInBounds_toArray, List.set_cons_zero, List.set_cons_succ]) | (refine Evo.value ok 4 ?_ (by rfl) (by decide +kernel) (by rfl) ?_ ?_; rotate_left; (intro w' hg; go_simp <;> with_reducible rfl); simp only [Act.put, List.setIfInBounds_toArray, List.set_cons_zero, List.set_cons_succ])
  (refine Evo.call ok 5 ?_ 22 ?_ (by rfl) (by decide +kernel) (by rfl) ?_ ?_ ?_; rotate_left 2; (focus (intro w'; go_simp <;> with_reducible rfl)); (focus (intro w' g'; with_reducible exact S2.out w' (TA.out.later (Grow.G.trans (by (repeat (first | with_reducible exact Grow.G.refl _ | with_reducible exact Below.refl _ _ | with_reducible refine Grow.G.alloc ?_ _ | with_reducible refine Grow.G.trans ?_ hb4 | with_reducible refine Grow.G.trans ?_ hb3 | with_reducible refine Grow.G.trans ?_ hb2 | with_reducible refine Grow.G.trans ?_ hb1 | ((with_reducible refine Below.setCell ?_ ?_ _); rotate_left; (focus (first | omega | (simp; done) | (simp; omega)))) | with_reducible assumption | with_reducible refine Grow.G.trans ?_ (by with_reducible assumption)))) g')) (TB.out.later (Grow.G.trans (by (repeat (first | with_reducible exact Grow.G.refl _ | with_reducible exact Below.refl _ _ | with_reducible refine Grow.G.alloc ?_ _ | with_reducible refine Grow.G.trans ?_ hb4 | with_reducible refine Grow.G.trans ?_ hb3 | with_reducible refine Grow.G.trans ?_ hb2 | with_reducible refine Grow.G.trans ?_ hb1 | ((with_reducible refine Below.setCell ?_ ?_ _); rotate_left; (focus (first | omega | (simp; done) | (simp; omega)))) | with_reducible assumption | with_reducible refine Grow.G.trans ?_ (by with_reducible assumption)))) g')))); simp only [Act.put, List.setIfInBounds_toArray, List.set_cons_zero, List.set_cons_succ])
  first | (refine Evo.value ok 6 ?_ (by rfl) (by decide +kernel) (by rfl) ?_ ?_; rotate_left; (intro w' hg; go_simp <;> with_reducible rfl); simp only [Act.put, List.setIfInBounds_toArray, List.set_cons_zero, List.set_cons_succ]) | (refine Evo.value ok 6 ?_ (by rfl) (by decide +kernel) (by rfl) ?_ ?_; rotate_left; (intro w' hg; go_simp; rw [if_neg (by omega)]); simp only [Act.put, List.setIfInBounds_toArray, List.set_cons_zero, List.set_cons_succ])
  first | (refine Evo.value ok 7 ?_ (by rfl) (by decide +kernel) (by rfl) ?_ ?_; rotate_left; (intro w' hg; go_simp <;> with_reducible rfl); simp only [Act.put, List.setIfInBounds_toArray, List.set_cons_zero, List.set_cons_succ]) | (refine Evo.value ok 7 ?_ (by rfl) (by decide +kernel) (by rfl) ?_ ?_; rotate_left; (intro w' hg; go_simp; rw [if_neg (by omega)]); simp only [Act.put, List.setIfInBounds_toArray, List.set_cons_zero, List.set_cons_succ])
  first | (refine Evo.value ok 8 ?_ (by rfl) (by decide +kernel) (by rfl) ?_ ?_; rotate_left; (intro w' hg; have hgc := (bcell hg).1; have hgf := (bcell hg).2.1; (try (have hlew_5 : wn4.heap.size ≤ w'.heap.size := (by first | omega | (have hh := (bcell hg).2.2; (try simp at hh); omega)))); (try (have hlw_5_0 : wn4.heap.size < w'.heap.size := (by first | omega | (have hh := (bcell hg).2.2; (try simp at hh); omega)))); (try (have hlw_5_1 : wn4.heap.size + 1 < w'.heap.size := (by first | omega | (have hh := (bcell hg).2.2; (try simp at hh); omega)))); (try (have hlw_5_2 : wn4.heap.size + 1 + 1 < w'.heap.size := (by first | omega | (have hh := (bcell hg).2.2; (try simp at hh); omega)))); (try (refine Evo.laterK KB1.out w' ?_ (fun hxwc1 hxwf1 hxwz1 => ?_); (focus ((repeat (first | with_reducible exact Grow.G.refl _ | with_reducible exact Below.refl _ _ | with_reducible refine Grow.G.alloc ?_ _ | with_reducible refine Grow.G.trans ?_ hb5 | with_reducible refine Grow.G.trans ?_ hb4 | with_reducible refine Grow.G.trans ?_ hb3 | with_reducible refine Grow.G.trans ?_ hb2 | with_reducible refine Grow.G.trans ?_ hb1 | ((with_reducible refine Below.setCell ?_ ?_ _); rotate_left; (focus (first | omega | (simp; done) | (simp; omega)))))); all_goals fail)))); (try (have hlew_1 : w.heap.size ≤ w'.heap.size := (by first | omega | (have hh := hxwz1; (try simp at hh); omega)))); (try (have hlw_1_0 : w.heap.size < w'.heap.size := (by first | omega | (have hh := hxwz1; (try simp at hh); omega)))); (try (have hlw_1_1 : w.heap.size + 1 < w'.heap.size := (by first | omega | (have hh := hxwz1; (try simp at hh); omega)))); (try (have hlw_1_2 : w.heap.size + 1 + 1 < w'.heap.size := (by first | omega | (have hh := hxwz1; (try simp at hh); omega)))); (try (refine Evo.laterK KB2.out w' ?_ (fun hxwc2 hxwf2 hxwz2 => ?_); (focus ((repeat (first | with_reducible exact Grow.G.refl _ | with_reducible exact Below.refl _ _ | with_reducible refine Grow.G.alloc ?_ _ | with_reducible refine Grow.G.trans ?_ hb5 | with_reducible refine Grow.G.trans ?_ hb4 | with_reducible refine Grow.G.trans ?_ hb3 | with_reducible refine Grow.G.trans ?_ hb2 | with_reducible refine Grow.G.trans ?_ hb1 | ((with_reducible refine Below.setCell ?_ ?_ _); rotate_left; (focus (first | omega | (simp; done) | (simp; omega)))))); all_goals fail)))); (try (have hlew_2 : wn1.heap.size ≤ w'.heap.size := (by first | omega | (have hh := hxwz2; (try simp at hh); omega)))); (try (have hlw_2_0 : wn1.heap.size < w'.heap.size := (by first | omega | (have hh := hxwz2; (try simp at hh); omega)))); (try (have hlw_2_1 : wn1.heap.size + 1 < w'.heap.size := (by first | omega | (have hh := hxwz2; (try simp at hh); omega)))); (try (have hlw_2_2 : wn1.heap.size + 1 + 1 < w'.heap.size := (by first | omega | (have hh := hxwz2; (try simp at hh); omega)))); (try (refine Evo.laterK KB3.out w' ?_ (fun hxwc3 hxwf3 hxwz3 => ?_); (focus ((repeat (first | with_reducible exact Grow.G.refl _ | with_reducible exact Below.refl _ _ | with_reducible refine Grow.G.alloc ?_ _ | with_reducible refine Grow.G.trans ?_ hb5 | with_reducible refine Grow.G.trans ?_ hb4 | with_reducible refine Grow.G.trans ?_ hb3 | with_reducible refine Grow.G.trans ?_ hb2 | with_reducible refine Grow.G.trans ?_ hb1 | ((with_reducible refine Below.setCell ?_ ?_ _); rotate_left; (focus (first | omega | (simp; done) | (simp; omega)))))); all_goals fail)))); (try (have hlew_3 : wn2.heap.size ≤ w'.heap.size := (by first | omega | (have hh := hxwz3; (try simp at hh); omega)))); (try (have hlw_3_0 : wn2.heap.size < w'.heap.size := (by first | omega | (have hh := hxwz3; (try simp at hh); omega)))); (try (have hlw_3_1 : wn2.heap.size + 1 < w'.heap.size := (by first | omega | (have hh := hxwz3; (try simp at hh); omega)))); (try (have hlw_3_2 : wn2.heap.size + 1 + 1 < w'.heap.size := (by first | omega | (have hh := hxwz3; (try simp at hh); omega)))); (try (refine Evo.laterK KB4.out w' ?_ (fun hxwc4 hxwf4 hxwz4 => ?_); (focus ((repeat (first | with_reducible exact Grow.G.refl _ | with_reducible exact Below.refl _ _ | with_reducible refine Grow.G.alloc ?_ _ | with_reducible refine Grow.G.trans ?_ hb5 | with_reducible refine Grow.G.trans ?_ hb4 | with_reducible refine Grow.G.trans ?_ hb3 | with_reducible refine Grow.G.trans ?_ hb2 | with_reducible refine Grow.G.trans ?_ hb1 | ((with_reducible refine Below.setCell ?_ ?_ _); rotate_left; (focus (first | omega | (simp; done) | (simp; omega)))))); all_goals fail)))); (try (have hlew_4 : wn3.heap.size ≤ w'.heap.size := (by first | omega | (have hh := hxwz4; (try simp at hh); omega)))); (try (have hlw_4_0 : wn3.heap.size < w'.heap.size := (by first | omega | (have hh := hxwz4; (try simp at hh); omega)))); (try (have hlw_4_1 : wn3.heap.size + 1 < w'.heap.size := (by first | omega | (have hh := hxwz4; (try simp at hh); omega)))); (try (have hlw_4_2 : wn3.heap.size + 1 + 1 < w'.heap.size := (by first | omega | (have hh := hxwz4; (try simp at hh); omega)))); go_simp <;> with_reducible rfl); simp only [Act.put, List.setIfInBounds_toArray, List.set_cons_zero, List.set_cons_succ]) | (refine Evo.value ok 8 ?_ (by rfl) (by decide +kernel) (by rfl) ?_ ?_; rotate_left; (intro w' hg; go_simp <;> with_reducible rfl); simp only [Act.put, List.setIfInBounds_toArray, List.set_cons_zero, List.set_cons_succ]) | (refine Evo.idle ok 8 (by rfl) (by decide +kernel) (by rfl) ?_; simp only [Act.put, List.setIfInBounds_toArray, List.set_cons_zero, List.set_cons_succ])
  first | (refine Evo.value ok 9 ?_ (by rfl) (by decide +kernel) (by rfl) ?_ ?_; rotate_left; (intro w' hg; have hgc := (bcell hg).1; have hgf := (bcell hg).2.1; (try (have hlew_5 : wn4.heap.size ≤ w'.heap.size := (by first | omega | (have hh := (bcell hg).2.2; (try simp at hh); omega)))); (try (have hlw_5_0 : wn4.heap.size < w'.heap.size := (by first | omega | (have hh := (bcell hg).2.2; (try simp at hh); omega)))); (try (have hlw_5_1 : wn4.heap.size + 1 < w'.heap.size := (by first | omega | (have hh := (bcell hg).2.2; (try simp at hh); omega)))); (try (have hlw_5_2 : wn4.heap.size + 1 + 1 < w'.heap.size := (by first | omega | (have hh := (bcell hg).2.2; (try simp at hh); omega)))); (try (refine Evo.laterK KB1.out w' ?_ (fun hxwc1 hxwf1 hxwz1 => ?_); (focus ((repeat (first | with_reducible exact Grow.G.refl _ | with_reducible exact Below.refl _ _ | with_reducible refine Grow.G.alloc ?_ _ | with_reducible refine Grow.G.trans ?_ hb5 | with_reducible refine Grow.G.trans ?_ hb4 | with_reducible refine Grow.G.trans ?_ hb3 | with_reducible refine Grow.G.trans ?_ hb2 | with_reducible refine Grow.G.trans ?_ hb1 | ((with_reducible refine Below.setCell ?_ ?_ _); rotate_left; (focus (first | omega | (simp; done) | (simp; omega)))))); all_goals fail)))); (try (have hlew_1 : w.heap.size ≤ w'.heap.size := (by first | omega | (have hh := hxwz1; (try simp at hh); omega)))); (try (have hlw_1_0 : w.heap.size < w'.heap.size := (by first | omega | (have hh := hxwz1; (try simp at hh); omega)))); (try (have hlw_1_1 : w.heap.size + 1 < w'.heap.size := (by first | omega | (have hh := hxwz1; (try simp at hh); omega)))); (try (have hlw_1_2 : w.heap.size + 1 + 1 < w'.heap.size := (by first | omega | (have hh := hxwz1; (try simp at hh); omega)))); (try (refine Evo.laterK KB2.out w' ?_ (fun hxwc2 hxwf2 hxwz2 => ?_); (focus ((repeat (first | with_reducible exact Grow.G.refl _ | with_reducible exact Below.refl _ _ | with_reducible refine Grow.G.alloc ?_ _ | with_reducible refine Grow.G.trans ?_ hb5 | with_reducible refine Grow.G.trans ?_ hb4 | with_reducible refine Grow.G.trans ?_ hb3 | with_reducible refine Grow.G.trans ?_ hb2 | with_reducible refine Grow.G.trans ?_ hb1 | ((with_reducible refine Below.setCell ?_ ?_ _); rotate_left; (focus (first | omega | (simp; done) | (simp; omega)))))); all_goals fail)))); (try (have hlew_2 : wn1.heap.size ≤ w'.heap.size := (by first | omega | (have hh := hxwz2; (try simp at hh); omega)))); (try (have hlw_2_0 : wn1.heap.size < w'.heap.size := (by first | omega | (have hh := hxwz2; (try simp at hh); omega)))); (try (have hlw_2_1 : wn1.heap.size + 1 < w'.heap.size := (by first | omega | (have hh := hxwz2; (try simp at hh); omega)))); (try (have hlw_2_2 : wn1.heap.size + 1 + 1 < w'.heap.size := (by first | omega | (have hh := hxwz2; (try simp at hh); omega)))); (try (refine Evo.laterK KB3.out w' ?_ (fun hxwc3 hxwf3 hxwz3 => ?_); (focus ((repeat (first | with_reducible exact Grow.G.refl _ | with_reducible exact Below.refl _ _ | with_reducible refine Grow.G.alloc ?_ _ | with_reducible refine Grow.G.trans ?_ hb5 | with_reducible refine Grow.G.trans ?_ hb4 | with_reducible refine Grow.G.trans ?_ hb3 | with_reducible refine Grow.G.trans ?_ hb2 | with_reducible refine Grow.G.trans ?_ hb1 | ((with_reducible refine Below.setCell ?_ ?_ _); rotate_left; (focus (first | omega | (simp; done) | (simp; omega)))))); all_goals fail)))); (try (have hlew_3 : wn2.heap.size ≤ w'.heap.size := (by first | omega | (have hh := hxwz3; (try simp at hh); omega)))); (try (have hlw_3_0 : wn2.heap.size < w'.heap.size := (by first | omega | (have hh := hxwz3; (try simp at hh); omega)))); (try (have hlw_3_1 : wn2.heap.size + 1 < w'.heap.size := (by first | omega | (have hh := hxwz3; (try simp at hh); omega)))); (try (have hlw_3_2 : wn2.heap.size + 1 + 1 < w'.heap.size := (by first | omega | (have hh := hxwz3; (try simp at hh); omega)))); (try (refine Evo.laterK KB4.out w' ?_ (fun hxwc4 hxwf4 hxwz4 => ?_); (focus ((repeat (first | with_reducible exact Grow.G.refl _ | with_reducible exact Below.refl _ _ | with_reducible refine Grow.G.alloc ?_ _ | with_reducible refine Grow.G.trans ?_ hb5 | with_reducible refine Grow.G.trans ?_ hb4 | with_reducible refine Grow.G.trans ?_ hb3 | with_reducible refine Grow.G.trans ?_ hb2 | with_reducible refine Grow.G.trans ?_ hb1 | ((with_reducible refine Below.setCell ?_ ?_ _); rotate_left; (focus (first | omega | (simp; done) | (simp; omega)))))); all_goals fail)))); (try (have hlew_4 : wn3.heap.size ≤ w'.heap.size := (by first | omega | (have hh := hxwz4; (try simp at hh); omega)))); (try (have hlw_4_0 : wn3.heap.size < w'.heap.size := (by first | omega | (have hh := hxwz4; (try simp at hh); omega)))); (try (have hlw_4_1 : wn3.heap.size + 1 < w'.heap.size := (by first | omega | (have hh := hxwz4; (try simp at hh); omega)))); (try (have hlw_4_2 : wn3.heap.size + 1 + 1 < w'.heap.size := (by first | omega | (have hh := hxwz4; (try simp at hh); omega)))); go_simp <;> with_reducible rfl); simp only [Act.put, List.setIfInBounds_toArray, List.set_cons_zero, List.set_cons_succ]) | (refine Evo.value ok 9 ?_ (by rfl) (by decide +kernel) (by rfl) ?_ ?_; rotate_left; (intro w' hg; go_simp <;> with_reducible rfl); simp only [Act.put, List.setIfInBounds_toArray, List.set_cons_zero, List.set_cons_succ]) | (refine Evo.idle ok 9 (by rfl) (by decide +kernel) (by rfl) ?_; simp only [Act.put, List.setIfInBounds_toArray, List.set_cons_zero, List.set_cons_succ])
  first | (refine Evo.call ok 10 ?_ 21 ?_ (by rfl) (by decide +kernel) (by rfl) ?_ ?_ ?_; rotate_left 2; (focus (intro w'; go_simp <;> with_reducible rfl)); (focus (intro w' g'; with_reducible exact S3.out w' (TA.out.later (Grow.G.trans (by (repeat (first | with_reducible exact Grow.G.refl _ | with_reducible exact Below.refl _ _ | with_reducible refine Grow.G.alloc ?_ _ | with_reducible refine Grow.G.trans ?_ hb4 | with_reducible refine Grow.G.trans ?_ hb3 | with_reducible refine Grow.G.trans ?_ hb2 | with_reducible refine Grow.G.trans ?_ hb1 | ((with_reducible refine Below.setCell ?_ ?_ _); rotate_left; (focus (first | omega | (simp; done) | (simp; omega)))) | with_reducible assumption | with_reducible refine Grow.G.trans ?_ (by with_reducible assumption)))) g')) (TC.out.later (Grow.G.trans (by (repeat (first | with_reducible exact Grow.G.refl _ | with_reducible exact Below.refl _ _ | with_reducible refine Grow.G.alloc ?_ _ | with_reducible refine Grow.G.trans ?_ hb4 | with_reducible refine Grow.G.trans ?_ hb3 | with_reducible refine Grow.G.trans ?_ hb2 | with_reducible refine Grow.G.trans ?_ hb1 | ((with_reducible refine Below.setCell ?_ ?_ _); rotate_left; (focus (first | omega | (simp; done) | (simp; omega)))) | with_reducible assumption | with_reducible refine Grow.G.trans ?_ (by with_reducible assumption)))) g')))); simp only [Act.put, List.setIfInBounds_toArray, List.set_cons_zero, List.set_cons_succ]) | (refine Evo.idle ok 10 (by rfl) (by decide +kernel) (by rfl) ?_; simp only [Act.put, List.setIfInBounds_toArray, List.set_cons_zero, List.set_cons_succ])
  first | (refine Evo.value ok 11 ?_ (by rfl) (by decide +kernel) (by rfl) ?_ ?_; rotate_left; (intro w' hg; go_simp <;> with_reducible rfl); simp only [Act.put, List.setIfInBounds_toArray, List.set_cons_zero, List.set_cons_succ]) | (refine Evo.value ok 11 ?_ (by rfl) (by decide +kernel) (by rfl) ?_ ?_; rotate_left; (intro w' hg; go_simp; rw [if_neg (by omega)]); simp only [Act.put, List.setIfInBounds_toArray, List.set_cons_zero, List.set_cons_succ]) | (refine Evo.idle ok 11 (by rfl) (by decide +kernel) (by rfl) ?_; simp only [Act.put, List.setIfInBounds_toArray, List.set_cons_zero, List.set_cons_succ])
  first | (refine Evo.value ok 12 ?_ (by rfl) (by decide +kernel) (by rfl) ?_ ?_; rotate_left; (intro w' hg; go_simp <;> with_reducible rfl); simp only [Act.put, List.setIfInBounds_toArray, List.set_cons_zero, List.set_cons_succ]) | (refine Evo.value ok 12 ?_ (by rfl) (by decide +kernel) (by rfl) ?_ ?_; rotate_left; (intro w' hg; go_simp; rw [if_neg (by omega)]); simp only [Act.put, List.setIfInBounds_toArray, List.set_cons_zero, List.set_cons_succ])
  refine Evo.done (by decide +kernel) (fun wn5 hb5 => ?_)
  have KB5 := Lib.hid (Evo.later hb5)
  have hxwn5c := (bcell hb5).1
  have hxwn5f := (bcell hb5).2.1
  have hxwn5z := (bcell hb5).2.2
  (try (have hlewn5_5 : wn4.heap.size ≤ wn5.heap.size := (by first | omega | (have hh := hxwn5z; (try simp at hh); omega))))
  (try (have hlwn5_5_0 : wn4.heap.size < wn5.heap.size := (by first | omega | (have hh := hxwn5z; (try simp at hh); omega))))
  (try (have hlwn5_5_1 : wn4.heap.size + 1 < wn5.heap.size := (by first | omega | (have hh := hxwn5z; (try simp at hh); omega))))
  (try (have hlwn5_5_2 : wn4.heap.size + 1 + 1 < wn5.heap.size := (by first | omega | (have hh := hxwn5z; (try simp at hh); omega))))
  (try (refine Evo.laterK KB1.out wn5 ?_ (fun hxwn5c1 hxwn5f1 hxwn5z1 => ?_); (focus ((repeat (first | with_reducible exact Grow.G.refl _ | with_reducible exact Below.refl _ _ | with_reducible refine Grow.G.alloc ?_ _ | with_reducible refine Grow.G.trans ?_ hb5 | with_reducible refine Grow.G.trans ?_ hb4 | with_reducible refine Grow.G.trans ?_ hb3 | with_reducible refine Grow.G.trans ?_ hb2 | with_reducible refine Grow.G.trans ?_ hb1 | ((with_reducible refine Below.setCell ?_ ?_ _); rotate_left; (focus (first | omega | (simp; done) | (simp; omega)))))); all_goals fail))))
  (try (have hlewn5_1 : w.heap.size ≤ wn5.heap.size := (by first | omega | (have hh := hxwn5z1; (try simp at hh); omega))))
  (try (have hlwn5_1_0 : w.heap.size < wn5.heap.size := (by first | omega | (have hh := hxwn5z1; (try simp at hh); omega))))
  (try (have hlwn5_1_1 : w.heap.size + 1 < wn5.heap.size := (by first | omega | (have hh := hxwn5z1; (try simp at hh); omega))))
  (try (have hlwn5_1_2 : w.heap.size + 1 + 1 < wn5.heap.size := (by first | omega | (have hh := hxwn5z1; (try simp at hh); omega))))
  (try (refine Evo.laterK KB2.out wn5 ?_ (fun hxwn5c2 hxwn5f2 hxwn5z2 => ?_); (focus ((repeat (first | with_reducible exact Grow.G.refl _ | with_reducible exact Below.refl _ _ | with_reducible refine Grow.G.alloc ?_ _ | with_reducible refine Grow.G.trans ?_ hb5 | with_reducible refine Grow.G.trans ?_ hb4 | with_reducible refine Grow.G.trans ?_ hb3 | with_reducible refine Grow.G.trans ?_ hb2 | with_reducible refine Grow.G.trans ?_ hb1 | ((with_reducible refine Below.setCell ?_ ?_ _); rotate_left; (focus (first | omega | (simp; done) | (simp; omega)))))); all_goals fail))))
  (try (have hlewn5_2 : wn1.heap.size ≤ wn5.heap.size := (by first | omega | (have hh := hxwn5z2; (try simp at hh); omega))))
  (try (have hlwn5_2_0 : wn1.heap.size < wn5.heap.size := (by first | omega | (have hh := hxwn5z2; (try simp at hh); omega))))
  (try (have hlwn5_2_1 : wn1.heap.size + 1 < wn5.heap.size := (by first | omega | (have hh := hxwn5z2; (try simp at hh); omega))))
  (try (have hlwn5_2_2 : wn1.heap.size + 1 + 1 < wn5.heap.size := (by first | omega | (have hh := hxwn5z2; (try simp at hh); omega))))
  (try (refine Evo.laterK KB3.out wn5 ?_ (fun hxwn5c3 hxwn5f3 hxwn5z3 => ?_); (focus ((repeat (first | with_reducible exact Grow.G.refl _ | with_reducible exact Below.refl _ _ | with_reducible refine Grow.G.alloc ?_ _ | with_reducible refine Grow.G.trans ?_ hb5 | with_reducible refine Grow.G.trans ?_ hb4 | with_reducible refine Grow.G.trans ?_ hb3 | with_reducible refine Grow.G.trans ?_ hb2 | with_reducible refine Grow.G.trans ?_ hb1 | ((with_reducible refine Below.setCell ?_ ?_ _); rotate_left; (focus (first | omega | (simp; done) | (simp; omega)))))); all_goals fail))))
  (try (have hlewn5_3 : wn2.heap.size ≤ wn5.heap.size := (by first | omega | (have hh := hxwn5z3; (try simp at hh); omega))))
  (try (have hlwn5_3_0 : wn2.heap.size < wn5.heap.size := (by first | omega | (have hh := hxwn5z3; (try simp at hh); omega))))
  (try (have hlwn5_3_1 : wn2.heap.size + 1 < wn5.heap.size := (by first | omega | (have hh := hxwn5z3; (try simp at hh); omega))))
  (try (have hlwn5_3_2 : wn2.heap.size + 1 + 1 < wn5.heap.size := (by first | omega | (have hh := hxwn5z3; (try simp at hh); omega))))
  (try (refine Evo.laterK KB4.out wn5 ?_ (fun hxwn5c4 hxwn5f4 hxwn5z4 => ?_); (focus ((repeat (first | with_reducible exact Grow.G.refl _ | with_reducible exact Below.refl _ _ | with_reducible refine Grow.G.alloc ?_ _ | with_reducible refine Grow.G.trans ?_ hb5 | with_reducible refine Grow.G.trans ?_ hb4 | with_reducible refine Grow.G.trans ?_ hb3 | with_reducible refine Grow.G.trans ?_ hb2 | with_reducible refine Grow.G.trans ?_ hb1 | ((with_reducible refine Below.setCell ?_ ?_ _); rotate_left; (focus (first | omega | (simp; done) | (simp; omega)))))); all_goals fail))))
  (try (have hlewn5_4 : wn3.heap.size ≤ wn5.heap.size := (by first | omega | (have hh := hxwn5z4; (try simp at hh); omega))))
  (try (have hlwn5_4_0 : wn3.heap.size < wn5.heap.size := (by first | omega | (have hh := hxwn5z4; (try simp at hh); omega))))
  (try (have hlwn5_4_1 : wn3.heap.size + 1 < wn5.heap.size := (by first | omega | (have hh := hxwn5z4; (try simp at hh); omega))))
  (try (have hlwn5_4_2 : wn3.heap.size + 1 + 1 < wn5.heap.size := (by first | omega | (have hh := hxwn5z4; (try simp at hh); omega))))
  have hbA := (own_tgts OA.out).2.2.2
  clear S1 S2 S3 hxx TB OB OA
  have hbC := (own_tgts OC.out).2.2.2
  have OC5 := Lib.hid (own_base (own_later OC.out (show Grow.G wn4 wn5 by (repeat (first | with_reducible exact Grow.G.refl _ | with_reducible exact Below.refl _ _ | with_reducible refine Grow.G.alloc ?_ _ | with_reducible refine Grow.G.trans ?_ hb6 | with_reducible refine Grow.G.trans ?_ hb5 | with_reducible refine Grow.G.trans ?_ hb4 | with_reducible refine Grow.G.trans ?_ hb3 | with_reducible refine Grow.G.trans ?_ hb2 | with_reducible refine Grow.G.trans ?_ hb1 | ((with_reducible refine Below.setCell ?_ ?_ _); rotate_left; (focus (first | omega | (simp; done) | (simp; omega)))) | with_reducible assumption | with_reducible refine Grow.G.trans ?_ (by with_reducible assumption))))) (show w.heap.size ≤ _ by simp; omega))
  have TA5 := Lib.hid (TA.out.later (show Grow.G wn2 wn5 by (repeat (first | with_reducible exact Grow.G.refl _ | with_reducible exact Below.refl _ _ | with_reducible refine Grow.G.alloc ?_ _ | with_reducible refine Grow.G.trans ?_ hb6 | with_reducible refine Grow.G.trans ?_ hb5 | with_reducible refine Grow.G.trans ?_ hb4 | with_reducible refine Grow.G.trans ?_ hb3 | with_reducible refine Grow.G.trans ?_ hb2 | with_reducible refine Grow.G.trans ?_ hb1 | ((with_reducible refine Below.setCell ?_ ?_ _); rotate_left; (focus (first | omega | (simp; done) | (simp; omega)))) | with_reducible assumption | with_reducible refine Grow.G.trans ?_ (by with_reducible assumption)))))
  have TC5 := Lib.hid (TC.out.later (show Grow.G wn4 wn5 by (repeat (first | with_reducible exact Grow.G.refl _ | with_reducible exact Below.refl _ _ | with_reducible refine Grow.G.alloc ?_ _ | with_reducible refine Grow.G.trans ?_ hb6 | with_reducible refine Grow.G.trans ?_ hb5 | with_reducible refine Grow.G.trans ?_ hb4 | with_reducible refine Grow.G.trans ?_ hb3 | with_reducible refine Grow.G.trans ?_ hb2 | with_reducible refine Grow.G.trans ?_ hb1 | ((with_reducible refine Below.setCell ?_ ?_ _); rotate_left; (focus (first | omega | (simp; done) | (simp; omega)))) | with_reducible assumption | with_reducible refine Grow.G.trans ?_ (by with_reducible assumption)))))
  have o0 : w.heap.size ≤ wn4.heap.size := by omega
  have o8 : w.heap.size ≤ wn3.heap.size := by omega
  have o9 : wn3.heap.size < wn4.heap.size := by omega
  have o1 : bA < wn3.heap.size := by omega
  have o4 := hbC.1
  have o2 : wn3.heap.size + 1 < bC := by simp at o4; omega
  have o5 : w.heap.size ≤ bC := by simp at o4; omega
  have o3 : bC < wn4.heap.size := hbC.2
  have FC := (own_tgts OC.out).2.2.1
  have FC5 : ∀ o, wn5.frozen? ⟨bC, o, none⟩ = false := fun o => by rw [hxwn5f _ _ (by simp; omega)]; have := FC o; go_simp
  clear hbA hbC o4 FC
  have r1_0 : wn5.cell? ⟨wn3.heap.size, 0, none⟩ = some (.string nm) := by go_simp
  (try (have r1_0z : wn3.heap.size < wn5.heap.size := by omega))
  have r1_1 : wn5.cell? ⟨wn3.heap.size, 1, none⟩ = some (.string cf) := by go_simp
  (try (have r1_1z : wn3.heap.size < wn5.heap.size := by omega))
  have r1_2 : wn5.cell? ⟨wn3.heap.size, 2, none⟩ = some (.slice (some ⟨bA, 0, none⟩) ts.length cA) := by go_simp
  (try (have r1_2z : wn3.heap.size < wn5.heap.size := by omega))
  have r1_3 : wn5.cell? ⟨wn3.heap.size, 3, none⟩ = some (.int .i64 ro) := by go_simp
  (try (have r1_3z : wn3.heap.size < wn5.heap.size := by omega))
  have r1_4 : wn5.cell? ⟨wn4.heap.size, 0, none⟩ = some (.string nm) := by go_simp
  have r1_4f : wn5.frozen? ⟨wn4.heap.size, 0, none⟩ = false := by go_simp
  (try (have r1_4z : wn4.heap.size < wn5.heap.size := by omega))
  have r1_5 : wn5.cell? ⟨wn4.heap.size, 1, none⟩ = some (.string cf) := by go_simp
  have r1_5f : wn5.frozen? ⟨wn4.heap.size, 1, none⟩ = false := by go_simp
  (try (have r1_5z : wn4.heap.size < wn5.heap.size := by omega))
  have r1_6 : wn5.cell? ⟨wn4.heap.size, 2, none⟩ = some (.slice (some ⟨bC, 0, none⟩) ts.length cC) := by go_simp
  have r1_6f : wn5.frozen? ⟨wn4.heap.size, 2, none⟩ = false := by go_simp
  (try (have r1_6z : wn4.heap.size < wn5.heap.size := by omega))
  have r1_7 : wn5.cell? ⟨wn4.heap.size, 3, none⟩ = some (.int .i64 ro) := by go_simp
  have r1_7f : wn5.frozen? ⟨wn4.heap.size, 3, none⟩ = false := by go_simp
  (try (have r1_7z : wn4.heap.size < wn5.heap.size := by omega))
  have GB1 : Hid (Grow.G w wn5) := Lib.hid (by (repeat (first | with_reducible exact Grow.G.refl _ | with_reducible exact Below.refl _ _ | with_reducible refine Grow.G.alloc ?_ _ | with_reducible refine Grow.G.trans ?_ hb6 | with_reducible refine Grow.G.trans ?_ hb5 | with_reducible refine Grow.G.trans ?_ hb4 | with_reducible refine Grow.G.trans ?_ hb3 | with_reducible refine Grow.G.trans ?_ hb2 | with_reducible refine Grow.G.trans ?_ hb1 | ((with_reducible refine Below.setCell ?_ ?_ _); rotate_left; (focus (first | omega | (simp; done) | (simp; omega)))) | with_reducible assumption | with_reducible refine Grow.G.trans ?_ (by with_reducible assumption))))
  (try clear hxwn1c)
  (try clear hxwn1f)
  (try clear hxwn1z)
  (try clear hb1)
  (try clear KB1)
  (try clear hlewn1_1)
  (try clear hlwn1_1_0)
  (try clear hlwn1_1_1)
  (try clear hlwn1_1_2)
  (try clear hxwn2c)
  (try clear hxwn2f)
  (try clear hxwn2z)
  (try clear hb2)
  (try clear KB2)
  (try clear hlewn2_2)
  (try clear hlwn2_2_0)
  (try clear hlwn2_2_1)
  (try clear hlwn2_2_2)
  (try clear hxwn2c1)
  (try clear hxwn2f1)
  (try clear hxwn2z1)
  (try clear hlewn2_1)
  (try clear hlwn2_1_0)
  (try clear hlwn2_1_1)
  (try clear hlwn2_1_2)
  (try clear hxwn3c)
  (try clear hxwn3f)
  (try clear hxwn3z)
  (try clear hb3)
  (try clear KB3)
  (try clear hlewn3_3)
  (try clear hlwn3_3_0)
  (try clear hlwn3_3_1)
  (try clear hlwn3_3_2)
  (try clear hxwn3c1)
  (try clear hxwn3f1)
  (try clear hxwn3z1)
  (try clear hlewn3_1)
  (try clear hlwn3_1_0)
  (try clear hlwn3_1_1)
  (try clear hlwn3_1_2)
  (try clear hxwn3c2)
  (try clear hxwn3f2)
  (try clear hxwn3z2)
  (try clear hlewn3_2)
  (try clear hlwn3_2_0)
  (try clear hlwn3_2_1)
  (try clear hlwn3_2_2)
  (try clear hxwn4c)
  (try clear hxwn4f)
  (try clear hxwn4z)
  (try clear hb4)
  (try clear KB4)
  (try clear hlewn4_4)
  (try clear hlwn4_4_0)
  (try clear hlwn4_4_1)
  (try clear hlwn4_4_2)
  (try clear hxwn4c1)
  (try clear hxwn4f1)
  (try clear hxwn4z1)
  (try clear hlewn4_1)
  (try clear hlwn4_1_0)
  (try clear hlwn4_1_1)
  (try clear hlwn4_1_2)
  (try clear hxwn4c2)
  (try clear hxwn4f2)
  (try clear hxwn4z2)
  (try clear hlewn4_2)
  (try clear hlwn4_2_0)
  (try clear hlwn4_2_1)
  (try clear hlwn4_2_2)
  (try clear hxwn4c3)
  (try clear hxwn4f3)
  (try clear hxwn4z3)
  (try clear hlewn4_3)
  (try clear hlwn4_3_0)
  (try clear hlwn4_3_1)
  (try clear hlwn4_3_2)
  (try clear hxwn5c)
  (try clear hxwn5f)
  (try clear hxwn5z)
  (try clear hb5)
  (try clear KB5)
  (try clear hlewn5_5)
  (try clear hlwn5_5_0)
  (try clear hlwn5_5_1)
  (try clear hlwn5_5_2)
  (try clear hxwn5c1)
  (try clear hxwn5f1)
  (try clear hxwn5z1)
  (try clear hlewn5_1)
  (try clear hlwn5_1_0)
  (try clear hlwn5_1_1)
  (try clear hlwn5_1_2)
  (try clear hxwn5c2)
  (try clear hxwn5f2)
  (try clear hxwn5z2)
  (try clear hlewn5_2)
  (try clear hlwn5_2_0)
  (try clear hlwn5_2_1)
  (try clear hlwn5_2_2)
  (try clear hxwn5c3)
  (try clear hxwn5f3)
  (try clear hxwn5z3)
  (try clear hlewn5_3)
  (try clear hlwn5_3_0)
  (try clear hlwn5_3_1)
  (try clear hlwn5_3_2)
  (try clear hxwn5c4)
  (try clear hxwn5f4)
  (try clear hxwn5z4)
  (try clear hlewn5_4)
  (try clear hlwn5_4_0)
  (try clear hlwn5_4_1)
  (try clear hlwn5_4_2)
  obtain ⟨wb1, rfl⟩ : ∃ wb1 : World, wb1 = wn5 := ⟨_, rfl⟩
  clear TA TC
  have o6 : bC < wb1.heap.size := by omega
  have o7 : bA < wb1.heap.size := by omega
  generalize wn3.heap.size = gA at *
  generalize wn4.heap.size = gC at *
  have F1 := Lib.hid (fun w nm' cf' a' ts' l' c' rl' (hl' : l' = List.length ts') ht ht' (hne : nm ≠ nm' ∨ cf ≠ cf' ∨ ro ≠ rl' ∨ ts ≠ ts') => same_at nm cf (some ⟨bA, 0, none⟩) ts ts.length cA ro nm' cf' a' ts' l' c' rl' w false rfl hl' (by omega) ht ht' (sameR_ne hne))
  have F2 := Lib.hid (fun w nm' cf' a' ts' l' c' rl' (hl' : l' = List.length ts') (h1000 : ts'.length ≤ 1000) ht ht' (hne : nm ≠ nm' ∨ cf ≠ cf' ∨ ro ≠ rl' ∨ ts ≠ ts') => same_at nm' cf' a' ts' l' c' rl' nm cf (some ⟨bA, 0, none⟩) ts ts.length cA ro w false hl' rfl h1000 ht' ht (sameR_ne (by rcases hne with h | h | h | h; exact .inl h.symm; exact .inr (.inl h.symm); exact .inr (.inr (.inl h.symm)); exact .inr (.inr (.inr h.symm)))))
  go_wp2_with fail
  refine (WI.out _).mono ?_
  rintro e wx ⟨rfl, rfl⟩
  go_wp2_with fail
  refine (WH.out _).mono ?_
  rintro e wx ⟨rfl, rfl⟩
  have r1 := rl.1
  have r2 := rl.2
  have pk := PCS.out k hk
  have OK := OKS.out k hk
  have c012 := TC5.out.at hk
  clear rl WI WH HZ HY GA GB PCS
  rcases hq6 with rfl | rfl | rfl | rfl | rfl | rfl
  · clear FC5 c012 pk OK OC5
    go_wp2_with fail
    have HN : nm ≠ nm ++ ⟨#[120]⟩ := fun e => by
      have := congrArg ByteArray.size e
      rw [ByteArray.size_append] at this
      have h1 : (⟨#[120]⟩ : ByteArray).size = 1 := rfl
      omega
    have TA6 := tgts_far (p := ⟨gC, 0, none⟩) (v := .string (nm ++ ⟨#[120]⟩)) TA5.out (fun b off e => by cases e; show gC ≠ bA; omega)
    have TC6 := tgts_far (p := ⟨gC, 0, none⟩) (v := .string (nm ++ ⟨#[120]⟩)) TC5.out (fun b off e => by cases e; show gC ≠ bC; omega)
    have FF := F1.out _ (nm ++ ⟨#[120]⟩) (cf) (some ⟨bC, 0, none⟩) (ts) (ts.length) cC (ro) (rfl) TA6 TC6 (.inl HN)
    refine FF.mono ?_
    clear FF
    rintro e wn1 ⟨rfl, hb1⟩
    have LA := TA6.later hb1
    have LC := TC6.later hb1
    have FF := Lib.hid (F2.out _ (nm ++ ⟨#[120]⟩) (cf) (some ⟨bC, 0, none⟩) (ts) (ts.length) cC (ro) (rfl) (by omega) LA LC (.inl HN))
    clear TA6 TC6 LA LC
    have KB1 := Lib.hid (Evo.later hb1)
    have hxwn1c := (bcell hb1).1
    have hxwn1f := (bcell hb1).2.1
    have hxwn1z := (bcell hb1).2.2
    (try (have hlewn1_1 : wb1.heap.size ≤ wn1.heap.size := (by first | omega | (have hh := hxwn1z; (try simp at hh); omega))))
    (try (have hlwn1_1_0 : wb1.heap.size < wn1.heap.size := (by first | omega | (have hh := hxwn1z; (try simp at hh); omega))))
    (try (have hlwn1_1_1 : wb1.heap.size + 1 < wn1.heap.size := (by first | omega | (have hh := hxwn1z; (try simp at hh); omega))))
    (try (have hlwn1_1_2 : wb1.heap.size + 1 + 1 < wn1.heap.size := (by first | omega | (have hh := hxwn1z; (try simp at hh); omega))))
    go_wp2_with fail
    refine FF.out.mono ?_
    rintro e wn2 ⟨rfl, hb2⟩
    go_wp2_with fail
    go_ret
    exact ⟨rfl, Grow.G.trans (Grow.G.trans (Below.setCell GB1.out (by show w.heap.size ≤ gC; omega) _) hb1) hb2⟩
  · clear FC5 c012 pk OK OC5
    go_wp2_with fail
    have TA6 := tgts_far (p := ⟨gC, 1, none⟩) (v := .string ⟨#[113]⟩) TA5.out (fun b off e => by cases e; show gC ≠ bA; omega)
    have TC6 := tgts_far (p := ⟨gC, 1, none⟩) (v := .string ⟨#[113]⟩) TC5.out (fun b off e => by cases e; show gC ≠ bC; omega)
    have FF := F1.out _ (nm) (⟨#[113]⟩) (some ⟨bC, 0, none⟩) (ts) (ts.length) cC (ro) (rfl) TA6 TC6 (.inr (.inl HQ.out))
    refine FF.mono ?_
    clear FF
    rintro e wn1 ⟨rfl, hb1⟩
    have LA := TA6.later hb1
    have LC := TC6.later hb1
    have FF := Lib.hid (F2.out _ (nm) (⟨#[113]⟩) (some ⟨bC, 0, none⟩) (ts) (ts.length) cC (ro) (rfl) (by omega) LA LC (.inr (.inl HQ.out)))
    clear TA6 TC6 LA LC
    have KB1 := Lib.hid (Evo.later hb1)
    have hxwn1c := (bcell hb1).1
    have hxwn1f := (bcell hb1).2.1
    have hxwn1z := (bcell hb1).2.2
    (try (have hlewn1_1 : wb1.heap.size ≤ wn1.heap.size := (by first | omega | (have hh := hxwn1z; (try simp at hh); omega))))
    (try (have hlwn1_1_0 : wb1.heap.size < wn1.heap.size := (by first | omega | (have hh := hxwn1z; (try simp at hh); omega))))
    (try (have hlwn1_1_1 : wb1.heap.size + 1 < wn1.heap.size := (by first | omega | (have hh := hxwn1z; (try simp at hh); omega))))
    (try (have hlwn1_1_2 : wb1.heap.size + 1 + 1 < wn1.heap.size := (by first | omega | (have hh := hxwn1z; (try simp at hh); omega))))
    go_wp2_with fail
    refine FF.out.mono ?_
    rintro e wn2 ⟨rfl, hb2⟩
    go_wp2_with fail
    go_ret
    exact ⟨rfl, Grow.G.trans (Grow.G.trans (Below.setCell GB1.out (by show w.heap.size ≤ gC; omega) _) hb1) hb2⟩
  · clear FC5 c012 pk OK OC5
    go_wp2_with fail
    have HN : ro ≠ ro + 1 := by omega
    have TA6 := tgts_far (p := ⟨gC, 3, none⟩) (v := .int .i64 (ro + 1)) TA5.out (fun b off e => by cases e; show gC ≠ bA; omega)
    have TC6 := tgts_far (p := ⟨gC, 3, none⟩) (v := .int .i64 (ro + 1)) TC5.out (fun b off e => by cases e; show gC ≠ bC; omega)
    have FF := F1.out _ (nm) (cf) (some ⟨bC, 0, none⟩) (ts) (ts.length) cC (ro + 1) (rfl) TA6 TC6 (.inr (.inr (.inl HN)))
    refine FF.mono ?_
    clear FF
    rintro e wn1 ⟨rfl, hb1⟩
    have LA := TA6.later hb1
    have LC := TC6.later hb1
    have FF := Lib.hid (F2.out _ (nm) (cf) (some ⟨bC, 0, none⟩) (ts) (ts.length) cC (ro + 1) (rfl) (by omega) LA LC (.inr (.inr (.inl HN))))
    clear TA6 TC6 LA LC
    have KB1 := Lib.hid (Evo.later hb1)
    have hxwn1c := (bcell hb1).1
    have hxwn1f := (bcell hb1).2.1
    have hxwn1z := (bcell hb1).2.2
    (try (have hlewn1_1 : wb1.heap.size ≤ wn1.heap.size := (by first | omega | (have hh := hxwn1z; (try simp at hh); omega))))
    (try (have hlwn1_1_0 : wb1.heap.size < wn1.heap.size := (by first | omega | (have hh := hxwn1z; (try simp at hh); omega))))
    (try (have hlwn1_1_1 : wb1.heap.size + 1 < wn1.heap.size := (by first | omega | (have hh := hxwn1z; (try simp at hh); omega))))
    (try (have hlwn1_1_2 : wb1.heap.size + 1 + 1 < wn1.heap.size := (by first | omega | (have hh := hxwn1z; (try simp at hh); omega))))
    go_wp2_with fail
    refine FF.out.mono ?_
    rintro e wn2 ⟨rfl, hb2⟩
    go_wp2_with fail
    go_ret
    exact ⟨rfl, Grow.G.trans (Grow.G.trans (Below.setCell GB1.out (by show w.heap.size ≤ gC; omega) _) hb1) hb2⟩
  · clear OK OC5
    obtain ⟨b', off', hbo, c0, c1, c2⟩ := c012
    obtain ⟨rfl, rfl⟩ : bC = b' ∧ 0 = off' := by cases hbo; exact ⟨rfl, rfl⟩
    rw [Nat.zero_add] at c0 c1 c2
    clear hbo
    generalize hT : ts.getD k tg0 = t at *
    have TT := Lib.hid hT
    clear hT
    have p1 := pk.1
    have p2 := pk.2
    go_wp2_with fail
    have TA6 := tgts_far (p := ⟨bC, k * 3 + 1 + 1, none⟩) (v := .int .i64 (t.pc + 1)) TA5.out (fun b off e => by cases e; show bC ≠ bA; omega)
    have TC6 := tgts_set (j := 2) (v := .int .i64 (t.pc + 1)) (t := ⟨t.rv, t.tg, t.pc + 1⟩) TC5.out hk (by decide) (.inr (.inr ⟨rfl, rfl, by rw [TT.out], by rw [TT.out]⟩))
    have HN : ts ≠ ts.set k ⟨t.rv, t.tg, t.pc + 1⟩ := set_ne (d := tg0) hk (by rw [TT.out]; intro e; have := congrArg Tgt.pc e; simp only at this; omega)
    have FF := F1.out _ (nm) (cf) (some ⟨bC, 0, none⟩) (ts.set k ⟨t.rv, t.tg, t.pc + 1⟩) (ts.length) cC (ro) (by rw [List.length_set]) TA6 TC6 (.inr (.inr (.inr HN)))
    refine FF.mono ?_
    clear FF
    rintro e wn1 ⟨rfl, hb1⟩
    have LA := TA6.later hb1
    have LC := TC6.later hb1
    have FF := Lib.hid (F2.out _ (nm) (cf) (some ⟨bC, 0, none⟩) (ts.set k ⟨t.rv, t.tg, t.pc + 1⟩) (ts.length) cC (ro) (by rw [List.length_set]) (by rw [List.length_set]; omega) LA LC (.inr (.inr (.inr HN))))
    clear TA6 TC6 LA LC
    have KB1 := Lib.hid (Evo.later hb1)
    have hxwn1c := (bcell hb1).1
    have hxwn1f := (bcell hb1).2.1
    have hxwn1z := (bcell hb1).2.2
    (try (have hlewn1_1 : wb1.heap.size ≤ wn1.heap.size := (by first | omega | (have hh := hxwn1z; (try simp at hh); omega))))
    (try (have hlwn1_1_0 : wb1.heap.size < wn1.heap.size := (by first | omega | (have hh := hxwn1z; (try simp at hh); omega))))
    (try (have hlwn1_1_1 : wb1.heap.size + 1 < wn1.heap.size := (by first | omega | (have hh := hxwn1z; (try simp at hh); omega))))
    (try (have hlwn1_1_2 : wb1.heap.size + 1 + 1 < wn1.heap.size := (by first | omega | (have hh := hxwn1z; (try simp at hh); omega))))
    go_wp2_with fail
    refine FF.out.mono ?_
    rintro e wn2 ⟨rfl, hb2⟩
    go_wp2_with fail
    go_ret
    exact ⟨rfl, Grow.G.trans (Grow.G.trans (Below.setCell GB1.out (by show w.heap.size ≤ bC; omega) _) hb1) hb2⟩
  · clear OC5
    obtain ⟨b', off', hbo, c0, c1, c2⟩ := c012
    obtain ⟨rfl, rfl⟩ : bC = b' ∧ 0 = off' := by cases hbo; exact ⟨rfl, rfl⟩
    rw [Nat.zero_add] at c0 c1 c2
    clear hbo
    generalize hT : ts.getD k tg0 = t at *
    have TT := Lib.hid hT
    clear hT
    have p1 := pk.1
    have p2 := pk.2
    have z1 := OK.1
    have z2 : (⟨#[57]⟩ : ByteArray).size = 1 := rfl
    go_wp2_with fail
    refine Evo.start' (ℓ := some 12) (T := Grow.G) (by kernel_rfl) ⟨Evo.preG, by decide +kernel, (by intro c a d v w h; cases d <;> exact h), by decide +kernel⟩ (fun ok => ?_)
    first | (refine Evo.value ok 0 ?_ (by rfl) (by decide +kernel) (by rfl) ?_ ?_; rotate_left; (intro w' hg; go_simp <;> with_reducible rfl); simp only [Act.put, List.setIfInBounds_toArray, List.set_cons_zero, List.set_cons_succ]) | (refine Evo.value ok 0 ?_ (by rfl) (by decide +kernel) (by rfl) ?_ ?_; rotate_left; (intro w' hg; go_simp; rw [if_neg (by omega)]); simp only [Act.put, List.setIfInBounds_toArray, List.set_cons_zero, List.set_cons_succ])
    first | (refine Evo.value ok 1 ?_ (by rfl) (by decide +kernel) (by rfl) ?_ ?_; rotate_left; (intro w' hg; have hgc := (bcell hg).1; have hgf := (bcell hg).2.1; (try (have hlew_1 : wb1.heap.size ≤ w'.heap.size := (by first | omega | (have hh := (bcell hg).2.2; (try simp at hh); omega)))); (try (have hlw_1_0 : wb1.heap.size < w'.heap.size := (by first | omega | (have hh := (bcell hg).2.2; (try simp at hh); omega)))); (try (have hlw_1_1 : wb1.heap.size + 1 < w'.heap.size := (by first | omega | (have hh := (bcell hg).2.2; (try simp at hh); omega)))); (try (have hlw_1_2 : wb1.heap.size + 1 + 1 < w'.heap.size := (by first | omega | (have hh := (bcell hg).2.2; (try simp at hh); omega)))); go_simp <;> with_reducible rfl); simp only [Act.put, List.setIfInBounds_toArray, List.set_cons_zero, List.set_cons_succ]) | (refine Evo.value ok 1 ?_ (by rfl) (by decide +kernel) (by rfl) ?_ ?_; rotate_left; (intro w' hg; go_simp <;> with_reducible rfl); simp only [Act.put, List.setIfInBounds_toArray, List.set_cons_zero, List.set_cons_succ])
    first | (refine Evo.value ok 2 ?_ (by rfl) (by decide +kernel) (by rfl) ?_ ?_; rotate_left; (intro w' hg; go_simp <;> with_reducible rfl); simp only [Act.put, List.setIfInBounds_toArray, List.set_cons_zero, List.set_cons_succ]) | (refine Evo.value ok 2 ?_ (by rfl) (by decide +kernel) (by rfl) ?_ ?_; rotate_left; (intro w' hg; go_simp; rw [if_neg (by omega)]); simp only [Act.put, List.setIfInBounds_toArray, List.set_cons_zero, List.set_cons_succ])
    first | (refine Evo.value ok 3 ?_ (by rfl) (by decide +kernel) (by rfl) ?_ ?_; rotate_left; (intro w' hg; go_simp <;> with_reducible rfl); simp only [Act.put, List.setIfInBounds_toArray, List.set_cons_zero, List.set_cons_succ]) | (refine Evo.value ok 3 ?_ (by rfl) (by decide +kernel) (by rfl) ?_ ?_; rotate_left; (intro w' hg; go_simp; rw [if_neg (by omega)]); simp only [Act.put, List.setIfInBounds_toArray, List.set_cons_zero, List.set_cons_succ])
    first | (refine Evo.value ok 4 ?_ (by rfl) (by decide +kernel) (by rfl) ?_ ?_; rotate_left; (intro w' hg; have hgc := (bcell hg).1; have hgf := (bcell hg).2.1; (try (have hlew_1 : wb1.heap.size ≤ w'.heap.size := (by first | omega | (have hh := (bcell hg).2.2; (try simp at hh); omega)))); (try (have hlw_1_0 : wb1.heap.size < w'.heap.size := (by first | omega | (have hh := (bcell hg).2.2; (try simp at hh); omega)))); (try (have hlw_1_1 : wb1.heap.size + 1 < w'.heap.size := (by first | omega | (have hh := (bcell hg).2.2; (try simp at hh); omega)))); (try (have hlw_1_2 : wb1.heap.size + 1 + 1 < w'.heap.size := (by first | omega | (have hh := (bcell hg).2.2; (try simp at hh); omega)))); go_simp <;> with_reducible rfl); simp only [Act.put, List.setIfInBounds_toArray, List.set_cons_zero, List.set_cons_succ]) | (refine Evo.value ok 4 ?_ (by rfl) (by decide +kernel) (by rfl) ?_ ?_; rotate_left; (intro w' hg; go_simp <;> with_reducible rfl); simp only [Act.put, List.setIfInBounds_toArray, List.set_cons_zero, List.set_cons_succ])
    first | (refine Evo.value ok 5 ?_ (by rfl) (by decide +kernel) (by rfl) ?_ ?_; rotate_left; (intro w' hg; go_simp <;> with_reducible rfl); simp only [Act.put, List.setIfInBounds_toArray, List.set_cons_zero, List.set_cons_succ]) | (refine Evo.value ok 5 ?_ (by rfl) (by decide +kernel) (by rfl) ?_ ?_; rotate_left; (intro w' hg; go_simp; rw [if_neg (by omega)]); simp only [Act.put, List.setIfInBounds_toArray, List.set_cons_zero, List.set_cons_succ])
    first | (refine Evo.value ok 6 ?_ (by rfl) (by decide +kernel) (by rfl) ?_ ?_; rotate_left; (intro w' hg; go_simp <;> with_reducible rfl); simp only [Act.put, List.setIfInBounds_toArray, List.set_cons_zero, List.set_cons_succ]) | (refine Evo.value ok 6 ?_ (by rfl) (by decide +kernel) (by rfl) ?_ ?_; rotate_left; (intro w' hg; go_simp; rw [if_neg (by omega)]); simp only [Act.put, List.setIfInBounds_toArray, List.set_cons_zero, List.set_cons_succ])
    first | (refine Evo.value ok 7 ?_ (by rfl) (by decide +kernel) (by rfl) ?_ ?_; rotate_left; (intro w' hg; go_simp <;> with_reducible rfl); simp only [Act.put, List.setIfInBounds_toArray, List.set_cons_zero, List.set_cons_succ]) | (refine Evo.value ok 7 ?_ (by rfl) (by decide +kernel) (by rfl) ?_ ?_; rotate_left; (intro w' hg; go_simp; rw [if_neg (by omega)]); simp only [Act.put, List.setIfInBounds_toArray, List.set_cons_zero, List.set_cons_succ])
    first | (refine Evo.value ok 8 ?_ (by rfl) (by decide +kernel) (by rfl) ?_ ?_; rotate_left; (intro w' hg; have hgc := (bcell hg).1; have hgf := (bcell hg).2.1; (try (have hlew_1 : wb1.heap.size ≤ w'.heap.size := (by first | omega | (have hh := (bcell hg).2.2; (try simp at hh); omega)))); (try (have hlw_1_0 : wb1.heap.size < w'.heap.size := (by first | omega | (have hh := (bcell hg).2.2; (try simp at hh); omega)))); (try (have hlw_1_1 : wb1.heap.size + 1 < w'.heap.size := (by first | omega | (have hh := (bcell hg).2.2; (try simp at hh); omega)))); (try (have hlw_1_2 : wb1.heap.size + 1 + 1 < w'.heap.size := (by first | omega | (have hh := (bcell hg).2.2; (try simp at hh); omega)))); go_simp <;> with_reducible rfl); simp only [Act.put, List.setIfInBounds_toArray, List.set_cons_zero, List.set_cons_succ]) | (refine Evo.value ok 8 ?_ (by rfl) (by decide +kernel) (by rfl) ?_ ?_; rotate_left; (intro w' hg; go_simp <;> with_reducible rfl); simp only [Act.put, List.setIfInBounds_toArray, List.set_cons_zero, List.set_cons_succ])
    first | (refine Evo.value ok 9 ?_ (by rfl) (by decide +kernel) (by rfl) ?_ ?_; rotate_left; (intro w' hg; go_simp <;> with_reducible rfl); simp only [Act.put, List.setIfInBounds_toArray, List.set_cons_zero, List.set_cons_succ]) | (refine Evo.value ok 9 ?_ (by rfl) (by decide +kernel) (by rfl) ?_ ?_; rotate_left; (intro w' hg; go_simp; rw [if_neg (by omega)]); simp only [Act.put, List.setIfInBounds_toArray, List.set_cons_zero, List.set_cons_succ])
    first | (refine Evo.value ok 10 ?_ (by rfl) (by decide +kernel) (by rfl) ?_ ?_; rotate_left; (intro w' hg; go_simp <;> with_reducible rfl); simp only [Act.put, List.setIfInBounds_toArray, List.set_cons_zero, List.set_cons_succ]) | (refine Evo.value ok 10 ?_ (by rfl) (by decide +kernel) (by rfl) ?_ ?_; rotate_left; (intro w' hg; go_simp; rw [if_neg (by omega)]); simp only [Act.put, List.setIfInBounds_toArray, List.set_cons_zero, List.set_cons_succ])
    first | (refine Evo.value ok 11 ?_ (by rfl) (by decide +kernel) (by rfl) ?_ ?_; rotate_left; (intro w' hg; go_simp <;> with_reducible rfl); simp only [Act.put, List.setIfInBounds_toArray, List.set_cons_zero, List.set_cons_succ]) | (refine Evo.value ok 11 ?_ (by rfl) (by decide +kernel) (by rfl) ?_ ?_; rotate_left; (intro w' hg; go_simp; rw [if_neg (by omega)]); simp only [Act.put, List.setIfInBounds_toArray, List.set_cons_zero, List.set_cons_succ])
    refine Evo.all [12] (by decide +kernel) rfl ?_
    intro wn1 hb1 iq1 hq1
    have KB1 := Lib.hid (Evo.later hb1)
    have hxwn1c := (bcell hb1).1
    have hxwn1f := (bcell hb1).2.1
    have hxwn1z := (bcell hb1).2.2
    (try (have hlewn1_1 : wb1.heap.size ≤ wn1.heap.size := (by first | omega | (have hh := hxwn1z; (try simp at hh); omega))))
    (try (have hlwn1_1_0 : wb1.heap.size < wn1.heap.size := (by first | omega | (have hh := hxwn1z; (try simp at hh); omega))))
    (try (have hlwn1_1_1 : wb1.heap.size + 1 < wn1.heap.size := (by first | omega | (have hh := hxwn1z; (try simp at hh); omega))))
    (try (have hlwn1_1_2 : wb1.heap.size + 1 + 1 < wn1.heap.size := (by first | omega | (have hh := hxwn1z; (try simp at hh); omega))))
    simp only [List.mem_cons, List.mem_nil_iff, or_false] at hq1
    subst hq1
    refine Evo.runs (by rfl) (by rfl) (fun K' hK' => ?_)
    go_simp
    (try (simp only [Evo.after_value, Evo.after_skip]))
    refine hK'.out _ _ ?_
    clear hK'
    simp only [Act.put, List.setIfInBounds_toArray, List.set_cons_zero, List.set_cons_succ]
    refine ⟨.inl (by first | rfl | trivial), ?_⟩
    refine Evo.done (by decide +kernel) (fun wn2 hb2 => ?_)
    have KB2 := Lib.hid (Evo.later hb2)
    have hxwn2c := (bcell hb2).1
    have hxwn2f := (bcell hb2).2.1
    have hxwn2z := (bcell hb2).2.2
    (try (have hlewn2_2 : wn1.heap.size ≤ wn2.heap.size := (by first | omega | (have hh := hxwn2z; (try simp at hh); omega))))
    (try (have hlwn2_2_0 : wn1.heap.size < wn2.heap.size := (by first | omega | (have hh := hxwn2z; (try simp at hh); omega))))
    (try (have hlwn2_2_1 : wn1.heap.size + 1 < wn2.heap.size := (by first | omega | (have hh := hxwn2z; (try simp at hh); omega))))
    (try (have hlwn2_2_2 : wn1.heap.size + 1 + 1 < wn2.heap.size := (by first | omega | (have hh := hxwn2z; (try simp at hh); omega))))
    (try (refine Evo.laterK KB1.out wn2 ?_ (fun hxwn2c1 hxwn2f1 hxwn2z1 => ?_); (focus ((repeat (first | with_reducible exact Grow.G.refl _ | with_reducible exact Below.refl _ _ | with_reducible refine Grow.G.alloc ?_ _ | with_reducible refine Grow.G.trans ?_ hb2 | with_reducible refine Grow.G.trans ?_ hb1 | ((with_reducible refine Below.setCell ?_ ?_ _); rotate_left; (focus (first | omega | (simp; done) | (simp; omega)))))); all_goals fail))))
    (try (have hlewn2_1 : wb1.heap.size ≤ wn2.heap.size := (by first | omega | (have hh := hxwn2z1; (try simp at hh); omega))))
    (try (have hlwn2_1_0 : wb1.heap.size < wn2.heap.size := (by first | omega | (have hh := hxwn2z1; (try simp at hh); omega))))
    (try (have hlwn2_1_1 : wb1.heap.size + 1 < wn2.heap.size := (by first | omega | (have hh := hxwn2z1; (try simp at hh); omega))))
    (try (have hlwn2_1_2 : wb1.heap.size + 1 + 1 < wn2.heap.size := (by first | omega | (have hh := hxwn2z1; (try simp at hh); omega))))
    have m1 : gA < wn1.heap.size := by omega
    have m2 : gC < wn1.heap.size := by omega
    have m3 : gA < wn2.heap.size := by omega
    have m4 : gC < wn2.heap.size := by omega
    have ne1 : ¬ gA = bC := by omega
    have ne2 : ¬ gC = bC := by omega
    go_wp2_with fail
    have TA6 := (tgts_far (p := ⟨bC, k * 3 + 0, none⟩) (v := .string (t.rv ++ ⟨#[57]⟩)) (TA5.out.later hb1) (fun b off e => by cases e; show bC ≠ bA; omega)).later hb2
    have TC6 := (tgts_set (j := 0) (v := .string (t.rv ++ ⟨#[57]⟩)) (t := ⟨t.rv ++ ⟨#[57]⟩, t.tg, t.pc⟩) (TC5.out.later hb1) hk (by decide) (.inl ⟨rfl, rfl, by rw [TT.out], by rw [TT.out]⟩)).later hb2
    have HN : ts ≠ ts.set k ⟨t.rv ++ ⟨#[57]⟩, t.tg, t.pc⟩ := set_ne (d := tg0) hk (by
      rw [TT.out]; intro e
      have := congrArg (fun t => ByteArray.size (Tgt.rv t)) e
      simp only at this
      rw [ByteArray.size_append] at this
      have h1 : (⟨#[57]⟩ : ByteArray).size = 1 := rfl
      omega)
    have FF := F1.out _ (nm) (cf) (some ⟨bC, 0, none⟩) (ts.set k ⟨t.rv ++ ⟨#[57]⟩, t.tg, t.pc⟩) (ts.length) cC (ro) (by rw [List.length_set]) TA6 TC6 (.inr (.inr (.inr HN)))
    refine FF.mono ?_
    clear FF
    rintro e wn3 ⟨rfl, hb3⟩
    have LA := TA6.later hb3
    have LC := TC6.later hb3
    have FF := Lib.hid (F2.out _ (nm) (cf) (some ⟨bC, 0, none⟩) (ts.set k ⟨t.rv ++ ⟨#[57]⟩, t.tg, t.pc⟩) (ts.length) cC (ro) (by rw [List.length_set]) (by rw [List.length_set]; omega) LA LC (.inr (.inr (.inr HN))))
    clear TA6 TC6 LA LC
    have KB3 := Lib.hid (Evo.later hb3)
    have hxwn3c := (bcell hb3).1
    have hxwn3f := (bcell hb3).2.1
    have hxwn3z := (bcell hb3).2.2
    (try (have hlewn3_3 : wn2.heap.size ≤ wn3.heap.size := (by first | omega | (have hh := hxwn3z; (try simp at hh); omega))))
    (try (have hlwn3_3_0 : wn2.heap.size < wn3.heap.size := (by first | omega | (have hh := hxwn3z; (try simp at hh); omega))))
    (try (have hlwn3_3_1 : wn2.heap.size + 1 < wn3.heap.size := (by first | omega | (have hh := hxwn3z; (try simp at hh); omega))))
    (try (have hlwn3_3_2 : wn2.heap.size + 1 + 1 < wn3.heap.size := (by first | omega | (have hh := hxwn3z; (try simp at hh); omega))))
    (try (refine Evo.laterK KB1.out wn3 ?_ (fun hxwn3c1 hxwn3f1 hxwn3z1 => ?_); (focus ((repeat (first | with_reducible exact Grow.G.refl _ | with_reducible exact Below.refl _ _ | with_reducible refine Grow.G.alloc ?_ _ | with_reducible refine Grow.G.trans ?_ hb3 | with_reducible refine Grow.G.trans ?_ hb2 | with_reducible refine Grow.G.trans ?_ hb1 | ((with_reducible refine Below.setCell ?_ ?_ _); rotate_left; (focus (first | omega | (simp; done) | (simp; omega)))))); all_goals fail))))
    (try (have hlewn3_1 : wb1.heap.size ≤ wn3.heap.size := (by first | omega | (have hh := hxwn3z1; (try simp at hh); omega))))
    (try (have hlwn3_1_0 : wb1.heap.size < wn3.heap.size := (by first | omega | (have hh := hxwn3z1; (try simp at hh); omega))))
    (try (have hlwn3_1_1 : wb1.heap.size + 1 < wn3.heap.size := (by first | omega | (have hh := hxwn3z1; (try simp at hh); omega))))
    (try (have hlwn3_1_2 : wb1.heap.size + 1 + 1 < wn3.heap.size := (by first | omega | (have hh := hxwn3z1; (try simp at hh); omega))))
    (try (refine Evo.laterK KB2.out wn3 ?_ (fun hxwn3c2 hxwn3f2 hxwn3z2 => ?_); (focus ((repeat (first | with_reducible exact Grow.G.refl _ | with_reducible exact Below.refl _ _ | with_reducible refine Grow.G.alloc ?_ _ | with_reducible refine Grow.G.trans ?_ hb3 | with_reducible refine Grow.G.trans ?_ hb2 | with_reducible refine Grow.G.trans ?_ hb1 | ((with_reducible refine Below.setCell ?_ ?_ _); rotate_left; (focus (first | omega | (simp; done) | (simp; omega)))))); all_goals fail))))
    (try (have hlewn3_2 : wn1.heap.size ≤ wn3.heap.size := (by first | omega | (have hh := hxwn3z2; (try simp at hh); omega))))
    (try (have hlwn3_2_0 : wn1.heap.size < wn3.heap.size := (by first | omega | (have hh := hxwn3z2; (try simp at hh); omega))))
    (try (have hlwn3_2_1 : wn1.heap.size + 1 < wn3.heap.size := (by first | omega | (have hh := hxwn3z2; (try simp at hh); omega))))
    (try (have hlwn3_2_2 : wn1.heap.size + 1 + 1 < wn3.heap.size := (by first | omega | (have hh := hxwn3z2; (try simp at hh); omega))))
    go_wp2_with fail
    refine FF.out.mono ?_
    rintro e wn4 ⟨rfl, hb4⟩
    go_wp2_with fail
    go_ret
    exact ⟨rfl, Grow.G.trans (Grow.G.trans (Grow.G.trans (Below.setCell (Grow.G.trans GB1.out hb1) (by show w.heap.size ≤ bC; omega) _) hb2) hb3) hb4⟩
  · clear FC5 c012 pk OK
    obtain ⟨i0, hi, hz0, hz1, hz2⟩ := info_parts infoT
    have HI := Lib.hid hi; have HZ0 := Lib.hid hz0; have HZ1 := Lib.hid hz1; have HZ2 := Lib.hid hz2
    clear hi hz0 hz1 hz2
    go_wp2_with (at_builtin; refine wpList_append_own _ rfl _ _ 33 rfl w.heap.size 41 i0 (.agg #[.string ⟨#[]⟩, .string ⟨#[]⟩, .int .i64 0]) 3 40 Try.underlying33 HI.out HZ0.out HZ1.out HZ2.out rfl (by decide) _ _ _ rfl (own_later OC5.out ?_) _ 1 1 [_, _, _] rfl rfl (news_new _ [_, _, _] _ _ ?_) ?_ ?_ ?_ ?_ ?_)
    · (repeat (first | with_reducible exact Grow.G.refl _ | with_reducible exact Below.refl _ _ | with_reducible refine Grow.G.alloc ?_ _ | with_reducible refine Grow.G.trans ?_ hb1 | ((with_reducible refine Below.setCell ?_ ?_ _); rotate_left; (focus (first | omega | (simp; done) | (simp; omega)))) | with_reducible assumption | with_reducible refine Grow.G.trans ?_ (by with_reducible assumption)))
    · rfl
    · intro u hu; simp at hu; rcases hu with rfl | rfl | rfl <;> rfl
    · unfold maxLen; omega
    · omega
    · simp; omega
    · intro v' w1 hown hgr _
      obtain ⟨bD, cD, rfl, hbD⟩ := own_some hown (by omega)
      have hown' : w1.ownsRow w.heap.size 41 3 (.slice (some ⟨bD, 0, none⟩) (ts.length + 1) cD) (ts.length + 1) (flatT (ts ++ [tg0])) := by
        unfold flatT at *
        simpa [List.flatMap_append, tg0] using hown
      have TC1 := Lib.hid (own_tgts hown').2.1
      have hblk : ∀ b, b < wb1.heap.size → b ≠ bC → w1.heap[b]? = wb1.heap[b]? := fun b hb hne => (hgr.block b (by simp; omega) (fun e => hne (by cases e; rfl))).trans (Below.heap_alloc wb1 _ b hb)
      have hcl : ∀ b, b < wb1.heap.size → b ≠ bC → ∀ o, w1.cell? ⟨b, o, none⟩ = wb1.cell? ⟨b, o, none⟩ := fun b hb hne o => World.cell?_of_block (w := wb1) (w' := w1) (a := ⟨b, o, none⟩) (hblk b hb hne)
      have hfr : ∀ b, b < wb1.heap.size → b ≠ bC → ∀ o, w1.frozen? ⟨b, o, none⟩ = wb1.frozen? ⟨b, o, none⟩ := fun b hb hne o => World.frozen?_of_block (w := wb1) (w' := w1) (a := ⟨b, o, none⟩) (hblk b hb hne)
      have hgA := hcl gA r1_0z (by omega)
      have hgC := hcl gC r1_4z (by omega)
      have hfC := hfr gC r1_4z (by omega)
      have q0 := (hgA 0).trans r1_0
      have q1 := (hgA 1).trans r1_1
      have q2 := (hgA 2).trans r1_2
      have q3 := (hgA 3).trans r1_3
      have q4 := (hgC 0).trans r1_4
      have q5 := (hgC 1).trans r1_5
      have q6 := (hgC 2).trans r1_6
      have q7 := (hgC 3).trans r1_7
      have q8 := (hfC 2).trans r1_6f
      have TA1 : Hid (TgtSl w1 (some ⟨bA, 0, none⟩) ts) := Lib.hid (by
        rcases TA5.out with h | ⟨b, off, e, h⟩
        · exact .inl h
        · cases e
          have hA := hcl bA o7 (by omega)
          exact .inr ⟨bA, 0, rfl, fun i hi => ⟨(hA _).trans (h i hi).c0, (hA _).trans (h i hi).c1, (hA _).trans (h i hi).c2⟩⟩)
      have hne : gC ≠ bD := fun e => by
        subst e
        obtain ⟨b', off', hbo, d0, d1, d2⟩ := TC1.out.at (show 0 < (ts ++ [tg0]).length by simp)
        cases hbo
        have := q6.symm.trans d2
        cases this
      have GG := Lib.hid (own_grow (Grow.G.alloc GB1.out _) (own_later OC5.out (show Grow.G wb1 _ by (repeat (first | with_reducible exact Grow.G.refl _ | with_reducible exact Below.refl _ _ | with_reducible refine Grow.G.alloc ?_ _ | with_reducible refine Grow.G.trans ?_ hb1 | ((with_reducible refine Below.setCell ?_ ?_ _); rotate_left; (focus (first | omega | (simp; done) | (simp; omega)))) | with_reducible assumption | with_reducible refine Grow.G.trans ?_ (by with_reducible assumption))))) (Nat.le_refl _) hgr)
      have l1 : gC < w1.heap.size := Nat.lt_of_lt_of_le (show gC < _ by simp; omega) hgr.size
      have l2 : gA < w1.heap.size := by omega
      have ne1 : ¬ gA = gC := by omega
      clear hown hgr hown' hblk hcl hfr hgA hgC hfC r1_0 r1_1 r1_2 r1_3 r1_4 r1_5 r1_6 r1_7 r1_4f r1_5f r1_6f r1_7f
      go_wp2_with fail
      have TA6 := tgts_far (p := ⟨gC, 2, none⟩) (v := .slice (some ⟨bD, 0, none⟩) (ts.length + 1) cD) TA1.out (fun b off e => by cases e; show gC ≠ bA; omega)
      have TC6 := tgts_far (p := ⟨gC, 2, none⟩) (v := .slice (some ⟨bD, 0, none⟩) (ts.length + 1) cD) TC1.out (fun b off e => by cases e; exact hne)
      have HN : ts ≠ ts ++ [tg0] := fun e => by have := congrArg List.length e; rw [List.length_append] at this; simp at this
      have FF := F1.out _ (nm) (cf) (some ⟨bD, 0, none⟩) (ts ++ [tg0]) (ts.length + 1) cD (ro) (by simp) TA6 TC6 (.inr (.inr (.inr HN)))
      refine FF.mono ?_
      clear FF
      rintro e wn1 ⟨rfl, hb1⟩
      have LA := TA6.later hb1
      have LC := TC6.later hb1
      have FF := Lib.hid (F2.out _ (nm) (cf) (some ⟨bD, 0, none⟩) (ts ++ [tg0]) (ts.length + 1) cD (ro) (by simp) (by rw [List.length_append]; simp; omega) LA LC (.inr (.inr (.inr HN))))
      clear TA6 TC6 LA LC
      have KB1 := Lib.hid (Evo.later hb1)
      have hxwn1c := (bcell hb1).1
      have hxwn1f := (bcell hb1).2.1
      have hxwn1z := (bcell hb1).2.2
      (try (have hlewn1_1 : wb1.heap.size ≤ wn1.heap.size := (by first | omega | (have hh := hxwn1z; (try simp at hh); omega))))
      (try (have hlwn1_1_0 : wb1.heap.size < wn1.heap.size := (by first | omega | (have hh := hxwn1z; (try simp at hh); omega))))
      (try (have hlwn1_1_1 : wb1.heap.size + 1 < wn1.heap.size := (by first | omega | (have hh := hxwn1z; (try simp at hh); omega))))
      (try (have hlwn1_1_2 : wb1.heap.size + 1 + 1 < wn1.heap.size := (by first | omega | (have hh := hxwn1z; (try simp at hh); omega))))
      go_wp2_with fail
      refine FF.out.mono ?_
      rintro e wn2 ⟨rfl, hb2⟩
      go_wp2_with fail
      go_ret
      exact ⟨rfl, Grow.G.trans (Grow.G.trans (Below.setCell GG.out (by show w.heap.size ≤ gC; omega) _) hb1) hb2⟩
end Go.Proofs.Ytpmhmegjckhbmaa

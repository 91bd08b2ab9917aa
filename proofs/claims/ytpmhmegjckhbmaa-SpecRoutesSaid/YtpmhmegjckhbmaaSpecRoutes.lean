/- The walk of SpecRoutes. -/
import Derived.Test.YtpmhmegjckhbmaaSameP
import Derived.Test.YtpmhmegjckhbmaaEvo
import Derived.Test.YtpmhmegjckhbmaaArgT
import Derived.Test.YtpmhmegjckhbmaaZeros
namespace Go.Proofs.Ytpmhmegjckhbmaa
set_option linter.unusedVariables false
set_option linter.unusedSimpArgs false
set_option linter.unnecessarySimpa false
open Go.RowKit

set_option maxRecDepth 100000 in
set_option maxHeartbeats 8000000 in
theorem walkSpecRoutes (w : World) (rn rc : ByteArray) (ra : Option Addr) (rs : List Tgt) (rcap : Nat) (rr : Int) (hR : RtIn w rn rc ra rs rcap rr) (name : Int) (hn : wf64 name) (v : Value) (zs : List Int) (hz : IntSlice w v zs) (roll : Int) (hr : wf64 roll) (which : Int) (hw : wf64 which) (at0 : Int) (ha : wf64 at0) (n : Int) (hnn : wf64 n) (u : Value) (ys : List Int) (hy : IntSlice w u ys) :
    Calls Try.prog 4 #[rtV rn rc (.slice ra rs.length rcap) rr, .int .i64 name, v, .int .i64 roll, .int .i64 which, .int .i64 at0, .int .i64 n, u] w fun e w' => e = .returned (.bool true) ∧ Below w.heap.size w w' := by
  obtain ⟨hn1, hn2, hrr, hrt, hrk, hrl⟩ := hR
  have HZ := Lib.hid hz
  have HY := Lib.hid hy
  have HRT := Lib.hid hrt
  have FE := Lib.hid (fun w => few_any rn rc ra rs.length rcap rr w (by unfold maxLen; omega) (by unfold maxLen; omega))
  obtain ⟨x, hx⟩ : ∃ x, routeE rn rc rs rr = x := ⟨_, rfl⟩
  have R1 := Lib.hid (fun w (h : TgtSl w ra rs) => route_any rn rc ra rs rcap rr w (by unfold maxLen; omega) (by unfold maxLen; omega) hrl h hrk)
  have R2 := Lib.hid (fun w (h : TgtSl w ra rs) => rroute_any rn rc ra rs rcap rr w (by unfold maxLen; omega) (by unfold maxLen; omega) hrl h hrk)
  rw [hx] at R1 R2
  unfold rtV at FE R1 R2 ⊢
  have GA := Lib.hid (fun w (h : IntSlice w v zs) => groute_own name v zs roll w hn h hr)
  unfold RtOwn at GA
  have LN := gTs_len (rtCf name) zs
  have N6 := nT_range zs
  rw [← LN] at N6
  clear LN hz hy hx hrt hrk
  have PCS := Lib.hid (gTs_pc name zs)
  have OKS := Lib.hid (gTs_ok name zs)
  have rl := withinI_range roll 61 (by omega)
  have E0 := Lib.hid (gRoute_ok name zs (withinI roll 61) (by omega))
  have s0 := rtName_size name
  have s1 : (rtCf name).size ≤ 3 := (name3_ok (name.tdiv 3)).2
  have r9 := withinI_range which 9 (by omega)
  have WH := Lib.hid (fun w => within2_any which 9 w (by omega) (by omega) hw.1 hw.2)
  generalize gTs (rtCf name) zs = ts at *
  generalize rtName name = nm at *
  generalize rtCf name = cf at *
  generalize withinI roll 61 = ro at *
  generalize withinI which 9 = q at *
  have rk := withinI_range at0 ts.length (by omega)
  have WI := Lib.hid (fun w => within2_any at0 ts.length w (by omega) (by omega) ha.1 ha.2)
  generalize withinI at0 ts.length = k0 at *
  obtain ⟨k, rfl⟩ := Int.eq_ofNat_of_zero_le rk.1
  have hk : k < ts.length := by omega
  have hk1 : (k : Int) < (ts.length : Int) := by omega
  have hk0 : (0 : Int) ≤ (k : Int) := by omega
  have hq9 : q = 0 ∨ q = 1 ∨ q = 2 ∨ q = 3 ∨ q = 4 ∨ q = 5 ∨ q = 6 ∨ q = 7 ∨ q = 8 := by omega
  have hxx : (x != x) = false := by simp
  have W4 := Lib.hid (fun w => within2_any n 4 w (by omega) (by omega) hnn.1 hnn.2)
  have W7 := Lib.hid (fun w => within2_any n 7 w (by omega) (by omega) hnn.1 hnn.2)
  have WL := Lib.hid (fun w => within2_any n ts.length w (by omega) (by omega) hnn.1 hnn.2)
  have r4 := withinI_range n 4 (by omega)
  have r7 := withinI_range n 7 (by omega)
  have rL := withinI_range n ts.length (by omega)
  generalize withinI n 4 = q4 at *
  generalize withinI n 7 = q7 at *
  generalize withinI n ts.length = qL at *
  obtain ⟨k4, rfl⟩ := Int.eq_ofNat_of_zero_le r4.1
  obtain ⟨k7, rfl⟩ := Int.eq_ofNat_of_zero_le r7.1
  obtain ⟨kL, rfl⟩ := Int.eq_ofNat_of_zero_le rL.1
  have a4 : k4 < 4 := by omega
  have a7 : k7 < 7 := by omega
  have aL : kL < ts.length := by omega
  have a0 := r4.1; have a1 := r4.2; have a2 := r7.1; have a3 := r7.2; have a5 := rL.1; have a6 := rL.2
  clear r4 r7 rL
  clear ha rk hw hn hr r9
  by_cases hf : (decide (rs.length ≤ 12) && decide (rn.size ≤ 60) && decide (rc.size ≤ 60)) = true
  · rw [hf] at FE
    clear hf
    go_enter Try.func4, Try.ntmps4
    go_wp2_with fail
    refine (known2_any _).mono ?_
    rintro e wn1 ⟨rfl, hb1⟩
    have KB1 := Lib.hid (Evo.later hb1)
    have hxwn1c := (bcell hb1).1
    have hxwn1f := (bcell hb1).2.1
    have hxwn1z := (bcell hb1).2.2
    (try (have hlewn1_1 : w.heap.size ≤ wn1.heap.size := (by first | omega | (have hh := hxwn1z; (try simp at hh); omega))))
    (try (have hlwn1_1_0 : w.heap.size < wn1.heap.size := (by first | omega | (have hh := hxwn1z; (try simp at hh); omega))))
    (try (have hlwn1_1_1 : w.heap.size + 1 < wn1.heap.size := (by first | omega | (have hh := hxwn1z; (try simp at hh); omega))))
    (try (have hlwn1_1_2 : w.heap.size + 1 + 1 < wn1.heap.size := (by first | omega | (have hh := hxwn1z; (try simp at hh); omega))))
    go_wp2_with fail
    refine (FE.out _).mono ?_
    rintro e wn2 ⟨rfl, hb2⟩
    have KB2 := Lib.hid (Evo.later hb2)
    have hxwn2c := (bcell hb2).1
    have hxwn2f := (bcell hb2).2.1
    have hxwn2z := (bcell hb2).2.2
    (try (have hlewn2_2 : wn1.heap.size ≤ wn2.heap.size := (by first | omega | (have hh := hxwn2z; (try simp at hh); omega))))
    (try (have hlwn2_2_0 : wn1.heap.size < wn2.heap.size := (by first | omega | (have hh := hxwn2z; (try simp at hh); omega))))
    (try (have hlwn2_2_1 : wn1.heap.size + 1 < wn2.heap.size := (by first | omega | (have hh := hxwn2z; (try simp at hh); omega))))
    (try (have hlwn2_2_2 : wn1.heap.size + 1 + 1 < wn2.heap.size := (by first | omega | (have hh := hxwn2z; (try simp at hh); omega))))
    (try (refine Evo.laterK KB1.out wn2 ?_ (fun hxwn2c1 hxwn2f1 hxwn2z1 => ?_); (focus ((repeat (first | with_reducible exact Grow.G.refl _ | with_reducible exact Below.refl _ _ | with_reducible refine Grow.G.alloc ?_ _ | with_reducible refine Grow.G.trans ?_ hb2 | with_reducible refine Grow.G.trans ?_ hb1 | ((with_reducible refine Below.setCell ?_ ?_ _); rotate_left; (focus (first | omega | (simp; done) | (simp; omega)))))); all_goals fail))))
    (try (have hlewn2_1 : w.heap.size ≤ wn2.heap.size := (by first | omega | (have hh := hxwn2z1; (try simp at hh); omega))))
    (try (have hlwn2_1_0 : w.heap.size < wn2.heap.size := (by first | omega | (have hh := hxwn2z1; (try simp at hh); omega))))
    (try (have hlwn2_1_1 : w.heap.size + 1 < wn2.heap.size := (by first | omega | (have hh := hxwn2z1; (try simp at hh); omega))))
    (try (have hlwn2_1_2 : w.heap.size + 1 + 1 < wn2.heap.size := (by first | omega | (have hh := hxwn2z1; (try simp at hh); omega))))
    go_wp2_with fail
    refine (GA.out _ (HZ.out.below (Grow.G.trans (by (repeat (first | with_reducible exact Grow.G.refl _ | with_reducible exact Below.refl _ _ | with_reducible refine Grow.G.alloc ?_ _ | with_reducible refine Grow.G.trans ?_ hb3 | with_reducible refine Grow.G.trans ?_ hb2 | with_reducible refine Grow.G.trans ?_ hb1 | ((with_reducible refine Below.setCell ?_ ?_ _); rotate_left; (focus (first | omega | (simp; done) | (simp; omega)))) | with_reducible assumption | with_reducible refine Grow.G.trans ?_ (by with_reducible assumption)))) hb2))).mono ?_
    rintro e wn3 ⟨bC, cC, rfl, OC, hb3⟩
    have OC := Lib.hid OC
    have KB3 := Lib.hid (Evo.later hb3)
    have hxwn3c := (bcell hb3).1
    have hxwn3f := (bcell hb3).2.1
    have hxwn3z := (bcell hb3).2.2
    (try (have hlewn3_3 : wn2.heap.size ≤ wn3.heap.size := (by first | omega | (have hh := hxwn3z; (try simp at hh); omega))))
    (try (have hlwn3_3_0 : wn2.heap.size < wn3.heap.size := (by first | omega | (have hh := hxwn3z; (try simp at hh); omega))))
    (try (have hlwn3_3_1 : wn2.heap.size + 1 < wn3.heap.size := (by first | omega | (have hh := hxwn3z; (try simp at hh); omega))))
    (try (have hlwn3_3_2 : wn2.heap.size + 1 + 1 < wn3.heap.size := (by first | omega | (have hh := hxwn3z; (try simp at hh); omega))))
    (try (refine Evo.laterK KB1.out wn3 ?_ (fun hxwn3c1 hxwn3f1 hxwn3z1 => ?_); (focus ((repeat (first | with_reducible exact Grow.G.refl _ | with_reducible exact Below.refl _ _ | with_reducible refine Grow.G.alloc ?_ _ | with_reducible refine Grow.G.trans ?_ hb3 | with_reducible refine Grow.G.trans ?_ hb2 | with_reducible refine Grow.G.trans ?_ hb1 | ((with_reducible refine Below.setCell ?_ ?_ _); rotate_left; (focus (first | omega | (simp; done) | (simp; omega)))))); all_goals fail))))
    (try (have hlewn3_1 : w.heap.size ≤ wn3.heap.size := (by first | omega | (have hh := hxwn3z1; (try simp at hh); omega))))
    (try (have hlwn3_1_0 : w.heap.size < wn3.heap.size := (by first | omega | (have hh := hxwn3z1; (try simp at hh); omega))))
    (try (have hlwn3_1_1 : w.heap.size + 1 < wn3.heap.size := (by first | omega | (have hh := hxwn3z1; (try simp at hh); omega))))
    (try (have hlwn3_1_2 : w.heap.size + 1 + 1 < wn3.heap.size := (by first | omega | (have hh := hxwn3z1; (try simp at hh); omega))))
    (try (refine Evo.laterK KB2.out wn3 ?_ (fun hxwn3c2 hxwn3f2 hxwn3z2 => ?_); (focus ((repeat (first | with_reducible exact Grow.G.refl _ | with_reducible exact Below.refl _ _ | with_reducible refine Grow.G.alloc ?_ _ | with_reducible refine Grow.G.trans ?_ hb3 | with_reducible refine Grow.G.trans ?_ hb2 | with_reducible refine Grow.G.trans ?_ hb1 | ((with_reducible refine Below.setCell ?_ ?_ _); rotate_left; (focus (first | omega | (simp; done) | (simp; omega)))))); all_goals fail))))
    (try (have hlewn3_2 : wn1.heap.size ≤ wn3.heap.size := (by first | omega | (have hh := hxwn3z2; (try simp at hh); omega))))
    (try (have hlwn3_2_0 : wn1.heap.size < wn3.heap.size := (by first | omega | (have hh := hxwn3z2; (try simp at hh); omega))))
    (try (have hlwn3_2_1 : wn1.heap.size + 1 < wn3.heap.size := (by first | omega | (have hh := hxwn3z2; (try simp at hh); omega))))
    (try (have hlwn3_2_2 : wn1.heap.size + 1 + 1 < wn3.heap.size := (by first | omega | (have hh := hxwn3z2; (try simp at hh); omega))))
    go_wp2_with fail
    have TC := Lib.hid (own_tgts OC.out).2.1
    have R3 := Lib.hid (fun w (h : TgtSl w (some ⟨bC, 0, none⟩) ts) => route_at nm cf (some ⟨bC, 0, none⟩) ts ts.length cC ro w 0 rfl (by omega) (by omega) (by omega) h OKS.out E0.out)
    refine Evo.start' (ℓ := none) (T := Grow.G) (by kernel_rfl) ⟨Evo.preG, by decide +kernel, (by intro c a d v w h; cases d <;> exact h), by decide +kernel⟩ (fun ok => ?_)
    first | (refine Evo.value ok 0 ?_ (by rfl) (by decide +kernel) (by rfl) ?_ ?_; rotate_left; (intro w' hg; have hgc := (bcell hg).1; have hgf := (bcell hg).2.1; (try (have hlew_4 : wn3.heap.size ≤ w'.heap.size := (by first | omega | (have hh := (bcell hg).2.2; (try simp at hh); omega)))); (try (have hlw_4_0 : wn3.heap.size < w'.heap.size := (by first | omega | (have hh := (bcell hg).2.2; (try simp at hh); omega)))); (try (have hlw_4_1 : wn3.heap.size + 1 < w'.heap.size := (by first | omega | (have hh := (bcell hg).2.2; (try simp at hh); omega)))); (try (have hlw_4_2 : wn3.heap.size + 1 + 1 < w'.heap.size := (by first | omega | (have hh := (bcell hg).2.2; (try simp at hh); omega)))); (try (refine Evo.laterK KB1.out w' ?_ (fun hxwc1 hxwf1 hxwz1 => ?_); (focus ((repeat (first | with_reducible exact Grow.G.refl _ | with_reducible exact Below.refl _ _ | with_reducible refine Grow.G.alloc ?_ _ | with_reducible refine Grow.G.trans ?_ hb4 | with_reducible refine Grow.G.trans ?_ hb3 | with_reducible refine Grow.G.trans ?_ hb2 | with_reducible refine Grow.G.trans ?_ hb1 | ((with_reducible refine Below.setCell ?_ ?_ _); rotate_left; (focus (first | omega | (simp; done) | (simp; omega)))))); all_goals fail)))); (try (have hlew_1 : w.heap.size ≤ w'.heap.size := (by first | omega | (have hh := hxwz1; (try simp at hh); omega)))); (try (have hlw_1_0 : w.heap.size < w'.heap.size := (by first | omega | (have hh := hxwz1; (try simp at hh); omega)))); (try (have hlw_1_1 : w.heap.size + 1 < w'.heap.size := (by first | omega | (have hh := hxwz1; (try simp at hh); omega)))); (try (have hlw_1_2 : w.heap.size + 1 + 1 < w'.heap.size := (by first | omega | (have hh := hxwz1; (try simp at hh); omega)))); (try (refine Evo.laterK KB2.out w' ?_ (fun hxwc2 hxwf2 hxwz2 => ?_); (focus ((repeat (first | with_reducible exact Grow.G.refl _ | with_reducible exact Below.refl _ _ | with_reducible refine Grow.G.alloc ?_ _ | with_reducible refine Grow.G.trans ?_ hb4 | with_reducible refine Grow.G.trans ?_ hb3 | with_reducible refine Grow.G.trans ?_ hb2 | with_reducible refine Grow.G.trans ?_ hb1 | ((with_reducible refine Below.setCell ?_ ?_ _); rotate_left; (focus (first | omega | (simp; done) | (simp; omega)))))); all_goals fail)))); (try (have hlew_2 : wn1.heap.size ≤ w'.heap.size := (by first | omega | (have hh := hxwz2; (try simp at hh); omega)))); (try (have hlw_2_0 : wn1.heap.size < w'.heap.size := (by first | omega | (have hh := hxwz2; (try simp at hh); omega)))); (try (have hlw_2_1 : wn1.heap.size + 1 < w'.heap.size := (by first | omega | (have hh := hxwz2; (try simp at hh); omega)))); (try (have hlw_2_2 : wn1.heap.size + 1 + 1 < w'.heap.size := (by first | omega | (have hh := hxwz2; (try simp at hh); omega)))); (try (refine Evo.laterK KB3.out w' ?_ (fun hxwc3 hxwf3 hxwz3 => ?_); (focus ((repeat (first | with_reducible exact Grow.G.refl _ | with_reducible exact Below.refl _ _ | with_reducible refine Grow.G.alloc ?_ _ | with_reducible refine Grow.G.trans ?_ hb4 | with_reducible refine Grow.G.trans ?_ hb3 | with_reducible refine Grow.G.trans ?_ hb2 | with_reducible refine Grow.G.trans ?_ hb1 | ((with_reducible refine Below.setCell ?_ ?_ _); rotate_left; (focus (first | omega | (simp; done) | (simp; omega)))))); all_goals fail)))); (try (have hlew_3 : wn2.heap.size ≤ w'.heap.size := (by first | omega | (have hh := hxwz3; (try simp at hh); omega)))); (try (have hlw_3_0 : wn2.heap.size < w'.heap.size := (by first | omega | (have hh := hxwz3; (try simp at hh); omega)))); (try (have hlw_3_1 : wn2.heap.size + 1 < w'.heap.size := (by first | omega | (have hh := hxwz3; (try simp at hh); omega)))); (try (have hlw_3_2 : wn2.heap.size + 1 + 1 < w'.heap.size := (by first | omega | (have hh := hxwz3; (try simp at hh); omega)))); go_simp <;> with_reducible rfl); simp only [Act.put, List.setIfInBounds_toArray, List.set_cons_zero, List.set_cons_succ]) | (refine Evo.value ok 0 ?_ (by rfl) (by decide +kernel) (by rfl) ?_ ?_; rotate_left; (intro w' hg; go_simp <;> with_reducible rfl); simp only [Act.put, List.setIfInBounds_toArray, List.set_cons_zero, List.set_cons_succ])
    (refine Evo.call ok 1 ?_ 19 ?_ (by rfl) (by decide +kernel) (by rfl) ?_ ?_ ?_; rotate_left 2; (focus (intro w'; go_simp <;> with_reducible rfl)); (focus (intro w' g'; with_reducible exact R1.out w' (HRT.out.later (Grow.G.trans (by (repeat (first | with_reducible exact Grow.G.refl _ | with_reducible exact Below.refl _ _ | with_reducible refine Grow.G.alloc ?_ _ | with_reducible refine Grow.G.trans ?_ hb3 | with_reducible refine Grow.G.trans ?_ hb2 | with_reducible refine Grow.G.trans ?_ hb1 | ((with_reducible refine Below.setCell ?_ ?_ _); rotate_left; (focus (first | omega | (simp; done) | (simp; omega)))) | with_reducible assumption | with_reducible refine Grow.G.trans ?_ (by with_reducible assumption)))) g')))); simp only [Act.put, List.setIfInBounds_toArray, List.set_cons_zero, List.set_cons_succ])
    first | (refine Evo.value ok 2 ?_ (by rfl) (by decide +kernel) (by rfl) ?_ ?_; rotate_left; (intro w' hg; have hgc := (bcell hg).1; have hgf := (bcell hg).2.1; (try (have hlew_4 : wn3.heap.size ≤ w'.heap.size := (by first | omega | (have hh := (bcell hg).2.2; (try simp at hh); omega)))); (try (have hlw_4_0 : wn3.heap.size < w'.heap.size := (by first | omega | (have hh := (bcell hg).2.2; (try simp at hh); omega)))); (try (have hlw_4_1 : wn3.heap.size + 1 < w'.heap.size := (by first | omega | (have hh := (bcell hg).2.2; (try simp at hh); omega)))); (try (have hlw_4_2 : wn3.heap.size + 1 + 1 < w'.heap.size := (by first | omega | (have hh := (bcell hg).2.2; (try simp at hh); omega)))); (try (refine Evo.laterK KB1.out w' ?_ (fun hxwc1 hxwf1 hxwz1 => ?_); (focus ((repeat (first | with_reducible exact Grow.G.refl _ | with_reducible exact Below.refl _ _ | with_reducible refine Grow.G.alloc ?_ _ | with_reducible refine Grow.G.trans ?_ hb4 | with_reducible refine Grow.G.trans ?_ hb3 | with_reducible refine Grow.G.trans ?_ hb2 | with_reducible refine Grow.G.trans ?_ hb1 | ((with_reducible refine Below.setCell ?_ ?_ _); rotate_left; (focus (first | omega | (simp; done) | (simp; omega)))))); all_goals fail)))); (try (have hlew_1 : w.heap.size ≤ w'.heap.size := (by first | omega | (have hh := hxwz1; (try simp at hh); omega)))); (try (have hlw_1_0 : w.heap.size < w'.heap.size := (by first | omega | (have hh := hxwz1; (try simp at hh); omega)))); (try (have hlw_1_1 : w.heap.size + 1 < w'.heap.size := (by first | omega | (have hh := hxwz1; (try simp at hh); omega)))); (try (have hlw_1_2 : w.heap.size + 1 + 1 < w'.heap.size := (by first | omega | (have hh := hxwz1; (try simp at hh); omega)))); (try (refine Evo.laterK KB2.out w' ?_ (fun hxwc2 hxwf2 hxwz2 => ?_); (focus ((repeat (first | with_reducible exact Grow.G.refl _ | with_reducible exact Below.refl _ _ | with_reducible refine Grow.G.alloc ?_ _ | with_reducible refine Grow.G.trans ?_ hb4 | with_reducible refine Grow.G.trans ?_ hb3 | with_reducible refine Grow.G.trans ?_ hb2 | with_reducible refine Grow.G.trans ?_ hb1 | ((with_reducible refine Below.setCell ?_ ?_ _); rotate_left; (focus (first | omega | (simp; done) | (simp; omega)))))); all_goals fail)))); (try (have hlew_2 : wn1.heap.size ≤ w'.heap.size := (by first | omega | (have hh := hxwz2; (try simp at hh); omega)))); (try (have hlw_2_0 : wn1.heap.size < w'.heap.size := (by first | omega | (have hh := hxwz2; (try simp at hh); omega)))); (try (have hlw_2_1 : wn1.heap.size + 1 < w'.heap.size := (by first | omega | (have hh := hxwz2; (try simp at hh); omega)))); (try (have hlw_2_2 : wn1.heap.size + 1 + 1 < w'.heap.size := (by first | omega | (have hh := hxwz2; (try simp at hh); omega)))); (try (refine Evo.laterK KB3.out w' ?_ (fun hxwc3 hxwf3 hxwz3 => ?_); (focus ((repeat (first | with_reducible exact Grow.G.refl _ | with_reducible exact Below.refl _ _ | with_reducible refine Grow.G.alloc ?_ _ | with_reducible refine Grow.G.trans ?_ hb4 | with_reducible refine Grow.G.trans ?_ hb3 | with_reducible refine Grow.G.trans ?_ hb2 | with_reducible refine Grow.G.trans ?_ hb1 | ((with_reducible refine Below.setCell ?_ ?_ _); rotate_left; (focus (first | omega | (simp; done) | (simp; omega)))))); all_goals fail)))); (try (have hlew_3 : wn2.heap.size ≤ w'.heap.size := (by first | omega | (have hh := hxwz3; (try simp at hh); omega)))); (try (have hlw_3_0 : wn2.heap.size < w'.heap.size := (by first | omega | (have hh := hxwz3; (try simp at hh); omega)))); (try (have hlw_3_1 : wn2.heap.size + 1 < w'.heap.size := (by first | omega | (have hh := hxwz3; (try simp at hh); omega)))); (try (have hlw_3_2 : wn2.heap.size + 1 + 1 < w'.heap.size := (by first | omega | (have hh := hxwz3; (try simp at hh); omega)))); go_simp <;> with_reducible rfl); simp only [Act.put, List.setIfInBounds_toArray, List.set_cons_zero, List.set_cons_succ]) | (refine Evo.value ok 2 ?_ (by rfl) (by decide +kernel) (by rfl) ?_ ?_; rotate_left; (intro w' hg; go_simp <;> with_reducible rfl); simp only [Act.put, List.setIfInBounds_toArray, List.set_cons_zero, List.set_cons_succ])
    (refine Evo.call ok 3 ?_ 20 ?_ (by rfl) (by decide +kernel) (by rfl) ?_ ?_ ?_; rotate_left 2; (focus (intro w'; go_simp <;> with_reducible rfl)); (focus (intro w' g'; with_reducible exact R2.out w' (HRT.out.later (Grow.G.trans (by (repeat (first | with_reducible exact Grow.G.refl _ | with_reducible exact Below.refl _ _ | with_reducible refine Grow.G.alloc ?_ _ | with_reducible refine Grow.G.trans ?_ hb3 | with_reducible refine Grow.G.trans ?_ hb2 | with_reducible refine Grow.G.trans ?_ hb1 | ((with_reducible refine Below.setCell ?_ ?_ _); rotate_left; (focus (first | omega | (simp; done) | (simp; omega)))) | with_reducible assumption | with_reducible refine Grow.G.trans ?_ (by with_reducible assumption)))) g')))); simp only [Act.put, List.setIfInBounds_toArray, List.set_cons_zero, List.set_cons_succ])
    first | (refine Evo.value ok 4 ?_ (by rfl) (by decide +kernel) (by rfl) ?_ ?_; rotate_left; (intro w' hg; go_simp <;> with_reducible rfl); simp only [Act.put, List.setIfInBounds_toArray, List.set_cons_zero, List.set_cons_succ]) | (refine Evo.value ok 4 ?_ (by rfl) (by decide +kernel) (by rfl) ?_ ?_; rotate_left; (intro w' hg; go_simp; rw [if_neg (by omega)]); simp only [Act.put, List.setIfInBounds_toArray, List.set_cons_zero, List.set_cons_succ])
    first | (refine Evo.value ok 5 ?_ (by rfl) (by decide +kernel) (by rfl) ?_ ?_; rotate_left; (intro w' hg; go_simp <;> with_reducible rfl); simp only [Act.put, List.setIfInBounds_toArray, List.set_cons_zero, List.set_cons_succ]) | (refine Evo.value ok 5 ?_ (by rfl) (by decide +kernel) (by rfl) ?_ ?_; rotate_left; (intro w' hg; go_simp; rw [if_neg (by omega)]); simp only [Act.put, List.setIfInBounds_toArray, List.set_cons_zero, List.set_cons_succ])
    first | (refine Evo.value ok 6 ?_ (by rfl) (by decide +kernel) (by rfl) ?_ ?_; rotate_left; (intro w' hg; have hgc := (bcell hg).1; have hgf := (bcell hg).2.1; (try (have hlew_4 : wn3.heap.size ≤ w'.heap.size := (by first | omega | (have hh := (bcell hg).2.2; (try simp at hh); omega)))); (try (have hlw_4_0 : wn3.heap.size < w'.heap.size := (by first | omega | (have hh := (bcell hg).2.2; (try simp at hh); omega)))); (try (have hlw_4_1 : wn3.heap.size + 1 < w'.heap.size := (by first | omega | (have hh := (bcell hg).2.2; (try simp at hh); omega)))); (try (have hlw_4_2 : wn3.heap.size + 1 + 1 < w'.heap.size := (by first | omega | (have hh := (bcell hg).2.2; (try simp at hh); omega)))); (try (refine Evo.laterK KB1.out w' ?_ (fun hxwc1 hxwf1 hxwz1 => ?_); (focus ((repeat (first | with_reducible exact Grow.G.refl _ | with_reducible exact Below.refl _ _ | with_reducible refine Grow.G.alloc ?_ _ | with_reducible refine Grow.G.trans ?_ hb4 | with_reducible refine Grow.G.trans ?_ hb3 | with_reducible refine Grow.G.trans ?_ hb2 | with_reducible refine Grow.G.trans ?_ hb1 | ((with_reducible refine Below.setCell ?_ ?_ _); rotate_left; (focus (first | omega | (simp; done) | (simp; omega)))))); all_goals fail)))); (try (have hlew_1 : w.heap.size ≤ w'.heap.size := (by first | omega | (have hh := hxwz1; (try simp at hh); omega)))); (try (have hlw_1_0 : w.heap.size < w'.heap.size := (by first | omega | (have hh := hxwz1; (try simp at hh); omega)))); (try (have hlw_1_1 : w.heap.size + 1 < w'.heap.size := (by first | omega | (have hh := hxwz1; (try simp at hh); omega)))); (try (have hlw_1_2 : w.heap.size + 1 + 1 < w'.heap.size := (by first | omega | (have hh := hxwz1; (try simp at hh); omega)))); (try (refine Evo.laterK KB2.out w' ?_ (fun hxwc2 hxwf2 hxwz2 => ?_); (focus ((repeat (first | with_reducible exact Grow.G.refl _ | with_reducible exact Below.refl _ _ | with_reducible refine Grow.G.alloc ?_ _ | with_reducible refine Grow.G.trans ?_ hb4 | with_reducible refine Grow.G.trans ?_ hb3 | with_reducible refine Grow.G.trans ?_ hb2 | with_reducible refine Grow.G.trans ?_ hb1 | ((with_reducible refine Below.setCell ?_ ?_ _); rotate_left; (focus (first | omega | (simp; done) | (simp; omega)))))); all_goals fail)))); (try (have hlew_2 : wn1.heap.size ≤ w'.heap.size := (by first | omega | (have hh := hxwz2; (try simp at hh); omega)))); (try (have hlw_2_0 : wn1.heap.size < w'.heap.size := (by first | omega | (have hh := hxwz2; (try simp at hh); omega)))); (try (have hlw_2_1 : wn1.heap.size + 1 < w'.heap.size := (by first | omega | (have hh := hxwz2; (try simp at hh); omega)))); (try (have hlw_2_2 : wn1.heap.size + 1 + 1 < w'.heap.size := (by first | omega | (have hh := hxwz2; (try simp at hh); omega)))); (try (refine Evo.laterK KB3.out w' ?_ (fun hxwc3 hxwf3 hxwz3 => ?_); (focus ((repeat (first | with_reducible exact Grow.G.refl _ | with_reducible exact Below.refl _ _ | with_reducible refine Grow.G.alloc ?_ _ | with_reducible refine Grow.G.trans ?_ hb4 | with_reducible refine Grow.G.trans ?_ hb3 | with_reducible refine Grow.G.trans ?_ hb2 | with_reducible refine Grow.G.trans ?_ hb1 | ((with_reducible refine Below.setCell ?_ ?_ _); rotate_left; (focus (first | omega | (simp; done) | (simp; omega)))))); all_goals fail)))); (try (have hlew_3 : wn2.heap.size ≤ w'.heap.size := (by first | omega | (have hh := hxwz3; (try simp at hh); omega)))); (try (have hlw_3_0 : wn2.heap.size < w'.heap.size := (by first | omega | (have hh := hxwz3; (try simp at hh); omega)))); (try (have hlw_3_1 : wn2.heap.size + 1 < w'.heap.size := (by first | omega | (have hh := hxwz3; (try simp at hh); omega)))); (try (have hlw_3_2 : wn2.heap.size + 1 + 1 < w'.heap.size := (by first | omega | (have hh := hxwz3; (try simp at hh); omega)))); go_simp <;> with_reducible rfl); simp only [Act.put, List.setIfInBounds_toArray, List.set_cons_zero, List.set_cons_succ]) | (refine Evo.value ok 6 ?_ (by rfl) (by decide +kernel) (by rfl) ?_ ?_; rotate_left; (intro w' hg; go_simp <;> with_reducible rfl); simp only [Act.put, List.setIfInBounds_toArray, List.set_cons_zero, List.set_cons_succ]) | (refine Evo.idle ok 6 (by rfl) (by decide +kernel) (by rfl) ?_; simp only [Act.put, List.setIfInBounds_toArray, List.set_cons_zero, List.set_cons_succ])
    first | (refine Evo.call ok 7 ?_ 19 ?_ (by rfl) (by decide +kernel) (by rfl) ?_ ?_ ?_; rotate_left 2; (focus (intro w'; go_simp <;> with_reducible rfl)); (focus (intro w' g'; with_reducible exact R3.out w' (TC.out.later (Grow.G.trans (by (repeat (first | with_reducible exact Grow.G.refl _ | with_reducible exact Below.refl _ _ | with_reducible refine Grow.G.alloc ?_ _ | with_reducible refine Grow.G.trans ?_ hb3 | with_reducible refine Grow.G.trans ?_ hb2 | with_reducible refine Grow.G.trans ?_ hb1 | ((with_reducible refine Below.setCell ?_ ?_ _); rotate_left; (focus (first | omega | (simp; done) | (simp; omega)))) | with_reducible assumption | with_reducible refine Grow.G.trans ?_ (by with_reducible assumption)))) g')))); simp only [Act.put, List.setIfInBounds_toArray, List.set_cons_zero, List.set_cons_succ]) | (refine Evo.idle ok 7 (by rfl) (by decide +kernel) (by rfl) ?_; simp only [Act.put, List.setIfInBounds_toArray, List.set_cons_zero, List.set_cons_succ])
    first | (refine Evo.value ok 8 ?_ (by rfl) (by decide +kernel) (by rfl) ?_ ?_; rotate_left; (intro w' hg; go_simp <;> with_reducible rfl); simp only [Act.put, List.setIfInBounds_toArray, List.set_cons_zero, List.set_cons_succ]) | (refine Evo.value ok 8 ?_ (by rfl) (by decide +kernel) (by rfl) ?_ ?_; rotate_left; (intro w' hg; go_simp; rw [if_neg (by omega)]); simp only [Act.put, List.setIfInBounds_toArray, List.set_cons_zero, List.set_cons_succ]) | (refine Evo.idle ok 8 (by rfl) (by decide +kernel) (by rfl) ?_; simp only [Act.put, List.setIfInBounds_toArray, List.set_cons_zero, List.set_cons_succ])
    first | (refine Evo.value ok 9 ?_ (by rfl) (by decide +kernel) (by rfl) ?_ ?_; rotate_left; (intro w' hg; go_simp <;> with_reducible rfl); simp only [Act.put, List.setIfInBounds_toArray, List.set_cons_zero, List.set_cons_succ]) | (refine Evo.value ok 9 ?_ (by rfl) (by decide +kernel) (by rfl) ?_ ?_; rotate_left; (intro w' hg; go_simp; rw [if_neg (by omega)]); simp only [Act.put, List.setIfInBounds_toArray, List.set_cons_zero, List.set_cons_succ])
    refine Evo.done (by decide +kernel) (fun wn4 hb4 => ?_)
    have KB4 := Lib.hid (Evo.later hb4)
    have hxwn4c := (bcell hb4).1
    have hxwn4f := (bcell hb4).2.1
    have hxwn4z := (bcell hb4).2.2
    (try (have hlewn4_4 : wn3.heap.size ≤ wn4.heap.size := (by first | omega | (have hh := hxwn4z; (try simp at hh); omega))))
    (try (have hlwn4_4_0 : wn3.heap.size < wn4.heap.size := (by first | omega | (have hh := hxwn4z; (try simp at hh); omega))))
    (try (have hlwn4_4_1 : wn3.heap.size + 1 < wn4.heap.size := (by first | omega | (have hh := hxwn4z; (try simp at hh); omega))))
    (try (have hlwn4_4_2 : wn3.heap.size + 1 + 1 < wn4.heap.size := (by first | omega | (have hh := hxwn4z; (try simp at hh); omega))))
    (try (refine Evo.laterK KB1.out wn4 ?_ (fun hxwn4c1 hxwn4f1 hxwn4z1 => ?_); (focus ((repeat (first | with_reducible exact Grow.G.refl _ | with_reducible exact Below.refl _ _ | with_reducible refine Grow.G.alloc ?_ _ | with_reducible refine Grow.G.trans ?_ hb4 | with_reducible refine Grow.G.trans ?_ hb3 | with_reducible refine Grow.G.trans ?_ hb2 | with_reducible refine Grow.G.trans ?_ hb1 | ((with_reducible refine Below.setCell ?_ ?_ _); rotate_left; (focus (first | omega | (simp; done) | (simp; omega)))))); all_goals fail))))
    (try (have hlewn4_1 : w.heap.size ≤ wn4.heap.size := (by first | omega | (have hh := hxwn4z1; (try simp at hh); omega))))
    (try (have hlwn4_1_0 : w.heap.size < wn4.heap.size := (by first | omega | (have hh := hxwn4z1; (try simp at hh); omega))))
    (try (have hlwn4_1_1 : w.heap.size + 1 < wn4.heap.size := (by first | omega | (have hh := hxwn4z1; (try simp at hh); omega))))
    (try (have hlwn4_1_2 : w.heap.size + 1 + 1 < wn4.heap.size := (by first | omega | (have hh := hxwn4z1; (try simp at hh); omega))))
    (try (refine Evo.laterK KB2.out wn4 ?_ (fun hxwn4c2 hxwn4f2 hxwn4z2 => ?_); (focus ((repeat (first | with_reducible exact Grow.G.refl _ | with_reducible exact Below.refl _ _ | with_reducible refine Grow.G.alloc ?_ _ | with_reducible refine Grow.G.trans ?_ hb4 | with_reducible refine Grow.G.trans ?_ hb3 | with_reducible refine Grow.G.trans ?_ hb2 | with_reducible refine Grow.G.trans ?_ hb1 | ((with_reducible refine Below.setCell ?_ ?_ _); rotate_left; (focus (first | omega | (simp; done) | (simp; omega)))))); all_goals fail))))
    (try (have hlewn4_2 : wn1.heap.size ≤ wn4.heap.size := (by first | omega | (have hh := hxwn4z2; (try simp at hh); omega))))
    (try (have hlwn4_2_0 : wn1.heap.size < wn4.heap.size := (by first | omega | (have hh := hxwn4z2; (try simp at hh); omega))))
    (try (have hlwn4_2_1 : wn1.heap.size + 1 < wn4.heap.size := (by first | omega | (have hh := hxwn4z2; (try simp at hh); omega))))
    (try (have hlwn4_2_2 : wn1.heap.size + 1 + 1 < wn4.heap.size := (by first | omega | (have hh := hxwn4z2; (try simp at hh); omega))))
    (try (refine Evo.laterK KB3.out wn4 ?_ (fun hxwn4c3 hxwn4f3 hxwn4z3 => ?_); (focus ((repeat (first | with_reducible exact Grow.G.refl _ | with_reducible exact Below.refl _ _ | with_reducible refine Grow.G.alloc ?_ _ | with_reducible refine Grow.G.trans ?_ hb4 | with_reducible refine Grow.G.trans ?_ hb3 | with_reducible refine Grow.G.trans ?_ hb2 | with_reducible refine Grow.G.trans ?_ hb1 | ((with_reducible refine Below.setCell ?_ ?_ _); rotate_left; (focus (first | omega | (simp; done) | (simp; omega)))))); all_goals fail))))
    (try (have hlewn4_3 : wn2.heap.size ≤ wn4.heap.size := (by first | omega | (have hh := hxwn4z3; (try simp at hh); omega))))
    (try (have hlwn4_3_0 : wn2.heap.size < wn4.heap.size := (by first | omega | (have hh := hxwn4z3; (try simp at hh); omega))))
    (try (have hlwn4_3_1 : wn2.heap.size + 1 < wn4.heap.size := (by first | omega | (have hh := hxwn4z3; (try simp at hh); omega))))
    (try (have hlwn4_3_2 : wn2.heap.size + 1 + 1 < wn4.heap.size := (by first | omega | (have hh := hxwn4z3; (try simp at hh); omega))))
    have hbC := (own_tgts OC.out).2.2.2
    have FC := (own_tgts OC.out).2.2.1
    clear R1 R2 R3 hxx E0 FE
    have OC4 := Lib.hid (own_base (own_later OC.out (show Grow.G wn3 wn4 by (repeat (first | with_reducible exact Grow.G.refl _ | with_reducible exact Below.refl _ _ | with_reducible refine Grow.G.alloc ?_ _ | with_reducible refine Grow.G.trans ?_ hb5 | with_reducible refine Grow.G.trans ?_ hb4 | with_reducible refine Grow.G.trans ?_ hb3 | with_reducible refine Grow.G.trans ?_ hb2 | with_reducible refine Grow.G.trans ?_ hb1 | ((with_reducible refine Below.setCell ?_ ?_ _); rotate_left; (focus (first | omega | (simp; done) | (simp; omega)))) | with_reducible assumption | with_reducible refine Grow.G.trans ?_ (by with_reducible assumption))))) (show w.heap.size ≤ _ by first | omega | (simp; omega)))
    have TC4 := Lib.hid (TC.out.later (show Grow.G wn3 wn4 by (repeat (first | with_reducible exact Grow.G.refl _ | with_reducible exact Below.refl _ _ | with_reducible refine Grow.G.alloc ?_ _ | with_reducible refine Grow.G.trans ?_ hb5 | with_reducible refine Grow.G.trans ?_ hb4 | with_reducible refine Grow.G.trans ?_ hb3 | with_reducible refine Grow.G.trans ?_ hb2 | with_reducible refine Grow.G.trans ?_ hb1 | ((with_reducible refine Below.setCell ?_ ?_ _); rotate_left; (focus (first | omega | (simp; done) | (simp; omega)))) | with_reducible assumption | with_reducible refine Grow.G.trans ?_ (by with_reducible assumption)))))
    have HY4 := Lib.hid (HY.out.below (show Grow.G w wn4 by (repeat (first | with_reducible exact Grow.G.refl _ | with_reducible exact Below.refl _ _ | with_reducible refine Grow.G.alloc ?_ _ | with_reducible refine Grow.G.trans ?_ hb5 | with_reducible refine Grow.G.trans ?_ hb4 | with_reducible refine Grow.G.trans ?_ hb3 | with_reducible refine Grow.G.trans ?_ hb2 | with_reducible refine Grow.G.trans ?_ hb1 | ((with_reducible refine Below.setCell ?_ ?_ _); rotate_left; (focus (first | omega | (simp; done) | (simp; omega)))) | with_reducible assumption | with_reducible refine Grow.G.trans ?_ (by with_reducible assumption)))))
    have o0 : w.heap.size ≤ wn3.heap.size := by omega
    have o4 := hbC.1
    have o2 : w.heap.size ≤ bC := by first | omega | (simp at o4; omega)
    have o3 : bC < wn3.heap.size := hbC.2
    have FC4 : ∀ o, wn4.frozen? ⟨bC, o, none⟩ = false := fun o => by rw [hxwn4f _ _ (by first | omega | (simp; omega))]; have := FC o; go_simp
    clear hbC o4 FC OC TC HY HZ HRT GA
    have r1_0 : wn4.cell? ⟨wn3.heap.size, 0, none⟩ = some (.string nm) := by go_simp
    have r1_0f : wn4.frozen? ⟨wn3.heap.size, 0, none⟩ = false := by go_simp
    (try (have r1_0z : wn3.heap.size < wn4.heap.size := by omega))
    have r1_1 : wn4.cell? ⟨wn3.heap.size, 1, none⟩ = some (.string cf) := by go_simp
    have r1_1f : wn4.frozen? ⟨wn3.heap.size, 1, none⟩ = false := by go_simp
    (try (have r1_1z : wn3.heap.size < wn4.heap.size := by omega))
    have r1_2 : wn4.cell? ⟨wn3.heap.size, 2, none⟩ = some (.slice (some ⟨bC, 0, none⟩) ts.length cC) := by go_simp
    have r1_2f : wn4.frozen? ⟨wn3.heap.size, 2, none⟩ = false := by go_simp
    (try (have r1_2z : wn3.heap.size < wn4.heap.size := by omega))
    have r1_3 : wn4.cell? ⟨wn3.heap.size, 3, none⟩ = some (.int .i64 ro) := by go_simp
    have r1_3f : wn4.frozen? ⟨wn3.heap.size, 3, none⟩ = false := by go_simp
    (try (have r1_3z : wn3.heap.size < wn4.heap.size := by omega))
    have GB1 : Hid (Grow.G w wn4) := Lib.hid (by (repeat (first | with_reducible exact Grow.G.refl _ | with_reducible exact Below.refl _ _ | with_reducible refine Grow.G.alloc ?_ _ | with_reducible refine Grow.G.trans ?_ hb5 | with_reducible refine Grow.G.trans ?_ hb4 | with_reducible refine Grow.G.trans ?_ hb3 | with_reducible refine Grow.G.trans ?_ hb2 | with_reducible refine Grow.G.trans ?_ hb1 | ((with_reducible refine Below.setCell ?_ ?_ _); rotate_left; (focus (first | omega | (simp; done) | (simp; omega)))) | with_reducible assumption | with_reducible refine Grow.G.trans ?_ (by with_reducible assumption))))
    (try clear hxwn1c)
    (try clear hxwn1f)
    (try clear hxwn1z)
    (try clear hb1)
    (try clear KB1)
    (try clear hlewn1_1)
    (try clear hlwn1_1_0)
    (try clear hlwn1_1_1)
    (try clear hlwn1_1_2)
    (try clear hxwn2c)
    (try clear hxwn2f)
    (try clear hxwn2z)
    (try clear hb2)
    (try clear KB2)
    (try clear hlewn2_2)
    (try clear hlwn2_2_0)
    (try clear hlwn2_2_1)
    (try clear hlwn2_2_2)
    (try clear hxwn2c1)
    (try clear hxwn2f1)
    (try clear hxwn2z1)
    (try clear hlewn2_1)
    (try clear hlwn2_1_0)
    (try clear hlwn2_1_1)
    (try clear hlwn2_1_2)
    (try clear hxwn3c)
    (try clear hxwn3f)
    (try clear hxwn3z)
    (try clear hb3)
    (try clear KB3)
    (try clear hlewn3_3)
    (try clear hlwn3_3_0)
    (try clear hlwn3_3_1)
    (try clear hlwn3_3_2)
    (try clear hxwn3c1)
    (try clear hxwn3f1)
    (try clear hxwn3z1)
    (try clear hlewn3_1)
    (try clear hlwn3_1_0)
    (try clear hlwn3_1_1)
    (try clear hlwn3_1_2)
    (try clear hxwn3c2)
    (try clear hxwn3f2)
    (try clear hxwn3z2)
    (try clear hlewn3_2)
    (try clear hlwn3_2_0)
    (try clear hlwn3_2_1)
    (try clear hlwn3_2_2)
    (try clear hxwn4c)
    (try clear hxwn4f)
    (try clear hxwn4z)
    (try clear hb4)
    (try clear KB4)
    (try clear hlewn4_4)
    (try clear hlwn4_4_0)
    (try clear hlwn4_4_1)
    (try clear hlwn4_4_2)
    (try clear hxwn4c1)
    (try clear hxwn4f1)
    (try clear hxwn4z1)
    (try clear hlewn4_1)
    (try clear hlwn4_1_0)
    (try clear hlwn4_1_1)
    (try clear hlwn4_1_2)
    (try clear hxwn4c2)
    (try clear hxwn4f2)
    (try clear hxwn4z2)
    (try clear hlewn4_2)
    (try clear hlwn4_2_0)
    (try clear hlwn4_2_1)
    (try clear hlwn4_2_2)
    (try clear hxwn4c3)
    (try clear hxwn4f3)
    (try clear hxwn4z3)
    (try clear hlewn4_3)
    (try clear hlwn4_3_0)
    (try clear hlwn4_3_1)
    (try clear hlwn4_3_2)
    obtain ⟨wb1, rfl⟩ : ∃ wb1 : World, wb1 = wn4 := ⟨_, rfl⟩
    have o6 : bC < wb1.heap.size := by omega
    generalize wn3.heap.size = gC at *
    go_wp2_with fail
    refine (WI.out _).mono ?_
    rintro e wx ⟨rfl, rfl⟩
    go_wp2_with fail
    refine (WH.out _).mono ?_
    rintro e wx ⟨rfl, rfl⟩
    clear WI WH
    have ncap : ts.length ≤ cC := by
      rcases OC4.out.2 with ⟨h, _⟩ | ⟨_, _, _, h, _, _, h2, _⟩
      · cases h
      · cases h; exact h2
    rcases hq9 with rfl | rfl | rfl | rfl | rfl | rfl | rfl | rfl | rfl
    · skip
      have TX := Lib.hid (fun w h => text_any u ys w h)
      have TZ := textS_size ys
      generalize textS ys = t at *
      go_wp2_with fail
      refine (TX.out _ HY4.out).mono ?_
      rintro e wn1 ⟨rfl, hb1⟩
      have KB1 := Lib.hid (Evo.later hb1)
      have hxwn1c := (bcell hb1).1
      have hxwn1f := (bcell hb1).2.1
      have hxwn1z := (bcell hb1).2.2
      (try (have hlewn1_1 : wb1.heap.size ≤ wn1.heap.size := (by first | omega | (have hh := hxwn1z; (try simp at hh); omega))))
      (try (have hlwn1_1_0 : wb1.heap.size < wn1.heap.size := (by first | omega | (have hh := hxwn1z; (try simp at hh); omega))))
      (try (have hlwn1_1_1 : wb1.heap.size + 1 < wn1.heap.size := (by first | omega | (have hh := hxwn1z; (try simp at hh); omega))))
      (try (have hlwn1_1_2 : wb1.heap.size + 1 + 1 < wn1.heap.size := (by first | omega | (have hh := hxwn1z; (try simp at hh); omega))))
      have m1 : gC < wn1.heap.size := by omega
      go_wp2_with fail
      obtain ⟨y, hy⟩ : ∃ y, routeE (t) (cf) (ts) (ro) = y := ⟨_, rfl⟩
      have TT := Lib.hid (tgts_far (p := ⟨gC, 0, none⟩) (v := .string t) (TC4.out.later hb1) (fun b off e => by cases e; show gC ≠ bC; omega))
      have HK : ∀ i, i < List.length (ts) → (List.getD (ts) i tg0).ok := OKS.out
      have FA := Lib.hid (fun w h => route_at (t) (cf) (some ⟨bC, 0, none⟩) (ts) (ts.length) cC (ro) w y (rfl) (by omega) (by omega) (by omega) h HK hy)
      have FB := Lib.hid (fun w h => rroute_at (t) (cf) (some ⟨bC, 0, none⟩) (ts) (ts.length) cC (ro) w y (rfl) (by omega) (by omega) (by omega) h HK hy)
      have hyy : (y == y) = true := by simp
      clear hy HK
      refine Evo.start' (ℓ := none) (T := Grow.G) (by kernel_rfl) ⟨Evo.preG, by decide +kernel, (by intro c a d v w h; cases d <;> exact h), by decide +kernel⟩ (fun ok => ?_)
      first | (refine Evo.value ok 0 ?_ (by rfl) (by decide +kernel) (by rfl) ?_ ?_; rotate_left; (intro w' hg; have hgc := (bcell hg).1; have hgf := (bcell hg).2.1; (try (have hlew_2 : wn1.heap.size ≤ w'.heap.size := (by first | omega | (have hh := (bcell hg).2.2; (try simp at hh); omega)))); (try (have hlw_2_0 : wn1.heap.size < w'.heap.size := (by first | omega | (have hh := (bcell hg).2.2; (try simp at hh); omega)))); (try (have hlw_2_1 : wn1.heap.size + 1 < w'.heap.size := (by first | omega | (have hh := (bcell hg).2.2; (try simp at hh); omega)))); (try (have hlw_2_2 : wn1.heap.size + 1 + 1 < w'.heap.size := (by first | omega | (have hh := (bcell hg).2.2; (try simp at hh); omega)))); (try (refine Evo.laterK KB1.out w' ?_ (fun hxwc1 hxwf1 hxwz1 => ?_); (focus ((repeat (first | with_reducible exact Grow.G.refl _ | with_reducible exact Below.refl _ _ | with_reducible refine Grow.G.alloc ?_ _ | with_reducible refine Grow.G.trans ?_ hb2 | with_reducible refine Grow.G.trans ?_ hb1 | ((with_reducible refine Below.setCell ?_ ?_ _); rotate_left; (focus (first | omega | (simp; done) | (simp; omega)))))); all_goals fail)))); (try (have hlew_1 : wb1.heap.size ≤ w'.heap.size := (by first | omega | (have hh := hxwz1; (try simp at hh); omega)))); (try (have hlw_1_0 : wb1.heap.size < w'.heap.size := (by first | omega | (have hh := hxwz1; (try simp at hh); omega)))); (try (have hlw_1_1 : wb1.heap.size + 1 < w'.heap.size := (by first | omega | (have hh := hxwz1; (try simp at hh); omega)))); (try (have hlw_1_2 : wb1.heap.size + 1 + 1 < w'.heap.size := (by first | omega | (have hh := hxwz1; (try simp at hh); omega)))); go_simp <;> with_reducible rfl); simp only [Act.put, List.setIfInBounds_toArray, List.set_cons_zero, List.set_cons_succ]) | (refine Evo.value ok 0 ?_ (by rfl) (by decide +kernel) (by rfl) ?_ ?_; rotate_left; (intro w' hg; go_simp <;> with_reducible rfl); simp only [Act.put, List.setIfInBounds_toArray, List.set_cons_zero, List.set_cons_succ])
      (refine Evo.call ok 1 ?_ 19 ?_ (by rfl) (by decide +kernel) (by rfl) ?_ ?_ ?_; rotate_left 2; (focus (intro w'; go_simp <;> with_reducible rfl)); (focus (intro w' g'; with_reducible exact FA.out w' (TT.out.later g'))); simp only [Act.put, List.setIfInBounds_toArray, List.set_cons_zero, List.set_cons_succ])
      first | (refine Evo.value ok 2 ?_ (by rfl) (by decide +kernel) (by rfl) ?_ ?_; rotate_left; (intro w' hg; have hgc := (bcell hg).1; have hgf := (bcell hg).2.1; (try (have hlew_2 : wn1.heap.size ≤ w'.heap.size := (by first | omega | (have hh := (bcell hg).2.2; (try simp at hh); omega)))); (try (have hlw_2_0 : wn1.heap.size < w'.heap.size := (by first | omega | (have hh := (bcell hg).2.2; (try simp at hh); omega)))); (try (have hlw_2_1 : wn1.heap.size + 1 < w'.heap.size := (by first | omega | (have hh := (bcell hg).2.2; (try simp at hh); omega)))); (try (have hlw_2_2 : wn1.heap.size + 1 + 1 < w'.heap.size := (by first | omega | (have hh := (bcell hg).2.2; (try simp at hh); omega)))); (try (refine Evo.laterK KB1.out w' ?_ (fun hxwc1 hxwf1 hxwz1 => ?_); (focus ((repeat (first | with_reducible exact Grow.G.refl _ | with_reducible exact Below.refl _ _ | with_reducible refine Grow.G.alloc ?_ _ | with_reducible refine Grow.G.trans ?_ hb2 | with_reducible refine Grow.G.trans ?_ hb1 | ((with_reducible refine Below.setCell ?_ ?_ _); rotate_left; (focus (first | omega | (simp; done) | (simp; omega)))))); all_goals fail)))); (try (have hlew_1 : wb1.heap.size ≤ w'.heap.size := (by first | omega | (have hh := hxwz1; (try simp at hh); omega)))); (try (have hlw_1_0 : wb1.heap.size < w'.heap.size := (by first | omega | (have hh := hxwz1; (try simp at hh); omega)))); (try (have hlw_1_1 : wb1.heap.size + 1 < w'.heap.size := (by first | omega | (have hh := hxwz1; (try simp at hh); omega)))); (try (have hlw_1_2 : wb1.heap.size + 1 + 1 < w'.heap.size := (by first | omega | (have hh := hxwz1; (try simp at hh); omega)))); go_simp <;> with_reducible rfl); simp only [Act.put, List.setIfInBounds_toArray, List.set_cons_zero, List.set_cons_succ]) | (refine Evo.value ok 2 ?_ (by rfl) (by decide +kernel) (by rfl) ?_ ?_; rotate_left; (intro w' hg; go_simp <;> with_reducible rfl); simp only [Act.put, List.setIfInBounds_toArray, List.set_cons_zero, List.set_cons_succ])
      (refine Evo.call ok 3 ?_ 20 ?_ (by rfl) (by decide +kernel) (by rfl) ?_ ?_ ?_; rotate_left 2; (focus (intro w'; go_simp <;> with_reducible rfl)); (focus (intro w' g'; with_reducible exact FB.out w' (TT.out.later g'))); simp only [Act.put, List.setIfInBounds_toArray, List.set_cons_zero, List.set_cons_succ])
      first | (refine Evo.value ok 4 ?_ (by rfl) (by decide +kernel) (by rfl) ?_ ?_; rotate_left; (intro w' hg; go_simp <;> with_reducible rfl); simp only [Act.put, List.setIfInBounds_toArray, List.set_cons_zero, List.set_cons_succ]) | (refine Evo.value ok 4 ?_ (by rfl) (by decide +kernel) (by rfl) ?_ ?_; rotate_left; (intro w' hg; go_simp; rw [if_neg (by omega)]); simp only [Act.put, List.setIfInBounds_toArray, List.set_cons_zero, List.set_cons_succ])
      first | (refine Evo.value ok 5 ?_ (by rfl) (by decide +kernel) (by rfl) ?_ ?_; rotate_left; (intro w' hg; go_simp <;> with_reducible rfl); simp only [Act.put, List.setIfInBounds_toArray, List.set_cons_zero, List.set_cons_succ]) | (refine Evo.value ok 5 ?_ (by rfl) (by decide +kernel) (by rfl) ?_ ?_; rotate_left; (intro w' hg; go_simp; rw [if_neg (by omega)]); simp only [Act.put, List.setIfInBounds_toArray, List.set_cons_zero, List.set_cons_succ])
      refine Evo.done (by decide +kernel) (fun wn2 hb2 => ?_)
      have KB2 := Lib.hid (Evo.later hb2)
      have hxwn2c := (bcell hb2).1
      have hxwn2f := (bcell hb2).2.1
      have hxwn2z := (bcell hb2).2.2
      (try (have hlewn2_2 : wn1.heap.size ≤ wn2.heap.size := (by first | omega | (have hh := hxwn2z; (try simp at hh); omega))))
      (try (have hlwn2_2_0 : wn1.heap.size < wn2.heap.size := (by first | omega | (have hh := hxwn2z; (try simp at hh); omega))))
      (try (have hlwn2_2_1 : wn1.heap.size + 1 < wn2.heap.size := (by first | omega | (have hh := hxwn2z; (try simp at hh); omega))))
      (try (have hlwn2_2_2 : wn1.heap.size + 1 + 1 < wn2.heap.size := (by first | omega | (have hh := hxwn2z; (try simp at hh); omega))))
      (try (refine Evo.laterK KB1.out wn2 ?_ (fun hxwn2c1 hxwn2f1 hxwn2z1 => ?_); (focus ((repeat (first | with_reducible exact Grow.G.refl _ | with_reducible exact Below.refl _ _ | with_reducible refine Grow.G.alloc ?_ _ | with_reducible refine Grow.G.trans ?_ hb2 | with_reducible refine Grow.G.trans ?_ hb1 | ((with_reducible refine Below.setCell ?_ ?_ _); rotate_left; (focus (first | omega | (simp; done) | (simp; omega)))))); all_goals fail))))
      (try (have hlewn2_1 : wb1.heap.size ≤ wn2.heap.size := (by first | omega | (have hh := hxwn2z1; (try simp at hh); omega))))
      (try (have hlwn2_1_0 : wb1.heap.size < wn2.heap.size := (by first | omega | (have hh := hxwn2z1; (try simp at hh); omega))))
      (try (have hlwn2_1_1 : wb1.heap.size + 1 < wn2.heap.size := (by first | omega | (have hh := hxwn2z1; (try simp at hh); omega))))
      (try (have hlwn2_1_2 : wb1.heap.size + 1 + 1 < wn2.heap.size := (by first | omega | (have hh := hxwn2z1; (try simp at hh); omega))))
      go_wp2_with fail
      go_ret
      exact ⟨rfl, Grow.G.trans (Below.setCell (Grow.G.trans GB1.out hb1) (by show w.heap.size ≤ gC; omega) _) hb2⟩
    · skip
      have TX := Lib.hid (fun w h => text_any u ys w h)
      have TZ := textS_size ys
      generalize textS ys = t at *
      go_wp2_with fail
      refine (TX.out _ HY4.out).mono ?_
      rintro e wn1 ⟨rfl, hb1⟩
      have KB1 := Lib.hid (Evo.later hb1)
      have hxwn1c := (bcell hb1).1
      have hxwn1f := (bcell hb1).2.1
      have hxwn1z := (bcell hb1).2.2
      (try (have hlewn1_1 : wb1.heap.size ≤ wn1.heap.size := (by first | omega | (have hh := hxwn1z; (try simp at hh); omega))))
      (try (have hlwn1_1_0 : wb1.heap.size < wn1.heap.size := (by first | omega | (have hh := hxwn1z; (try simp at hh); omega))))
      (try (have hlwn1_1_1 : wb1.heap.size + 1 < wn1.heap.size := (by first | omega | (have hh := hxwn1z; (try simp at hh); omega))))
      (try (have hlwn1_1_2 : wb1.heap.size + 1 + 1 < wn1.heap.size := (by first | omega | (have hh := hxwn1z; (try simp at hh); omega))))
      have m1 : gC < wn1.heap.size := by omega
      go_wp2_with fail
      obtain ⟨y, hy⟩ : ∃ y, routeE (nm) (t) (ts) (ro) = y := ⟨_, rfl⟩
      have TT := Lib.hid (tgts_far (p := ⟨gC, 1, none⟩) (v := .string t) (TC4.out.later hb1) (fun b off e => by cases e; show gC ≠ bC; omega))
      have HK : ∀ i, i < List.length (ts) → (List.getD (ts) i tg0).ok := OKS.out
      have FA := Lib.hid (fun w h => route_at (nm) (t) (some ⟨bC, 0, none⟩) (ts) (ts.length) cC (ro) w y (rfl) (by omega) (by omega) (by omega) h HK hy)
      have FB := Lib.hid (fun w h => rroute_at (nm) (t) (some ⟨bC, 0, none⟩) (ts) (ts.length) cC (ro) w y (rfl) (by omega) (by omega) (by omega) h HK hy)
      have hyy : (y == y) = true := by simp
      clear hy HK
      refine Evo.start' (ℓ := none) (T := Grow.G) (by kernel_rfl) ⟨Evo.preG, by decide +kernel, (by intro c a d v w h; cases d <;> exact h), by decide +kernel⟩ (fun ok => ?_)
      first | (refine Evo.value ok 0 ?_ (by rfl) (by decide +kernel) (by rfl) ?_ ?_; rotate_left; (intro w' hg; have hgc := (bcell hg).1; have hgf := (bcell hg).2.1; (try (have hlew_2 : wn1.heap.size ≤ w'.heap.size := (by first | omega | (have hh := (bcell hg).2.2; (try simp at hh); omega)))); (try (have hlw_2_0 : wn1.heap.size < w'.heap.size := (by first | omega | (have hh := (bcell hg).2.2; (try simp at hh); omega)))); (try (have hlw_2_1 : wn1.heap.size + 1 < w'.heap.size := (by first | omega | (have hh := (bcell hg).2.2; (try simp at hh); omega)))); (try (have hlw_2_2 : wn1.heap.size + 1 + 1 < w'.heap.size := (by first | omega | (have hh := (bcell hg).2.2; (try simp at hh); omega)))); (try (refine Evo.laterK KB1.out w' ?_ (fun hxwc1 hxwf1 hxwz1 => ?_); (focus ((repeat (first | with_reducible exact Grow.G.refl _ | with_reducible exact Below.refl _ _ | with_reducible refine Grow.G.alloc ?_ _ | with_reducible refine Grow.G.trans ?_ hb2 | with_reducible refine Grow.G.trans ?_ hb1 | ((with_reducible refine Below.setCell ?_ ?_ _); rotate_left; (focus (first | omega | (simp; done) | (simp; omega)))))); all_goals fail)))); (try (have hlew_1 : wb1.heap.size ≤ w'.heap.size := (by first | omega | (have hh := hxwz1; (try simp at hh); omega)))); (try (have hlw_1_0 : wb1.heap.size < w'.heap.size := (by first | omega | (have hh := hxwz1; (try simp at hh); omega)))); (try (have hlw_1_1 : wb1.heap.size + 1 < w'.heap.size := (by first | omega | (have hh := hxwz1; (try simp at hh); omega)))); (try (have hlw_1_2 : wb1.heap.size + 1 + 1 < w'.heap.size := (by first | omega | (have hh := hxwz1; (try simp at hh); omega)))); go_simp <;> with_reducible rfl); simp only [Act.put, List.setIfInBounds_toArray, List.set_cons_zero, List.set_cons_succ]) | (refine Evo.value ok 0 ?_ (by rfl) (by decide +kernel) (by rfl) ?_ ?_; rotate_left; (intro w' hg; go_simp <;> with_reducible rfl); simp only [Act.put, List.setIfInBounds_toArray, List.set_cons_zero, List.set_cons_succ])
      (refine Evo.call ok 1 ?_ 19 ?_ (by rfl) (by decide +kernel) (by rfl) ?_ ?_ ?_; rotate_left 2; (focus (intro w'; go_simp <;> with_reducible rfl)); (focus (intro w' g'; with_reducible exact FA.out w' (TT.out.later g'))); simp only [Act.put, List.setIfInBounds_toArray, List.set_cons_zero, List.set_cons_succ])
      first | (refine Evo.value ok 2 ?_ (by rfl) (by decide +kernel) (by rfl) ?_ ?_; rotate_left; (intro w' hg; have hgc := (bcell hg).1; have hgf := (bcell hg).2.1; (try (have hlew_2 : wn1.heap.size ≤ w'.heap.size := (by first | omega | (have hh := (bcell hg).2.2; (try simp at hh); omega)))); (try (have hlw_2_0 : wn1.heap.size < w'.heap.size := (by first | omega | (have hh := (bcell hg).2.2; (try simp at hh); omega)))); (try (have hlw_2_1 : wn1.heap.size + 1 < w'.heap.size := (by first | omega | (have hh := (bcell hg).2.2; (try simp at hh); omega)))); (try (have hlw_2_2 : wn1.heap.size + 1 + 1 < w'.heap.size := (by first | omega | (have hh := (bcell hg).2.2; (try simp at hh); omega)))); (try (refine Evo.laterK KB1.out w' ?_ (fun hxwc1 hxwf1 hxwz1 => ?_); (focus ((repeat (first | with_reducible exact Grow.G.refl _ | with_reducible exact Below.refl _ _ | with_reducible refine Grow.G.alloc ?_ _ | with_reducible refine Grow.G.trans ?_ hb2 | with_reducible refine Grow.G.trans ?_ hb1 | ((with_reducible refine Below.setCell ?_ ?_ _); rotate_left; (focus (first | omega | (simp; done) | (simp; omega)))))); all_goals fail)))); (try (have hlew_1 : wb1.heap.size ≤ w'.heap.size := (by first | omega | (have hh := hxwz1; (try simp at hh); omega)))); (try (have hlw_1_0 : wb1.heap.size < w'.heap.size := (by first | omega | (have hh := hxwz1; (try simp at hh); omega)))); (try (have hlw_1_1 : wb1.heap.size + 1 < w'.heap.size := (by first | omega | (have hh := hxwz1; (try simp at hh); omega)))); (try (have hlw_1_2 : wb1.heap.size + 1 + 1 < w'.heap.size := (by first | omega | (have hh := hxwz1; (try simp at hh); omega)))); go_simp <;> with_reducible rfl); simp only [Act.put, List.setIfInBounds_toArray, List.set_cons_zero, List.set_cons_succ]) | (refine Evo.value ok 2 ?_ (by rfl) (by decide +kernel) (by rfl) ?_ ?_; rotate_left; (intro w' hg; go_simp <;> with_reducible rfl); simp only [Act.put, List.setIfInBounds_toArray, List.set_cons_zero, List.set_cons_succ])
      (refine Evo.call ok 3 ?_ 20 ?_ (by rfl) (by decide +kernel) (by rfl) ?_ ?_ ?_; rotate_left 2; (focus (intro w'; go_simp <;> with_reducible rfl)); (focus (intro w' g'; with_reducible exact FB.out w' (TT.out.later g'))); simp only [Act.put, List.setIfInBounds_toArray, List.set_cons_zero, List.set_cons_succ])
      first | (refine Evo.value ok 4 ?_ (by rfl) (by decide +kernel) (by rfl) ?_ ?_; rotate_left; (intro w' hg; go_simp <;> with_reducible rfl); simp only [Act.put, List.setIfInBounds_toArray, List.set_cons_zero, List.set_cons_succ]) | (refine Evo.value ok 4 ?_ (by rfl) (by decide +kernel) (by rfl) ?_ ?_; rotate_left; (intro w' hg; go_simp; rw [if_neg (by omega)]); simp only [Act.put, List.setIfInBounds_toArray, List.set_cons_zero, List.set_cons_succ])
      first | (refine Evo.value ok 5 ?_ (by rfl) (by decide +kernel) (by rfl) ?_ ?_; rotate_left; (intro w' hg; go_simp <;> with_reducible rfl); simp only [Act.put, List.setIfInBounds_toArray, List.set_cons_zero, List.set_cons_succ]) | (refine Evo.value ok 5 ?_ (by rfl) (by decide +kernel) (by rfl) ?_ ?_; rotate_left; (intro w' hg; go_simp; rw [if_neg (by omega)]); simp only [Act.put, List.setIfInBounds_toArray, List.set_cons_zero, List.set_cons_succ])
      refine Evo.done (by decide +kernel) (fun wn2 hb2 => ?_)
      have KB2 := Lib.hid (Evo.later hb2)
      have hxwn2c := (bcell hb2).1
      have hxwn2f := (bcell hb2).2.1
      have hxwn2z := (bcell hb2).2.2
      (try (have hlewn2_2 : wn1.heap.size ≤ wn2.heap.size := (by first | omega | (have hh := hxwn2z; (try simp at hh); omega))))
      (try (have hlwn2_2_0 : wn1.heap.size < wn2.heap.size := (by first | omega | (have hh := hxwn2z; (try simp at hh); omega))))
      (try (have hlwn2_2_1 : wn1.heap.size + 1 < wn2.heap.size := (by first | omega | (have hh := hxwn2z; (try simp at hh); omega))))
      (try (have hlwn2_2_2 : wn1.heap.size + 1 + 1 < wn2.heap.size := (by first | omega | (have hh := hxwn2z; (try simp at hh); omega))))
      (try (refine Evo.laterK KB1.out wn2 ?_ (fun hxwn2c1 hxwn2f1 hxwn2z1 => ?_); (focus ((repeat (first | with_reducible exact Grow.G.refl _ | with_reducible exact Below.refl _ _ | with_reducible refine Grow.G.alloc ?_ _ | with_reducible refine Grow.G.trans ?_ hb2 | with_reducible refine Grow.G.trans ?_ hb1 | ((with_reducible refine Below.setCell ?_ ?_ _); rotate_left; (focus (first | omega | (simp; done) | (simp; omega)))))); all_goals fail))))
      (try (have hlewn2_1 : wb1.heap.size ≤ wn2.heap.size := (by first | omega | (have hh := hxwn2z1; (try simp at hh); omega))))
      (try (have hlwn2_1_0 : wb1.heap.size < wn2.heap.size := (by first | omega | (have hh := hxwn2z1; (try simp at hh); omega))))
      (try (have hlwn2_1_1 : wb1.heap.size + 1 < wn2.heap.size := (by first | omega | (have hh := hxwn2z1; (try simp at hh); omega))))
      (try (have hlwn2_1_2 : wb1.heap.size + 1 + 1 < wn2.heap.size := (by first | omega | (have hh := hxwn2z1; (try simp at hh); omega))))
      go_wp2_with fail
      go_ret
      exact ⟨rfl, Grow.G.trans (Below.setCell (Grow.G.trans GB1.out hb1) (by show w.heap.size ≤ gC; omega) _) hb2⟩
    · skip
      obtain ⟨x2, at2⟩ : ∃ x, ([.int .i64 (-1), .int .i64 60, .int .i64 61, .int .i64 n] : List Value)[k4]'(by simpa using a4) = .int .i64 x := ⟨_, listMap (Value.int .i64) [-1, 60, 61, n] 0 k4 (by simpa using a4)⟩
      go_wp2_with fail
      refine (W4.out _).mono ?_
      rintro e wx ⟨rfl, rfl⟩
      go_wp2_with fail
      obtain ⟨y, hy⟩ : ∃ y, routeE (nm) (cf) (ts) (x2) = y := ⟨_, rfl⟩
      have TT := Lib.hid (tgts_alloc (.cells #[.int .i64 (-1), .int .i64 60, .int .i64 61, .int .i64 n] 3) (tgts_far (p := ⟨gC, 3, none⟩) (v := .int .i64 x2) TC4.out (fun b off e => by cases e; show gC ≠ bC; omega)))
      have HK : ∀ i, i < List.length (ts) → (List.getD (ts) i tg0).ok := OKS.out
      have FA := Lib.hid (fun w h => route_at (nm) (cf) (some ⟨bC, 0, none⟩) (ts) (ts.length) cC (x2) w y (rfl) (by omega) (by omega) (by omega) h HK hy)
      have FB := Lib.hid (fun w h => rroute_at (nm) (cf) (some ⟨bC, 0, none⟩) (ts) (ts.length) cC (x2) w y (rfl) (by omega) (by omega) (by omega) h HK hy)
      have hyy : (y == y) = true := by simp
      clear hy HK
      refine Evo.start' (ℓ := none) (T := Grow.G) (by kernel_rfl) ⟨Evo.preG, by decide +kernel, (by intro c a d v w h; cases d <;> exact h), by decide +kernel⟩ (fun ok => ?_)
      first | (refine Evo.value ok 0 ?_ (by rfl) (by decide +kernel) (by rfl) ?_ ?_; rotate_left; (intro w' hg; have hgc := (bcell hg).1; have hgf := (bcell hg).2.1; (try (have hlew_1 : wb1.heap.size ≤ w'.heap.size := (by first | omega | (have hh := (bcell hg).2.2; (try simp at hh); omega)))); (try (have hlw_1_0 : wb1.heap.size < w'.heap.size := (by first | omega | (have hh := (bcell hg).2.2; (try simp at hh); omega)))); (try (have hlw_1_1 : wb1.heap.size + 1 < w'.heap.size := (by first | omega | (have hh := (bcell hg).2.2; (try simp at hh); omega)))); (try (have hlw_1_2 : wb1.heap.size + 1 + 1 < w'.heap.size := (by first | omega | (have hh := (bcell hg).2.2; (try simp at hh); omega)))); go_simp <;> with_reducible rfl); simp only [Act.put, List.setIfInBounds_toArray, List.set_cons_zero, List.set_cons_succ]) | (refine Evo.value ok 0 ?_ (by rfl) (by decide +kernel) (by rfl) ?_ ?_; rotate_left; (intro w' hg; go_simp <;> with_reducible rfl); simp only [Act.put, List.setIfInBounds_toArray, List.set_cons_zero, List.set_cons_succ])
      (refine Evo.call ok 1 ?_ 19 ?_ (by rfl) (by decide +kernel) (by rfl) ?_ ?_ ?_; rotate_left 2; (focus (intro w'; go_simp <;> with_reducible rfl)); (focus (intro w' g'; with_reducible exact FA.out w' (TT.out.later g'))); simp only [Act.put, List.setIfInBounds_toArray, List.set_cons_zero, List.set_cons_succ])
      first | (refine Evo.value ok 2 ?_ (by rfl) (by decide +kernel) (by rfl) ?_ ?_; rotate_left; (intro w' hg; have hgc := (bcell hg).1; have hgf := (bcell hg).2.1; (try (have hlew_1 : wb1.heap.size ≤ w'.heap.size := (by first | omega | (have hh := (bcell hg).2.2; (try simp at hh); omega)))); (try (have hlw_1_0 : wb1.heap.size < w'.heap.size := (by first | omega | (have hh := (bcell hg).2.2; (try simp at hh); omega)))); (try (have hlw_1_1 : wb1.heap.size + 1 < w'.heap.size := (by first | omega | (have hh := (bcell hg).2.2; (try simp at hh); omega)))); (try (have hlw_1_2 : wb1.heap.size + 1 + 1 < w'.heap.size := (by first | omega | (have hh := (bcell hg).2.2; (try simp at hh); omega)))); go_simp <;> with_reducible rfl); simp only [Act.put, List.setIfInBounds_toArray, List.set_cons_zero, List.set_cons_succ]) | (refine Evo.value ok 2 ?_ (by rfl) (by decide +kernel) (by rfl) ?_ ?_; rotate_left; (intro w' hg; go_simp <;> with_reducible rfl); simp only [Act.put, List.setIfInBounds_toArray, List.set_cons_zero, List.set_cons_succ])
      (refine Evo.call ok 3 ?_ 20 ?_ (by rfl) (by decide +kernel) (by rfl) ?_ ?_ ?_; rotate_left 2; (focus (intro w'; go_simp <;> with_reducible rfl)); (focus (intro w' g'; with_reducible exact FB.out w' (TT.out.later g'))); simp only [Act.put, List.setIfInBounds_toArray, List.set_cons_zero, List.set_cons_succ])
      first | (refine Evo.value ok 4 ?_ (by rfl) (by decide +kernel) (by rfl) ?_ ?_; rotate_left; (intro w' hg; go_simp <;> with_reducible rfl); simp only [Act.put, List.setIfInBounds_toArray, List.set_cons_zero, List.set_cons_succ]) | (refine Evo.value ok 4 ?_ (by rfl) (by decide +kernel) (by rfl) ?_ ?_; rotate_left; (intro w' hg; go_simp; rw [if_neg (by omega)]); simp only [Act.put, List.setIfInBounds_toArray, List.set_cons_zero, List.set_cons_succ])
      first | (refine Evo.value ok 5 ?_ (by rfl) (by decide +kernel) (by rfl) ?_ ?_; rotate_left; (intro w' hg; go_simp <;> with_reducible rfl); simp only [Act.put, List.setIfInBounds_toArray, List.set_cons_zero, List.set_cons_succ]) | (refine Evo.value ok 5 ?_ (by rfl) (by decide +kernel) (by rfl) ?_ ?_; rotate_left; (intro w' hg; go_simp; rw [if_neg (by omega)]); simp only [Act.put, List.setIfInBounds_toArray, List.set_cons_zero, List.set_cons_succ])
      refine Evo.done (by decide +kernel) (fun wn1 hb1 => ?_)
      have KB1 := Lib.hid (Evo.later hb1)
      have hxwn1c := (bcell hb1).1
      have hxwn1f := (bcell hb1).2.1
      have hxwn1z := (bcell hb1).2.2
      (try (have hlewn1_1 : wb1.heap.size ≤ wn1.heap.size := (by first | omega | (have hh := hxwn1z; (try simp at hh); omega))))
      (try (have hlwn1_1_0 : wb1.heap.size < wn1.heap.size := (by first | omega | (have hh := hxwn1z; (try simp at hh); omega))))
      (try (have hlwn1_1_1 : wb1.heap.size + 1 < wn1.heap.size := (by first | omega | (have hh := hxwn1z; (try simp at hh); omega))))
      (try (have hlwn1_1_2 : wb1.heap.size + 1 + 1 < wn1.heap.size := (by first | omega | (have hh := hxwn1z; (try simp at hh); omega))))
      go_wp2_with fail
      go_ret
      exact ⟨rfl, Grow.G.trans (Grow.G.alloc (Below.setCell GB1.out (by show w.heap.size ≤ gC; omega) _) _) hb1⟩
    · skip
      obtain ⟨i0, hi, hz0, hz1, hz2⟩ := info_parts infoT
      have HI := Lib.hid hi; have HZ0 := Lib.hid hz0; have HZ1 := Lib.hid hz1; have HZ2 := Lib.hid hz2
      clear hi hz0 hz1 hz2
      have OE := Lib.hid (own_base (own_empty wb1 41 3) (show w.heap.size ≤ wb1.heap.size from GB1.out.size))
      have NW := Lib.hid ((OC4.out.alloc (.cells #[] 41)).cells (g := bC) rfl)
      have FL := flatT_len ts
      have FL := Lib.hid FL
      go_wp2_with (at_builtin; refine wpList_append_own _ rfl _ _ 33 rfl w.heap.size 41 i0 (.agg #[.string ⟨#[]⟩, .string ⟨#[]⟩, .int .i64 0]) 3 40 Try.underlying33 HI.out HZ0.out HZ1.out HZ2.out rfl (by decide) _ _ _ rfl OE.out ⟨bC, 0, none⟩ ts.length cC (flatT ts) rfl FL.out NW.out (flatT_one ts) ?_ ?_ ?_ ?_)
      · unfold maxLen; omega
      · omega
      · simp; omega
      · intro v' w1 hown hgr _
        obtain ⟨b1, cp1, rfl, hb1⟩ := own_some hown (by omega)
        have hblk : ∀ b, b < wb1.heap.size → w1.heap[b]? = wb1.heap[b]? := fun b hb => (hgr.block b (by simp; omega) (fun e => by simp [Value.ownBlock] at e; omega)).trans (Below.heap_alloc wb1 _ b hb)
        have hcl : ∀ o, w1.cell? ⟨gC, o, none⟩ = wb1.cell? ⟨gC, o, none⟩ := fun o => World.cell?_of_block (w := wb1) (w' := w1) (a := ⟨gC, o, none⟩) (hblk gC r1_0z)
        have hfr : ∀ o, w1.frozen? ⟨gC, o, none⟩ = wb1.frozen? ⟨gC, o, none⟩ := fun o => World.frozen?_of_block (w := wb1) (w' := w1) (a := ⟨gC, o, none⟩) (hblk gC r1_0z)
        have q0 := (hcl 0).trans r1_0
        have q1 := (hcl 1).trans r1_1
        have q2 := (hcl 2).trans r1_2
        have q3 := (hcl 3).trans r1_3
        have q4 := (hfr 2).trans r1_2f
        have GG1 := Lib.hid (own_grow (Grow.G.alloc GB1.out _) OE.out (Nat.le_refl _) hgr)
        have l1 : gC < w1.heap.size := Nat.lt_of_lt_of_le (show gC < _ by simp; omega) hgr.size
        have hne : gC ≠ b1 := fun e => by
          subst e
          obtain ⟨b', off', hbo, d0, d1, d2⟩ := (own_tgts hown).2.1.at (show 0 < ts.length by omega)
          cases hbo
          have := q2.symm.trans d2
          cases this
        have OW := Lib.hid hown
        clear hown hgr hblk hcl hfr r1_0 r1_1 r1_2 r1_3 r1_0f r1_1f r1_2f r1_3f NW FL OE OC4 TC4 FC4 HY4
        go_wp2_with fail
        refine (W7.out _).mono ?_
        rintro e wx ⟨rfl, rfl⟩
        have ZF := zeros_flat k7 a7
        have ONE : ∀ u ∈ (Builtin.zeroCells (Value.agg #[.string ⟨#[]⟩, .string ⟨#[]⟩, .int .i64 0]).cells k7).toList, u.oneCell' = true := by rw [ZF]; exact flatT_one _
        have ZF := Lib.hid ZF
        have ONE := Lib.hid ONE
        go_wp2_with (at_builtin; refine Zeros.wpList_append_zeros _ rfl _ _ 33 3 rfl w.heap.size 41 i0 (.agg #[.string ⟨#[]⟩, .string ⟨#[]⟩, .int .i64 0]) .i64 Try.underlying33 Try.underlying3 HI.out HZ0.out 3 40 HZ1.out HZ2.out rfl (by decide) b1 ts.length cp1 (flatT ts) rfl OW.out k7 ONE.out rfl ?_ ?_ ?_ ?_)
        · unfold maxLen; omega
        · omega
        · exact GG1.out.size
        · intro v2 w2 hown2 hgr2
          obtain ⟨b2, cp2, rfl, hb2⟩ := own_some hown2 (by omega)
          have hown2 : w2.ownsRow w.heap.size 41 3 (.slice (some ⟨b2, 0, none⟩) (ts.length + k7) cp2) (ts.length + k7) (flatT (ts ++ List.replicate k7 tg0)) := by
            rw [flatT_app, ← ZF.out]
            exact hown2
          have hblk : w2.heap[gC]? = w1.heap[gC]? := hgr2.block gC l1 (fun e => hne (by cases e; rfl))
          have hcl : ∀ o, w2.cell? ⟨gC, o, none⟩ = w1.cell? ⟨gC, o, none⟩ := fun o => World.cell?_of_block (w := w1) (w' := w2) (a := ⟨gC, o, none⟩) hblk
          have hfr : ∀ o, w2.frozen? ⟨gC, o, none⟩ = w1.frozen? ⟨gC, o, none⟩ := fun o => World.frozen?_of_block (w := w1) (w' := w2) (a := ⟨gC, o, none⟩) hblk
          have e0 := (hcl 0).trans q0
          have e1 := (hcl 1).trans q1
          have e2 := (hcl 2).trans q2
          have e3 := (hcl 3).trans q3
          have e4 := (hfr 2).trans q4
          have TC2 := (own_tgts hown2).2.1
          have hne2 : gC ≠ b2 := fun e => by
            subst e
            obtain ⟨b', off', hbo, d0, d1, d2⟩ := TC2.at (show 0 < (ts ++ List.replicate k7 tg0).length by rw [List.length_append]; omega)
            cases hbo
            have := e2.symm.trans d2
            cases this
          have GG2 := Lib.hid (own_grow GG1.out OW.out (Nat.le_refl _) hgr2)
          have l2 : gC < w2.heap.size := Nat.lt_of_lt_of_le l1 hgr2.size
          have TC2 := Lib.hid TC2
          clear hown2 hgr2 hblk hcl hfr q0 q1 q2 q3 q4 OW GG1 ZF ONE hne
          go_wp2_with fail
          obtain ⟨y, hy⟩ : ∃ y, routeE (nm) (cf) (ts ++ List.replicate k7 tg0) (ro) = y := ⟨_, rfl⟩
          have TT := Lib.hid (tgts_far (p := ⟨gC, 2, none⟩) (v := .slice (some ⟨b2, 0, none⟩) (ts.length + k7) cp2) TC2.out (fun b off e => by cases e; exact hne2))
          have HK : ∀ i, i < List.length (ts ++ List.replicate k7 tg0) → (List.getD (ts ++ List.replicate k7 tg0) i tg0).ok := app_ok OKS.out (fun t ht => by rw [List.eq_of_mem_replicate ht]; exact ⟨by decide, by decide, by decide, by decide⟩)
          have FA := Lib.hid (fun w h => route_at (nm) (cf) (some ⟨b2, 0, none⟩) (ts ++ List.replicate k7 tg0) (ts.length + k7) cp2 (ro) w y (by simp) (by omega) (by omega) (by rw [List.length_append, List.length_replicate]; omega) h HK hy)
          have FB := Lib.hid (fun w h => rroute_at (nm) (cf) (some ⟨b2, 0, none⟩) (ts ++ List.replicate k7 tg0) (ts.length + k7) cp2 (ro) w y (by simp) (by omega) (by omega) (by rw [List.length_append, List.length_replicate]; omega) h HK hy)
          have hyy : (y == y) = true := by simp
          clear hy HK
          refine Evo.start' (ℓ := none) (T := Grow.G) (by kernel_rfl) ⟨Evo.preG, by decide +kernel, (by intro c a d v w h; cases d <;> exact h), by decide +kernel⟩ (fun ok => ?_)
          first | (refine Evo.value ok 0 ?_ (by rfl) (by decide +kernel) (by rfl) ?_ ?_; rotate_left; (intro w' hg; have hgc := (bcell hg).1; have hgf := (bcell hg).2.1; (try (have hlew_1 : wb1.heap.size ≤ w'.heap.size := (by first | omega | (have hh := (bcell hg).2.2; (try simp at hh); omega)))); (try (have hlw_1_0 : wb1.heap.size < w'.heap.size := (by first | omega | (have hh := (bcell hg).2.2; (try simp at hh); omega)))); (try (have hlw_1_1 : wb1.heap.size + 1 < w'.heap.size := (by first | omega | (have hh := (bcell hg).2.2; (try simp at hh); omega)))); (try (have hlw_1_2 : wb1.heap.size + 1 + 1 < w'.heap.size := (by first | omega | (have hh := (bcell hg).2.2; (try simp at hh); omega)))); go_simp <;> with_reducible rfl); simp only [Act.put, List.setIfInBounds_toArray, List.set_cons_zero, List.set_cons_succ]) | (refine Evo.value ok 0 ?_ (by rfl) (by decide +kernel) (by rfl) ?_ ?_; rotate_left; (intro w' hg; go_simp <;> with_reducible rfl); simp only [Act.put, List.setIfInBounds_toArray, List.set_cons_zero, List.set_cons_succ])
          (refine Evo.call ok 1 ?_ 19 ?_ (by rfl) (by decide +kernel) (by rfl) ?_ ?_ ?_; rotate_left 2; (focus (intro w'; go_simp <;> with_reducible rfl)); (focus (intro w' g'; with_reducible exact FA.out w' (TT.out.later g'))); simp only [Act.put, List.setIfInBounds_toArray, List.set_cons_zero, List.set_cons_succ])
          first | (refine Evo.value ok 2 ?_ (by rfl) (by decide +kernel) (by rfl) ?_ ?_; rotate_left; (intro w' hg; have hgc := (bcell hg).1; have hgf := (bcell hg).2.1; (try (have hlew_1 : wb1.heap.size ≤ w'.heap.size := (by first | omega | (have hh := (bcell hg).2.2; (try simp at hh); omega)))); (try (have hlw_1_0 : wb1.heap.size < w'.heap.size := (by first | omega | (have hh := (bcell hg).2.2; (try simp at hh); omega)))); (try (have hlw_1_1 : wb1.heap.size + 1 < w'.heap.size := (by first | omega | (have hh := (bcell hg).2.2; (try simp at hh); omega)))); (try (have hlw_1_2 : wb1.heap.size + 1 + 1 < w'.heap.size := (by first | omega | (have hh := (bcell hg).2.2; (try simp at hh); omega)))); go_simp <;> with_reducible rfl); simp only [Act.put, List.setIfInBounds_toArray, List.set_cons_zero, List.set_cons_succ]) | (refine Evo.value ok 2 ?_ (by rfl) (by decide +kernel) (by rfl) ?_ ?_; rotate_left; (intro w' hg; go_simp <;> with_reducible rfl); simp only [Act.put, List.setIfInBounds_toArray, List.set_cons_zero, List.set_cons_succ])
          (refine Evo.call ok 3 ?_ 20 ?_ (by rfl) (by decide +kernel) (by rfl) ?_ ?_ ?_; rotate_left 2; (focus (intro w'; go_simp <;> with_reducible rfl)); (focus (intro w' g'; with_reducible exact FB.out w' (TT.out.later g'))); simp only [Act.put, List.setIfInBounds_toArray, List.set_cons_zero, List.set_cons_succ])
          first | (refine Evo.value ok 4 ?_ (by rfl) (by decide +kernel) (by rfl) ?_ ?_; rotate_left; (intro w' hg; go_simp <;> with_reducible rfl); simp only [Act.put, List.setIfInBounds_toArray, List.set_cons_zero, List.set_cons_succ]) | (refine Evo.value ok 4 ?_ (by rfl) (by decide +kernel) (by rfl) ?_ ?_; rotate_left; (intro w' hg; go_simp; rw [if_neg (by omega)]); simp only [Act.put, List.setIfInBounds_toArray, List.set_cons_zero, List.set_cons_succ])
          first | (refine Evo.value ok 5 ?_ (by rfl) (by decide +kernel) (by rfl) ?_ ?_; rotate_left; (intro w' hg; go_simp <;> with_reducible rfl); simp only [Act.put, List.setIfInBounds_toArray, List.set_cons_zero, List.set_cons_succ]) | (refine Evo.value ok 5 ?_ (by rfl) (by decide +kernel) (by rfl) ?_ ?_; rotate_left; (intro w' hg; go_simp; rw [if_neg (by omega)]); simp only [Act.put, List.setIfInBounds_toArray, List.set_cons_zero, List.set_cons_succ])
          refine Evo.done (by decide +kernel) (fun wn1 hb1 => ?_)
          have KB1 := Lib.hid (Evo.later hb1)
          have hxwn1c := (bcell hb1).1
          have hxwn1f := (bcell hb1).2.1
          have hxwn1z := (bcell hb1).2.2
          (try (have hlewn1_1 : wb1.heap.size ≤ wn1.heap.size := (by first | omega | (have hh := hxwn1z; (try simp at hh); omega))))
          (try (have hlwn1_1_0 : wb1.heap.size < wn1.heap.size := (by first | omega | (have hh := hxwn1z; (try simp at hh); omega))))
          (try (have hlwn1_1_1 : wb1.heap.size + 1 < wn1.heap.size := (by first | omega | (have hh := hxwn1z; (try simp at hh); omega))))
          (try (have hlwn1_1_2 : wb1.heap.size + 1 + 1 < wn1.heap.size := (by first | omega | (have hh := hxwn1z; (try simp at hh); omega))))
          go_wp2_with fail
          go_ret
          exact ⟨rfl, Grow.G.trans (Below.setCell GG2.out (by show w.heap.size ≤ gC; omega) _) hb1⟩
    · skip
      obtain ⟨b', off', hbo, c0, c1, c2⟩ := TC4.out.at hk
      obtain ⟨rfl, rfl⟩ : bC = b' ∧ 0 = off' := by cases hbo; exact ⟨rfl, rfl⟩
      rw [Nat.zero_add] at c0 c1 c2
      clear hbo
      have pk := PCS.out k hk
      have OK := OKS.out k hk
      generalize hT : ts.getD k tg0 = t0 at *
      have TT0 := Lib.hid hT
      clear hT
      have p1 := pk.1
      have p2 := pk.2
      have TX := Lib.hid (fun w h => text_any u ys w h)
      have TZ := textS_size ys
      generalize textS ys = t at *
      have z2 : (⟨#[119, 101, 98, 45]⟩ : ByteArray).size = 4 := rfl
      go_wp2_with fail
      refine Evo.start' (ℓ := some 8) (T := Grow.G) (by kernel_rfl) ⟨Evo.preG, by decide +kernel, (by intro c a d v w h; cases d <;> exact h), by decide +kernel⟩ (fun ok => ?_)
      first | (refine Evo.value ok 0 ?_ (by rfl) (by decide +kernel) (by rfl) ?_ ?_; rotate_left; (intro w' hg; go_simp <;> with_reducible rfl); simp only [Act.put, List.setIfInBounds_toArray, List.set_cons_zero, List.set_cons_succ]) | (refine Evo.value ok 0 ?_ (by rfl) (by decide +kernel) (by rfl) ?_ ?_; rotate_left; (intro w' hg; go_simp; rw [if_neg (by omega)]); simp only [Act.put, List.setIfInBounds_toArray, List.set_cons_zero, List.set_cons_succ])
      first | (refine Evo.value ok 1 ?_ (by rfl) (by decide +kernel) (by rfl) ?_ ?_; rotate_left; (intro w' hg; have hgc := (bcell hg).1; have hgf := (bcell hg).2.1; (try (have hlew_1 : wb1.heap.size ≤ w'.heap.size := (by first | omega | (have hh := (bcell hg).2.2; (try simp at hh); omega)))); (try (have hlw_1_0 : wb1.heap.size < w'.heap.size := (by first | omega | (have hh := (bcell hg).2.2; (try simp at hh); omega)))); (try (have hlw_1_1 : wb1.heap.size + 1 < w'.heap.size := (by first | omega | (have hh := (bcell hg).2.2; (try simp at hh); omega)))); (try (have hlw_1_2 : wb1.heap.size + 1 + 1 < w'.heap.size := (by first | omega | (have hh := (bcell hg).2.2; (try simp at hh); omega)))); go_simp <;> with_reducible rfl); simp only [Act.put, List.setIfInBounds_toArray, List.set_cons_zero, List.set_cons_succ]) | (refine Evo.value ok 1 ?_ (by rfl) (by decide +kernel) (by rfl) ?_ ?_; rotate_left; (intro w' hg; go_simp <;> with_reducible rfl); simp only [Act.put, List.setIfInBounds_toArray, List.set_cons_zero, List.set_cons_succ])
      first | (refine Evo.value ok 2 ?_ (by rfl) (by decide +kernel) (by rfl) ?_ ?_; rotate_left; (intro w' hg; go_simp <;> with_reducible rfl); simp only [Act.put, List.setIfInBounds_toArray, List.set_cons_zero, List.set_cons_succ]) | (refine Evo.value ok 2 ?_ (by rfl) (by decide +kernel) (by rfl) ?_ ?_; rotate_left; (intro w' hg; go_simp; rw [if_neg (by omega)]); simp only [Act.put, List.setIfInBounds_toArray, List.set_cons_zero, List.set_cons_succ])
      first | (refine Evo.value ok 3 ?_ (by rfl) (by decide +kernel) (by rfl) ?_ ?_; rotate_left; (intro w' hg; go_simp <;> with_reducible rfl); simp only [Act.put, List.setIfInBounds_toArray, List.set_cons_zero, List.set_cons_succ]) | (refine Evo.value ok 3 ?_ (by rfl) (by decide +kernel) (by rfl) ?_ ?_; rotate_left; (intro w' hg; go_simp; rw [if_neg (by omega)]); simp only [Act.put, List.setIfInBounds_toArray, List.set_cons_zero, List.set_cons_succ])
      (refine Evo.call ok 4 ?_ 16 ?_ (by rfl) (by decide +kernel) (by rfl) ?_ ?_ ?_; rotate_left 2; (focus (intro w'; go_simp <;> with_reducible rfl)); (focus (intro w' g'; with_reducible exact TX.out w' (HY4.out.below g'))); simp only [Act.put, List.setIfInBounds_toArray, List.set_cons_zero, List.set_cons_succ])
      first | (refine Evo.value ok 5 ?_ (by rfl) (by decide +kernel) (by rfl) ?_ ?_; rotate_left; (intro w' hg; go_simp <;> with_reducible rfl); simp only [Act.put, List.setIfInBounds_toArray, List.set_cons_zero, List.set_cons_succ]) | (refine Evo.value ok 5 ?_ (by rfl) (by decide +kernel) (by rfl) ?_ ?_; rotate_left; (intro w' hg; go_simp; rw [if_neg (by omega)]); simp only [Act.put, List.setIfInBounds_toArray, List.set_cons_zero, List.set_cons_succ])
      first | (refine Evo.value ok 6 ?_ (by rfl) (by decide +kernel) (by rfl) ?_ ?_; rotate_left; (intro w' hg; go_simp <;> with_reducible rfl); simp only [Act.put, List.setIfInBounds_toArray, List.set_cons_zero, List.set_cons_succ]) | (refine Evo.value ok 6 ?_ (by rfl) (by decide +kernel) (by rfl) ?_ ?_; rotate_left; (intro w' hg; go_simp; rw [if_neg (by omega)]); simp only [Act.put, List.setIfInBounds_toArray, List.set_cons_zero, List.set_cons_succ])
      first | (refine Evo.value ok 7 ?_ (by rfl) (by decide +kernel) (by rfl) ?_ ?_; rotate_left; (intro w' hg; go_simp <;> with_reducible rfl); simp only [Act.put, List.setIfInBounds_toArray, List.set_cons_zero, List.set_cons_succ]) | (refine Evo.value ok 7 ?_ (by rfl) (by decide +kernel) (by rfl) ?_ ?_; rotate_left; (intro w' hg; go_simp; rw [if_neg (by omega)]); simp only [Act.put, List.setIfInBounds_toArray, List.set_cons_zero, List.set_cons_succ])
      refine Evo.all [8] (by decide +kernel) rfl ?_
      intro wn1 hb1 iq1 hq1
      have KB1 := Lib.hid (Evo.later hb1)
      have hxwn1c := (bcell hb1).1
      have hxwn1f := (bcell hb1).2.1
      have hxwn1z := (bcell hb1).2.2
      (try (have hlewn1_1 : wb1.heap.size ≤ wn1.heap.size := (by first | omega | (have hh := hxwn1z; (try simp at hh); omega))))
      (try (have hlwn1_1_0 : wb1.heap.size < wn1.heap.size := (by first | omega | (have hh := hxwn1z; (try simp at hh); omega))))
      (try (have hlwn1_1_1 : wb1.heap.size + 1 < wn1.heap.size := (by first | omega | (have hh := hxwn1z; (try simp at hh); omega))))
      (try (have hlwn1_1_2 : wb1.heap.size + 1 + 1 < wn1.heap.size := (by first | omega | (have hh := hxwn1z; (try simp at hh); omega))))
      simp only [List.mem_cons, List.mem_nil_iff, or_false] at hq1
      subst hq1
      refine Evo.runs (by rfl) (by rfl) (fun K' hK' => ?_)
      go_simp
      (try (simp only [Evo.after_value, Evo.after_skip]))
      refine hK'.out _ _ ?_
      clear hK'
      simp only [Act.put, List.setIfInBounds_toArray, List.set_cons_zero, List.set_cons_succ]
      refine ⟨.inl (by first | rfl | trivial), ?_⟩
      refine Evo.done (by decide +kernel) (fun wn2 hb2 => ?_)
      have KB2 := Lib.hid (Evo.later hb2)
      have hxwn2c := (bcell hb2).1
      have hxwn2f := (bcell hb2).2.1
      have hxwn2z := (bcell hb2).2.2
      (try (have hlewn2_2 : wn1.heap.size ≤ wn2.heap.size := (by first | omega | (have hh := hxwn2z; (try simp at hh); omega))))
      (try (have hlwn2_2_0 : wn1.heap.size < wn2.heap.size := (by first | omega | (have hh := hxwn2z; (try simp at hh); omega))))
      (try (have hlwn2_2_1 : wn1.heap.size + 1 < wn2.heap.size := (by first | omega | (have hh := hxwn2z; (try simp at hh); omega))))
      (try (have hlwn2_2_2 : wn1.heap.size + 1 + 1 < wn2.heap.size := (by first | omega | (have hh := hxwn2z; (try simp at hh); omega))))
      (try (refine Evo.laterK KB1.out wn2 ?_ (fun hxwn2c1 hxwn2f1 hxwn2z1 => ?_); (focus ((repeat (first | with_reducible exact Grow.G.refl _ | with_reducible exact Below.refl _ _ | with_reducible refine Grow.G.alloc ?_ _ | with_reducible refine Grow.G.trans ?_ hb2 | with_reducible refine Grow.G.trans ?_ hb1 | ((with_reducible refine Below.setCell ?_ ?_ _); rotate_left; (focus (first | omega | (simp; done) | (simp; omega)))))); all_goals fail))))
      (try (have hlewn2_1 : wb1.heap.size ≤ wn2.heap.size := (by first | omega | (have hh := hxwn2z1; (try simp at hh); omega))))
      (try (have hlwn2_1_0 : wb1.heap.size < wn2.heap.size := (by first | omega | (have hh := hxwn2z1; (try simp at hh); omega))))
      (try (have hlwn2_1_1 : wb1.heap.size + 1 < wn2.heap.size := (by first | omega | (have hh := hxwn2z1; (try simp at hh); omega))))
      (try (have hlwn2_1_2 : wb1.heap.size + 1 + 1 < wn2.heap.size := (by first | omega | (have hh := hxwn2z1; (try simp at hh); omega))))
      have m1 : gC < wn1.heap.size := by omega
      have m2 : gC < wn2.heap.size := by omega
      have ne2 : ¬ gC = bC := by omega
      go_wp2_with fail
      obtain ⟨y, hy⟩ : ∃ y, routeE (nm) (cf) (ts.set k ⟨⟨#[119, 101, 98, 45]⟩ ++ t, t0.tg, t0.pc⟩) (ro) = y := ⟨_, rfl⟩
      have TT := Lib.hid ((tgts_set (j := 0) (v := .string (⟨#[119, 101, 98, 45]⟩ ++ t)) (t := ⟨⟨#[119, 101, 98, 45]⟩ ++ t, t0.tg, t0.pc⟩) (TC4.out.later hb1) hk (by decide) (.inl ⟨rfl, rfl, by rw [TT0.out], by rw [TT0.out]⟩)).later hb2)
      have HK : ∀ i, i < List.length (ts.set k ⟨⟨#[119, 101, 98, 45]⟩ ++ t, t0.tg, t0.pc⟩) → (List.getD (ts.set k ⟨⟨#[119, 101, 98, 45]⟩ ++ t, t0.tg, t0.pc⟩) i tg0).ok := set_ok OKS.out ⟨by show ByteArray.size (_ ++ _) ≤ _; rw [ByteArray.size_append, z2]; omega, OK.2.1, OK.2.2⟩
      have FA := Lib.hid (fun w h => route_at (nm) (cf) (some ⟨bC, 0, none⟩) (ts.set k ⟨⟨#[119, 101, 98, 45]⟩ ++ t, t0.tg, t0.pc⟩) (ts.length) cC (ro) w y (by rw [List.length_set]) (by omega) (by omega) (by rw [List.length_set]; omega) h HK hy)
      have FB := Lib.hid (fun w h => rroute_at (nm) (cf) (some ⟨bC, 0, none⟩) (ts.set k ⟨⟨#[119, 101, 98, 45]⟩ ++ t, t0.tg, t0.pc⟩) (ts.length) cC (ro) w y (by rw [List.length_set]) (by omega) (by omega) (by rw [List.length_set]; omega) h HK hy)
      have hyy : (y == y) = true := by simp
      clear hy HK
      refine Evo.start' (ℓ := none) (T := Grow.G) (by kernel_rfl) ⟨Evo.preG, by decide +kernel, (by intro c a d v w h; cases d <;> exact h), by decide +kernel⟩ (fun ok => ?_)
      first | (refine Evo.value ok 0 ?_ (by rfl) (by decide +kernel) (by rfl) ?_ ?_; rotate_left; (intro w' hg; have hgc := (bcell hg).1; have hgf := (bcell hg).2.1; (try (have hlew_3 : wn2.heap.size ≤ w'.heap.size := (by first | omega | (have hh := (bcell hg).2.2; (try simp at hh); omega)))); (try (have hlw_3_0 : wn2.heap.size < w'.heap.size := (by first | omega | (have hh := (bcell hg).2.2; (try simp at hh); omega)))); (try (have hlw_3_1 : wn2.heap.size + 1 < w'.heap.size := (by first | omega | (have hh := (bcell hg).2.2; (try simp at hh); omega)))); (try (have hlw_3_2 : wn2.heap.size + 1 + 1 < w'.heap.size := (by first | omega | (have hh := (bcell hg).2.2; (try simp at hh); omega)))); (try (refine Evo.laterK KB1.out w' ?_ (fun hxwc1 hxwf1 hxwz1 => ?_); (focus ((repeat (first | with_reducible exact Grow.G.refl _ | with_reducible exact Below.refl _ _ | with_reducible refine Grow.G.alloc ?_ _ | with_reducible refine Grow.G.trans ?_ hb3 | with_reducible refine Grow.G.trans ?_ hb2 | with_reducible refine Grow.G.trans ?_ hb1 | ((with_reducible refine Below.setCell ?_ ?_ _); rotate_left; (focus (first | omega | (simp; done) | (simp; omega)))))); all_goals fail)))); (try (have hlew_1 : wb1.heap.size ≤ w'.heap.size := (by first | omega | (have hh := hxwz1; (try simp at hh); omega)))); (try (have hlw_1_0 : wb1.heap.size < w'.heap.size := (by first | omega | (have hh := hxwz1; (try simp at hh); omega)))); (try (have hlw_1_1 : wb1.heap.size + 1 < w'.heap.size := (by first | omega | (have hh := hxwz1; (try simp at hh); omega)))); (try (have hlw_1_2 : wb1.heap.size + 1 + 1 < w'.heap.size := (by first | omega | (have hh := hxwz1; (try simp at hh); omega)))); (try (refine Evo.laterK KB2.out w' ?_ (fun hxwc2 hxwf2 hxwz2 => ?_); (focus ((repeat (first | with_reducible exact Grow.G.refl _ | with_reducible exact Below.refl _ _ | with_reducible refine Grow.G.alloc ?_ _ | with_reducible refine Grow.G.trans ?_ hb3 | with_reducible refine Grow.G.trans ?_ hb2 | with_reducible refine Grow.G.trans ?_ hb1 | ((with_reducible refine Below.setCell ?_ ?_ _); rotate_left; (focus (first | omega | (simp; done) | (simp; omega)))))); all_goals fail)))); (try (have hlew_2 : wn1.heap.size ≤ w'.heap.size := (by first | omega | (have hh := hxwz2; (try simp at hh); omega)))); (try (have hlw_2_0 : wn1.heap.size < w'.heap.size := (by first | omega | (have hh := hxwz2; (try simp at hh); omega)))); (try (have hlw_2_1 : wn1.heap.size + 1 < w'.heap.size := (by first | omega | (have hh := hxwz2; (try simp at hh); omega)))); (try (have hlw_2_2 : wn1.heap.size + 1 + 1 < w'.heap.size := (by first | omega | (have hh := hxwz2; (try simp at hh); omega)))); go_simp <;> with_reducible rfl); simp only [Act.put, List.setIfInBounds_toArray, List.set_cons_zero, List.set_cons_succ]) | (refine Evo.value ok 0 ?_ (by rfl) (by decide +kernel) (by rfl) ?_ ?_; rotate_left; (intro w' hg; go_simp <;> with_reducible rfl); simp only [Act.put, List.setIfInBounds_toArray, List.set_cons_zero, List.set_cons_succ])
      (refine Evo.call ok 1 ?_ 19 ?_ (by rfl) (by decide +kernel) (by rfl) ?_ ?_ ?_; rotate_left 2; (focus (intro w'; go_simp <;> with_reducible rfl)); (focus (intro w' g'; with_reducible exact FA.out w' (TT.out.later g'))); simp only [Act.put, List.setIfInBounds_toArray, List.set_cons_zero, List.set_cons_succ])
      first | (refine Evo.value ok 2 ?_ (by rfl) (by decide +kernel) (by rfl) ?_ ?_; rotate_left; (intro w' hg; have hgc := (bcell hg).1; have hgf := (bcell hg).2.1; (try (have hlew_3 : wn2.heap.size ≤ w'.heap.size := (by first | omega | (have hh := (bcell hg).2.2; (try simp at hh); omega)))); (try (have hlw_3_0 : wn2.heap.size < w'.heap.size := (by first | omega | (have hh := (bcell hg).2.2; (try simp at hh); omega)))); (try (have hlw_3_1 : wn2.heap.size + 1 < w'.heap.size := (by first | omega | (have hh := (bcell hg).2.2; (try simp at hh); omega)))); (try (have hlw_3_2 : wn2.heap.size + 1 + 1 < w'.heap.size := (by first | omega | (have hh := (bcell hg).2.2; (try simp at hh); omega)))); (try (refine Evo.laterK KB1.out w' ?_ (fun hxwc1 hxwf1 hxwz1 => ?_); (focus ((repeat (first | with_reducible exact Grow.G.refl _ | with_reducible exact Below.refl _ _ | with_reducible refine Grow.G.alloc ?_ _ | with_reducible refine Grow.G.trans ?_ hb3 | with_reducible refine Grow.G.trans ?_ hb2 | with_reducible refine Grow.G.trans ?_ hb1 | ((with_reducible refine Below.setCell ?_ ?_ _); rotate_left; (focus (first | omega | (simp; done) | (simp; omega)))))); all_goals fail)))); (try (have hlew_1 : wb1.heap.size ≤ w'.heap.size := (by first | omega | (have hh := hxwz1; (try simp at hh); omega)))); (try (have hlw_1_0 : wb1.heap.size < w'.heap.size := (by first | omega | (have hh := hxwz1; (try simp at hh); omega)))); (try (have hlw_1_1 : wb1.heap.size + 1 < w'.heap.size := (by first | omega | (have hh := hxwz1; (try simp at hh); omega)))); (try (have hlw_1_2 : wb1.heap.size + 1 + 1 < w'.heap.size := (by first | omega | (have hh := hxwz1; (try simp at hh); omega)))); (try (refine Evo.laterK KB2.out w' ?_ (fun hxwc2 hxwf2 hxwz2 => ?_); (focus ((repeat (first | with_reducible exact Grow.G.refl _ | with_reducible exact Below.refl _ _ | with_reducible refine Grow.G.alloc ?_ _ | with_reducible refine Grow.G.trans ?_ hb3 | with_reducible refine Grow.G.trans ?_ hb2 | with_reducible refine Grow.G.trans ?_ hb1 | ((with_reducible refine Below.setCell ?_ ?_ _); rotate_left; (focus (first | omega | (simp; done) | (simp; omega)))))); all_goals fail)))); (try (have hlew_2 : wn1.heap.size ≤ w'.heap.size := (by first | omega | (have hh := hxwz2; (try simp at hh); omega)))); (try (have hlw_2_0 : wn1.heap.size < w'.heap.size := (by first | omega | (have hh := hxwz2; (try simp at hh); omega)))); (try (have hlw_2_1 : wn1.heap.size + 1 < w'.heap.size := (by first | omega | (have hh := hxwz2; (try simp at hh); omega)))); (try (have hlw_2_2 : wn1.heap.size + 1 + 1 < w'.heap.size := (by first | omega | (have hh := hxwz2; (try simp at hh); omega)))); go_simp <;> with_reducible rfl); simp only [Act.put, List.setIfInBounds_toArray, List.set_cons_zero, List.set_cons_succ]) | (refine Evo.value ok 2 ?_ (by rfl) (by decide +kernel) (by rfl) ?_ ?_; rotate_left; (intro w' hg; go_simp <;> with_reducible rfl); simp only [Act.put, List.setIfInBounds_toArray, List.set_cons_zero, List.set_cons_succ])
      (refine Evo.call ok 3 ?_ 20 ?_ (by rfl) (by decide +kernel) (by rfl) ?_ ?_ ?_; rotate_left 2; (focus (intro w'; go_simp <;> with_reducible rfl)); (focus (intro w' g'; with_reducible exact FB.out w' (TT.out.later g'))); simp only [Act.put, List.setIfInBounds_toArray, List.set_cons_zero, List.set_cons_succ])
      first | (refine Evo.value ok 4 ?_ (by rfl) (by decide +kernel) (by rfl) ?_ ?_; rotate_left; (intro w' hg; go_simp <;> with_reducible rfl); simp only [Act.put, List.setIfInBounds_toArray, List.set_cons_zero, List.set_cons_succ]) | (refine Evo.value ok 4 ?_ (by rfl) (by decide +kernel) (by rfl) ?_ ?_; rotate_left; (intro w' hg; go_simp; rw [if_neg (by omega)]); simp only [Act.put, List.setIfInBounds_toArray, List.set_cons_zero, List.set_cons_succ])
      first | (refine Evo.value ok 5 ?_ (by rfl) (by decide +kernel) (by rfl) ?_ ?_; rotate_left; (intro w' hg; go_simp <;> with_reducible rfl); simp only [Act.put, List.setIfInBounds_toArray, List.set_cons_zero, List.set_cons_succ]) | (refine Evo.value ok 5 ?_ (by rfl) (by decide +kernel) (by rfl) ?_ ?_; rotate_left; (intro w' hg; go_simp; rw [if_neg (by omega)]); simp only [Act.put, List.setIfInBounds_toArray, List.set_cons_zero, List.set_cons_succ])
      refine Evo.done (by decide +kernel) (fun wn3 hb3 => ?_)
      have KB3 := Lib.hid (Evo.later hb3)
      have hxwn3c := (bcell hb3).1
      have hxwn3f := (bcell hb3).2.1
      have hxwn3z := (bcell hb3).2.2
      (try (have hlewn3_3 : wn2.heap.size ≤ wn3.heap.size := (by first | omega | (have hh := hxwn3z; (try simp at hh); omega))))
      (try (have hlwn3_3_0 : wn2.heap.size < wn3.heap.size := (by first | omega | (have hh := hxwn3z; (try simp at hh); omega))))
      (try (have hlwn3_3_1 : wn2.heap.size + 1 < wn3.heap.size := (by first | omega | (have hh := hxwn3z; (try simp at hh); omega))))
      (try (have hlwn3_3_2 : wn2.heap.size + 1 + 1 < wn3.heap.size := (by first | omega | (have hh := hxwn3z; (try simp at hh); omega))))
      (try (refine Evo.laterK KB1.out wn3 ?_ (fun hxwn3c1 hxwn3f1 hxwn3z1 => ?_); (focus ((repeat (first | with_reducible exact Grow.G.refl _ | with_reducible exact Below.refl _ _ | with_reducible refine Grow.G.alloc ?_ _ | with_reducible refine Grow.G.trans ?_ hb3 | with_reducible refine Grow.G.trans ?_ hb2 | with_reducible refine Grow.G.trans ?_ hb1 | ((with_reducible refine Below.setCell ?_ ?_ _); rotate_left; (focus (first | omega | (simp; done) | (simp; omega)))))); all_goals fail))))
      (try (have hlewn3_1 : wb1.heap.size ≤ wn3.heap.size := (by first | omega | (have hh := hxwn3z1; (try simp at hh); omega))))
      (try (have hlwn3_1_0 : wb1.heap.size < wn3.heap.size := (by first | omega | (have hh := hxwn3z1; (try simp at hh); omega))))
      (try (have hlwn3_1_1 : wb1.heap.size + 1 < wn3.heap.size := (by first | omega | (have hh := hxwn3z1; (try simp at hh); omega))))
      (try (have hlwn3_1_2 : wb1.heap.size + 1 + 1 < wn3.heap.size := (by first | omega | (have hh := hxwn3z1; (try simp at hh); omega))))
      (try (refine Evo.laterK KB2.out wn3 ?_ (fun hxwn3c2 hxwn3f2 hxwn3z2 => ?_); (focus ((repeat (first | with_reducible exact Grow.G.refl _ | with_reducible exact Below.refl _ _ | with_reducible refine Grow.G.alloc ?_ _ | with_reducible refine Grow.G.trans ?_ hb3 | with_reducible refine Grow.G.trans ?_ hb2 | with_reducible refine Grow.G.trans ?_ hb1 | ((with_reducible refine Below.setCell ?_ ?_ _); rotate_left; (focus (first | omega | (simp; done) | (simp; omega)))))); all_goals fail))))
      (try (have hlewn3_2 : wn1.heap.size ≤ wn3.heap.size := (by first | omega | (have hh := hxwn3z2; (try simp at hh); omega))))
      (try (have hlwn3_2_0 : wn1.heap.size < wn3.heap.size := (by first | omega | (have hh := hxwn3z2; (try simp at hh); omega))))
      (try (have hlwn3_2_1 : wn1.heap.size + 1 < wn3.heap.size := (by first | omega | (have hh := hxwn3z2; (try simp at hh); omega))))
      (try (have hlwn3_2_2 : wn1.heap.size + 1 + 1 < wn3.heap.size := (by first | omega | (have hh := hxwn3z2; (try simp at hh); omega))))
      go_wp2_with fail
      go_ret
      exact ⟨rfl, Grow.G.trans (Grow.G.trans (Below.setCell (Grow.G.trans GB1.out hb1) (by show w.heap.size ≤ bC; omega) _) hb2) hb3⟩
    · skip
      obtain ⟨b', off', hbo, c0, c1, c2⟩ := TC4.out.at hk
      obtain ⟨rfl, rfl⟩ : bC = b' ∧ 0 = off' := by cases hbo; exact ⟨rfl, rfl⟩
      rw [Nat.zero_add] at c0 c1 c2
      clear hbo
      have pk := PCS.out k hk
      have OK := OKS.out k hk
      generalize hT : ts.getD k tg0 = t0 at *
      have TT0 := Lib.hid hT
      clear hT
      have p1 := pk.1
      have p2 := pk.2
      have TX := Lib.hid (fun w h => text_any u ys w h)
      have TZ := textS_size ys
      generalize textS ys = t at *
      go_wp2_with fail
      refine Evo.start' (ℓ := some 7) (T := Grow.G) (by kernel_rfl) ⟨Evo.preG, by decide +kernel, (by intro c a d v w h; cases d <;> exact h), by decide +kernel⟩ (fun ok => ?_)
      first | (refine Evo.value ok 0 ?_ (by rfl) (by decide +kernel) (by rfl) ?_ ?_; rotate_left; (intro w' hg; go_simp <;> with_reducible rfl); simp only [Act.put, List.setIfInBounds_toArray, List.set_cons_zero, List.set_cons_succ]) | (refine Evo.value ok 0 ?_ (by rfl) (by decide +kernel) (by rfl) ?_ ?_; rotate_left; (intro w' hg; go_simp; rw [if_neg (by omega)]); simp only [Act.put, List.setIfInBounds_toArray, List.set_cons_zero, List.set_cons_succ])
      first | (refine Evo.value ok 1 ?_ (by rfl) (by decide +kernel) (by rfl) ?_ ?_; rotate_left; (intro w' hg; have hgc := (bcell hg).1; have hgf := (bcell hg).2.1; (try (have hlew_1 : wb1.heap.size ≤ w'.heap.size := (by first | omega | (have hh := (bcell hg).2.2; (try simp at hh); omega)))); (try (have hlw_1_0 : wb1.heap.size < w'.heap.size := (by first | omega | (have hh := (bcell hg).2.2; (try simp at hh); omega)))); (try (have hlw_1_1 : wb1.heap.size + 1 < w'.heap.size := (by first | omega | (have hh := (bcell hg).2.2; (try simp at hh); omega)))); (try (have hlw_1_2 : wb1.heap.size + 1 + 1 < w'.heap.size := (by first | omega | (have hh := (bcell hg).2.2; (try simp at hh); omega)))); go_simp <;> with_reducible rfl); simp only [Act.put, List.setIfInBounds_toArray, List.set_cons_zero, List.set_cons_succ]) | (refine Evo.value ok 1 ?_ (by rfl) (by decide +kernel) (by rfl) ?_ ?_; rotate_left; (intro w' hg; go_simp <;> with_reducible rfl); simp only [Act.put, List.setIfInBounds_toArray, List.set_cons_zero, List.set_cons_succ])
      first | (refine Evo.value ok 2 ?_ (by rfl) (by decide +kernel) (by rfl) ?_ ?_; rotate_left; (intro w' hg; go_simp <;> with_reducible rfl); simp only [Act.put, List.setIfInBounds_toArray, List.set_cons_zero, List.set_cons_succ]) | (refine Evo.value ok 2 ?_ (by rfl) (by decide +kernel) (by rfl) ?_ ?_; rotate_left; (intro w' hg; go_simp; rw [if_neg (by omega)]); simp only [Act.put, List.setIfInBounds_toArray, List.set_cons_zero, List.set_cons_succ])
      first | (refine Evo.value ok 3 ?_ (by rfl) (by decide +kernel) (by rfl) ?_ ?_; rotate_left; (intro w' hg; go_simp <;> with_reducible rfl); simp only [Act.put, List.setIfInBounds_toArray, List.set_cons_zero, List.set_cons_succ]) | (refine Evo.value ok 3 ?_ (by rfl) (by decide +kernel) (by rfl) ?_ ?_; rotate_left; (intro w' hg; go_simp; rw [if_neg (by omega)]); simp only [Act.put, List.setIfInBounds_toArray, List.set_cons_zero, List.set_cons_succ])
      (refine Evo.call ok 4 ?_ 16 ?_ (by rfl) (by decide +kernel) (by rfl) ?_ ?_ ?_; rotate_left 2; (focus (intro w'; go_simp <;> with_reducible rfl)); (focus (intro w' g'; with_reducible exact TX.out w' (HY4.out.below g'))); simp only [Act.put, List.setIfInBounds_toArray, List.set_cons_zero, List.set_cons_succ])
      first | (refine Evo.value ok 5 ?_ (by rfl) (by decide +kernel) (by rfl) ?_ ?_; rotate_left; (intro w' hg; go_simp <;> with_reducible rfl); simp only [Act.put, List.setIfInBounds_toArray, List.set_cons_zero, List.set_cons_succ]) | (refine Evo.value ok 5 ?_ (by rfl) (by decide +kernel) (by rfl) ?_ ?_; rotate_left; (intro w' hg; go_simp; rw [if_neg (by omega)]); simp only [Act.put, List.setIfInBounds_toArray, List.set_cons_zero, List.set_cons_succ])
      first | (refine Evo.value ok 6 ?_ (by rfl) (by decide +kernel) (by rfl) ?_ ?_; rotate_left; (intro w' hg; go_simp <;> with_reducible rfl); simp only [Act.put, List.setIfInBounds_toArray, List.set_cons_zero, List.set_cons_succ]) | (refine Evo.value ok 6 ?_ (by rfl) (by decide +kernel) (by rfl) ?_ ?_; rotate_left; (intro w' hg; go_simp; rw [if_neg (by omega)]); simp only [Act.put, List.setIfInBounds_toArray, List.set_cons_zero, List.set_cons_succ])
      refine Evo.all [7] (by decide +kernel) rfl ?_
      intro wn1 hb1 iq1 hq1
      have KB1 := Lib.hid (Evo.later hb1)
      have hxwn1c := (bcell hb1).1
      have hxwn1f := (bcell hb1).2.1
      have hxwn1z := (bcell hb1).2.2
      (try (have hlewn1_1 : wb1.heap.size ≤ wn1.heap.size := (by first | omega | (have hh := hxwn1z; (try simp at hh); omega))))
      (try (have hlwn1_1_0 : wb1.heap.size < wn1.heap.size := (by first | omega | (have hh := hxwn1z; (try simp at hh); omega))))
      (try (have hlwn1_1_1 : wb1.heap.size + 1 < wn1.heap.size := (by first | omega | (have hh := hxwn1z; (try simp at hh); omega))))
      (try (have hlwn1_1_2 : wb1.heap.size + 1 + 1 < wn1.heap.size := (by first | omega | (have hh := hxwn1z; (try simp at hh); omega))))
      simp only [List.mem_cons, List.mem_nil_iff, or_false] at hq1
      subst hq1
      refine Evo.runs (by rfl) (by rfl) (fun K' hK' => ?_)
      go_simp
      (try (simp only [Evo.after_value, Evo.after_skip]))
      refine hK'.out _ _ ?_
      clear hK'
      simp only [Act.put, List.setIfInBounds_toArray, List.set_cons_zero, List.set_cons_succ]
      refine ⟨.inl (by first | rfl | trivial), ?_⟩
      refine Evo.done (by decide +kernel) (fun wn2 hb2 => ?_)
      have KB2 := Lib.hid (Evo.later hb2)
      have hxwn2c := (bcell hb2).1
      have hxwn2f := (bcell hb2).2.1
      have hxwn2z := (bcell hb2).2.2
      (try (have hlewn2_2 : wn1.heap.size ≤ wn2.heap.size := (by first | omega | (have hh := hxwn2z; (try simp at hh); omega))))
      (try (have hlwn2_2_0 : wn1.heap.size < wn2.heap.size := (by first | omega | (have hh := hxwn2z; (try simp at hh); omega))))
      (try (have hlwn2_2_1 : wn1.heap.size + 1 < wn2.heap.size := (by first | omega | (have hh := hxwn2z; (try simp at hh); omega))))
      (try (have hlwn2_2_2 : wn1.heap.size + 1 + 1 < wn2.heap.size := (by first | omega | (have hh := hxwn2z; (try simp at hh); omega))))
      (try (refine Evo.laterK KB1.out wn2 ?_ (fun hxwn2c1 hxwn2f1 hxwn2z1 => ?_); (focus ((repeat (first | with_reducible exact Grow.G.refl _ | with_reducible exact Below.refl _ _ | with_reducible refine Grow.G.alloc ?_ _ | with_reducible refine Grow.G.trans ?_ hb2 | with_reducible refine Grow.G.trans ?_ hb1 | ((with_reducible refine Below.setCell ?_ ?_ _); rotate_left; (focus (first | omega | (simp; done) | (simp; omega)))))); all_goals fail))))
      (try (have hlewn2_1 : wb1.heap.size ≤ wn2.heap.size := (by first | omega | (have hh := hxwn2z1; (try simp at hh); omega))))
      (try (have hlwn2_1_0 : wb1.heap.size < wn2.heap.size := (by first | omega | (have hh := hxwn2z1; (try simp at hh); omega))))
      (try (have hlwn2_1_1 : wb1.heap.size + 1 < wn2.heap.size := (by first | omega | (have hh := hxwn2z1; (try simp at hh); omega))))
      (try (have hlwn2_1_2 : wb1.heap.size + 1 + 1 < wn2.heap.size := (by first | omega | (have hh := hxwn2z1; (try simp at hh); omega))))
      have m1 : gC < wn1.heap.size := by omega
      have m2 : gC < wn2.heap.size := by omega
      have ne2 : ¬ gC = bC := by omega
      go_wp2_with fail
      obtain ⟨y, hy⟩ : ∃ y, routeE (nm) (cf) (ts.set k ⟨t0.rv, t, t0.pc⟩) (ro) = y := ⟨_, rfl⟩
      have TT := Lib.hid ((tgts_set (j := 1) (v := .string t) (t := ⟨t0.rv, t, t0.pc⟩) (TC4.out.later hb1) hk (by decide) (.inr (.inl ⟨rfl, rfl, by rw [TT0.out], by rw [TT0.out]⟩))).later hb2)
      have HK : ∀ i, i < List.length (ts.set k ⟨t0.rv, t, t0.pc⟩) → (List.getD (ts.set k ⟨t0.rv, t, t0.pc⟩) i tg0).ok := set_ok OKS.out ⟨OK.1, Nat.le_trans TZ (by decide), OK.2.2⟩
      have FA := Lib.hid (fun w h => route_at (nm) (cf) (some ⟨bC, 0, none⟩) (ts.set k ⟨t0.rv, t, t0.pc⟩) (ts.length) cC (ro) w y (by rw [List.length_set]) (by omega) (by omega) (by rw [List.length_set]; omega) h HK hy)
      have FB := Lib.hid (fun w h => rroute_at (nm) (cf) (some ⟨bC, 0, none⟩) (ts.set k ⟨t0.rv, t, t0.pc⟩) (ts.length) cC (ro) w y (by rw [List.length_set]) (by omega) (by omega) (by rw [List.length_set]; omega) h HK hy)
      have hyy : (y == y) = true := by simp
      clear hy HK
      refine Evo.start' (ℓ := none) (T := Grow.G) (by kernel_rfl) ⟨Evo.preG, by decide +kernel, (by intro c a d v w h; cases d <;> exact h), by decide +kernel⟩ (fun ok => ?_)
      first | (refine Evo.value ok 0 ?_ (by rfl) (by decide +kernel) (by rfl) ?_ ?_; rotate_left; (intro w' hg; have hgc := (bcell hg).1; have hgf := (bcell hg).2.1; (try (have hlew_3 : wn2.heap.size ≤ w'.heap.size := (by first | omega | (have hh := (bcell hg).2.2; (try simp at hh); omega)))); (try (have hlw_3_0 : wn2.heap.size < w'.heap.size := (by first | omega | (have hh := (bcell hg).2.2; (try simp at hh); omega)))); (try (have hlw_3_1 : wn2.heap.size + 1 < w'.heap.size := (by first | omega | (have hh := (bcell hg).2.2; (try simp at hh); omega)))); (try (have hlw_3_2 : wn2.heap.size + 1 + 1 < w'.heap.size := (by first | omega | (have hh := (bcell hg).2.2; (try simp at hh); omega)))); (try (refine Evo.laterK KB1.out w' ?_ (fun hxwc1 hxwf1 hxwz1 => ?_); (focus ((repeat (first | with_reducible exact Grow.G.refl _ | with_reducible exact Below.refl _ _ | with_reducible refine Grow.G.alloc ?_ _ | with_reducible refine Grow.G.trans ?_ hb3 | with_reducible refine Grow.G.trans ?_ hb2 | with_reducible refine Grow.G.trans ?_ hb1 | ((with_reducible refine Below.setCell ?_ ?_ _); rotate_left; (focus (first | omega | (simp; done) | (simp; omega)))))); all_goals fail)))); (try (have hlew_1 : wb1.heap.size ≤ w'.heap.size := (by first | omega | (have hh := hxwz1; (try simp at hh); omega)))); (try (have hlw_1_0 : wb1.heap.size < w'.heap.size := (by first | omega | (have hh := hxwz1; (try simp at hh); omega)))); (try (have hlw_1_1 : wb1.heap.size + 1 < w'.heap.size := (by first | omega | (have hh := hxwz1; (try simp at hh); omega)))); (try (have hlw_1_2 : wb1.heap.size + 1 + 1 < w'.heap.size := (by first | omega | (have hh := hxwz1; (try simp at hh); omega)))); (try (refine Evo.laterK KB2.out w' ?_ (fun hxwc2 hxwf2 hxwz2 => ?_); (focus ((repeat (first | with_reducible exact Grow.G.refl _ | with_reducible exact Below.refl _ _ | with_reducible refine Grow.G.alloc ?_ _ | with_reducible refine Grow.G.trans ?_ hb3 | with_reducible refine Grow.G.trans ?_ hb2 | with_reducible refine Grow.G.trans ?_ hb1 | ((with_reducible refine Below.setCell ?_ ?_ _); rotate_left; (focus (first | omega | (simp; done) | (simp; omega)))))); all_goals fail)))); (try (have hlew_2 : wn1.heap.size ≤ w'.heap.size := (by first | omega | (have hh := hxwz2; (try simp at hh); omega)))); (try (have hlw_2_0 : wn1.heap.size < w'.heap.size := (by first | omega | (have hh := hxwz2; (try simp at hh); omega)))); (try (have hlw_2_1 : wn1.heap.size + 1 < w'.heap.size := (by first | omega | (have hh := hxwz2; (try simp at hh); omega)))); (try (have hlw_2_2 : wn1.heap.size + 1 + 1 < w'.heap.size := (by first | omega | (have hh := hxwz2; (try simp at hh); omega)))); go_simp <;> with_reducible rfl); simp only [Act.put, List.setIfInBounds_toArray, List.set_cons_zero, List.set_cons_succ]) | (refine Evo.value ok 0 ?_ (by rfl) (by decide +kernel) (by rfl) ?_ ?_; rotate_left; (intro w' hg; go_simp <;> with_reducible rfl); simp only [Act.put, List.setIfInBounds_toArray, List.set_cons_zero, List.set_cons_succ])
      (refine Evo.call ok 1 ?_ 19 ?_ (by rfl) (by decide +kernel) (by rfl) ?_ ?_ ?_; rotate_left 2; (focus (intro w'; go_simp <;> with_reducible rfl)); (focus (intro w' g'; with_reducible exact FA.out w' (TT.out.later g'))); simp only [Act.put, List.setIfInBounds_toArray, List.set_cons_zero, List.set_cons_succ])
      first | (refine Evo.value ok 2 ?_ (by rfl) (by decide +kernel) (by rfl) ?_ ?_; rotate_left; (intro w' hg; have hgc := (bcell hg).1; have hgf := (bcell hg).2.1; (try (have hlew_3 : wn2.heap.size ≤ w'.heap.size := (by first | omega | (have hh := (bcell hg).2.2; (try simp at hh); omega)))); (try (have hlw_3_0 : wn2.heap.size < w'.heap.size := (by first | omega | (have hh := (bcell hg).2.2; (try simp at hh); omega)))); (try (have hlw_3_1 : wn2.heap.size + 1 < w'.heap.size := (by first | omega | (have hh := (bcell hg).2.2; (try simp at hh); omega)))); (try (have hlw_3_2 : wn2.heap.size + 1 + 1 < w'.heap.size := (by first | omega | (have hh := (bcell hg).2.2; (try simp at hh); omega)))); (try (refine Evo.laterK KB1.out w' ?_ (fun hxwc1 hxwf1 hxwz1 => ?_); (focus ((repeat (first | with_reducible exact Grow.G.refl _ | with_reducible exact Below.refl _ _ | with_reducible refine Grow.G.alloc ?_ _ | with_reducible refine Grow.G.trans ?_ hb3 | with_reducible refine Grow.G.trans ?_ hb2 | with_reducible refine Grow.G.trans ?_ hb1 | ((with_reducible refine Below.setCell ?_ ?_ _); rotate_left; (focus (first | omega | (simp; done) | (simp; omega)))))); all_goals fail)))); (try (have hlew_1 : wb1.heap.size ≤ w'.heap.size := (by first | omega | (have hh := hxwz1; (try simp at hh); omega)))); (try (have hlw_1_0 : wb1.heap.size < w'.heap.size := (by first | omega | (have hh := hxwz1; (try simp at hh); omega)))); (try (have hlw_1_1 : wb1.heap.size + 1 < w'.heap.size := (by first | omega | (have hh := hxwz1; (try simp at hh); omega)))); (try (have hlw_1_2 : wb1.heap.size + 1 + 1 < w'.heap.size := (by first | omega | (have hh := hxwz1; (try simp at hh); omega)))); (try (refine Evo.laterK KB2.out w' ?_ (fun hxwc2 hxwf2 hxwz2 => ?_); (focus ((repeat (first | with_reducible exact Grow.G.refl _ | with_reducible exact Below.refl _ _ | with_reducible refine Grow.G.alloc ?_ _ | with_reducible refine Grow.G.trans ?_ hb3 | with_reducible refine Grow.G.trans ?_ hb2 | with_reducible refine Grow.G.trans ?_ hb1 | ((with_reducible refine Below.setCell ?_ ?_ _); rotate_left; (focus (first | omega | (simp; done) | (simp; omega)))))); all_goals fail)))); (try (have hlew_2 : wn1.heap.size ≤ w'.heap.size := (by first | omega | (have hh := hxwz2; (try simp at hh); omega)))); (try (have hlw_2_0 : wn1.heap.size < w'.heap.size := (by first | omega | (have hh := hxwz2; (try simp at hh); omega)))); (try (have hlw_2_1 : wn1.heap.size + 1 < w'.heap.size := (by first | omega | (have hh := hxwz2; (try simp at hh); omega)))); (try (have hlw_2_2 : wn1.heap.size + 1 + 1 < w'.heap.size := (by first | omega | (have hh := hxwz2; (try simp at hh); omega)))); go_simp <;> with_reducible rfl); simp only [Act.put, List.setIfInBounds_toArray, List.set_cons_zero, List.set_cons_succ]) | (refine Evo.value ok 2 ?_ (by rfl) (by decide +kernel) (by rfl) ?_ ?_; rotate_left; (intro w' hg; go_simp <;> with_reducible rfl); simp only [Act.put, List.setIfInBounds_toArray, List.set_cons_zero, List.set_cons_succ])
      (refine Evo.call ok 3 ?_ 20 ?_ (by rfl) (by decide +kernel) (by rfl) ?_ ?_ ?_; rotate_left 2; (focus (intro w'; go_simp <;> with_reducible rfl)); (focus (intro w' g'; with_reducible exact FB.out w' (TT.out.later g'))); simp only [Act.put, List.setIfInBounds_toArray, List.set_cons_zero, List.set_cons_succ])
      first | (refine Evo.value ok 4 ?_ (by rfl) (by decide +kernel) (by rfl) ?_ ?_; rotate_left; (intro w' hg; go_simp <;> with_reducible rfl); simp only [Act.put, List.setIfInBounds_toArray, List.set_cons_zero, List.set_cons_succ]) | (refine Evo.value ok 4 ?_ (by rfl) (by decide +kernel) (by rfl) ?_ ?_; rotate_left; (intro w' hg; go_simp; rw [if_neg (by omega)]); simp only [Act.put, List.setIfInBounds_toArray, List.set_cons_zero, List.set_cons_succ])
      first | (refine Evo.value ok 5 ?_ (by rfl) (by decide +kernel) (by rfl) ?_ ?_; rotate_left; (intro w' hg; go_simp <;> with_reducible rfl); simp only [Act.put, List.setIfInBounds_toArray, List.set_cons_zero, List.set_cons_succ]) | (refine Evo.value ok 5 ?_ (by rfl) (by decide +kernel) (by rfl) ?_ ?_; rotate_left; (intro w' hg; go_simp; rw [if_neg (by omega)]); simp only [Act.put, List.setIfInBounds_toArray, List.set_cons_zero, List.set_cons_succ])
      refine Evo.done (by decide +kernel) (fun wn3 hb3 => ?_)
      have KB3 := Lib.hid (Evo.later hb3)
      have hxwn3c := (bcell hb3).1
      have hxwn3f := (bcell hb3).2.1
      have hxwn3z := (bcell hb3).2.2
      (try (have hlewn3_3 : wn2.heap.size ≤ wn3.heap.size := (by first | omega | (have hh := hxwn3z; (try simp at hh); omega))))
      (try (have hlwn3_3_0 : wn2.heap.size < wn3.heap.size := (by first | omega | (have hh := hxwn3z; (try simp at hh); omega))))
      (try (have hlwn3_3_1 : wn2.heap.size + 1 < wn3.heap.size := (by first | omega | (have hh := hxwn3z; (try simp at hh); omega))))
      (try (have hlwn3_3_2 : wn2.heap.size + 1 + 1 < wn3.heap.size := (by first | omega | (have hh := hxwn3z; (try simp at hh); omega))))
      (try (refine Evo.laterK KB1.out wn3 ?_ (fun hxwn3c1 hxwn3f1 hxwn3z1 => ?_); (focus ((repeat (first | with_reducible exact Grow.G.refl _ | with_reducible exact Below.refl _ _ | with_reducible refine Grow.G.alloc ?_ _ | with_reducible refine Grow.G.trans ?_ hb3 | with_reducible refine Grow.G.trans ?_ hb2 | with_reducible refine Grow.G.trans ?_ hb1 | ((with_reducible refine Below.setCell ?_ ?_ _); rotate_left; (focus (first | omega | (simp; done) | (simp; omega)))))); all_goals fail))))
      (try (have hlewn3_1 : wb1.heap.size ≤ wn3.heap.size := (by first | omega | (have hh := hxwn3z1; (try simp at hh); omega))))
      (try (have hlwn3_1_0 : wb1.heap.size < wn3.heap.size := (by first | omega | (have hh := hxwn3z1; (try simp at hh); omega))))
      (try (have hlwn3_1_1 : wb1.heap.size + 1 < wn3.heap.size := (by first | omega | (have hh := hxwn3z1; (try simp at hh); omega))))
      (try (have hlwn3_1_2 : wb1.heap.size + 1 + 1 < wn3.heap.size := (by first | omega | (have hh := hxwn3z1; (try simp at hh); omega))))
      (try (refine Evo.laterK KB2.out wn3 ?_ (fun hxwn3c2 hxwn3f2 hxwn3z2 => ?_); (focus ((repeat (first | with_reducible exact Grow.G.refl _ | with_reducible exact Below.refl _ _ | with_reducible refine Grow.G.alloc ?_ _ | with_reducible refine Grow.G.trans ?_ hb3 | with_reducible refine Grow.G.trans ?_ hb2 | with_reducible refine Grow.G.trans ?_ hb1 | ((with_reducible refine Below.setCell ?_ ?_ _); rotate_left; (focus (first | omega | (simp; done) | (simp; omega)))))); all_goals fail))))
      (try (have hlewn3_2 : wn1.heap.size ≤ wn3.heap.size := (by first | omega | (have hh := hxwn3z2; (try simp at hh); omega))))
      (try (have hlwn3_2_0 : wn1.heap.size < wn3.heap.size := (by first | omega | (have hh := hxwn3z2; (try simp at hh); omega))))
      (try (have hlwn3_2_1 : wn1.heap.size + 1 < wn3.heap.size := (by first | omega | (have hh := hxwn3z2; (try simp at hh); omega))))
      (try (have hlwn3_2_2 : wn1.heap.size + 1 + 1 < wn3.heap.size := (by first | omega | (have hh := hxwn3z2; (try simp at hh); omega))))
      go_wp2_with fail
      go_ret
      exact ⟨rfl, Grow.G.trans (Grow.G.trans (Below.setCell (Grow.G.trans GB1.out hb1) (by show w.heap.size ≤ bC; omega) _) hb2) hb3⟩
    · skip
      obtain ⟨b', off', hbo, c0, c1, c2⟩ := TC4.out.at hk
      obtain ⟨rfl, rfl⟩ : bC = b' ∧ 0 = off' := by cases hbo; exact ⟨rfl, rfl⟩
      rw [Nat.zero_add] at c0 c1 c2
      clear hbo
      have pk := PCS.out k hk
      have OK := OKS.out k hk
      generalize hT : ts.getD k tg0 = t0 at *
      have TT0 := Lib.hid hT
      clear hT
      have p1 := pk.1
      have p2 := pk.2
      have W4G := Lib.hid (fun w => Evo.same (W4.out w))
      have wp1 : IntKind.i64.wrap (t0.pc + 1) = t0.pc + 1 := wrap_wf ⟨by omega, by omega⟩
      obtain ⟨x2, at2⟩ : ∃ x, ([.int .i64 (-1), .int .i64 101, .int .i64 (t0.pc + 1), .int .i64 n] : List Value)[k4]'(by simpa using a4) = .int .i64 x := ⟨_, listMap (Value.int .i64) [-1, 101, t0.pc + 1, n] 0 k4 (by simpa using a4)⟩
      have wx2 : wf64 x2 := by
        have h := listMap (Value.int .i64) [-1, 101, t0.pc + 1, n] 0 k4 (by simpa using a4)
        have e : x2 = [-1, 101, t0.pc + 1, n].getD k4 0 := by
          have := at2.symm.trans h
          cases this; rfl
        rw [e]
        match k4, a4 with
        | 0, _ => exact ⟨by simp, by simp⟩
        | 1, _ => exact ⟨by simp, by simp⟩
        | 2, _ => exact ⟨by simp; omega, by simp; omega⟩
        | 3, _ => exact hnn
      go_wp2_with fail
      refine Evo.start' (ℓ := some 18) (T := Grow.G) (by kernel_rfl) ⟨Evo.preG, by decide +kernel, (by intro c a d v w h; cases d <;> exact h), by decide +kernel⟩ (fun ok => ?_)
      first | (refine Evo.value ok 0 ?_ (by rfl) (by decide +kernel) (by rfl) ?_ ?_; rotate_left; (intro w' hg; go_simp <;> with_reducible rfl); simp only [Act.put, List.setIfInBounds_toArray, List.set_cons_zero, List.set_cons_succ]) | (refine Evo.value ok 0 ?_ (by rfl) (by decide +kernel) (by rfl) ?_ ?_; rotate_left; (intro w' hg; go_simp; rw [if_neg (by omega)]); simp only [Act.put, List.setIfInBounds_toArray, List.set_cons_zero, List.set_cons_succ])
      first | (refine Evo.value ok 1 ?_ (by rfl) (by decide +kernel) (by rfl) ?_ ?_; rotate_left; (intro w' hg; have hgc := (bcell hg).1; have hgf := (bcell hg).2.1; (try (have hlew_1 : wb1.heap.size ≤ w'.heap.size := (by first | omega | (have hh := (bcell hg).2.2; (try simp at hh); omega)))); (try (have hlw_1_0 : wb1.heap.size < w'.heap.size := (by first | omega | (have hh := (bcell hg).2.2; (try simp at hh); omega)))); (try (have hlw_1_1 : wb1.heap.size + 1 < w'.heap.size := (by first | omega | (have hh := (bcell hg).2.2; (try simp at hh); omega)))); (try (have hlw_1_2 : wb1.heap.size + 1 + 1 < w'.heap.size := (by first | omega | (have hh := (bcell hg).2.2; (try simp at hh); omega)))); go_simp <;> with_reducible rfl); simp only [Act.put, List.setIfInBounds_toArray, List.set_cons_zero, List.set_cons_succ]) | (refine Evo.value ok 1 ?_ (by rfl) (by decide +kernel) (by rfl) ?_ ?_; rotate_left; (intro w' hg; go_simp <;> with_reducible rfl); simp only [Act.put, List.setIfInBounds_toArray, List.set_cons_zero, List.set_cons_succ])
      first | (refine Evo.value ok 2 ?_ (by rfl) (by decide +kernel) (by rfl) ?_ ?_; rotate_left; (intro w' hg; go_simp <;> with_reducible rfl); simp only [Act.put, List.setIfInBounds_toArray, List.set_cons_zero, List.set_cons_succ]) | (refine Evo.value ok 2 ?_ (by rfl) (by decide +kernel) (by rfl) ?_ ?_; rotate_left; (intro w' hg; go_simp; rw [if_neg (by omega)]); simp only [Act.put, List.setIfInBounds_toArray, List.set_cons_zero, List.set_cons_succ])
      first | (refine Evo.value ok 3 ?_ (by rfl) (by decide +kernel) (by rfl) ?_ ?_; rotate_left; (intro w' hg; go_simp <;> with_reducible rfl); simp only [Act.put, List.setIfInBounds_toArray, List.set_cons_zero, List.set_cons_succ]) | (refine Evo.value ok 3 ?_ (by rfl) (by decide +kernel) (by rfl) ?_ ?_; rotate_left; (intro w' hg; go_simp; rw [if_neg (by omega)]); simp only [Act.put, List.setIfInBounds_toArray, List.set_cons_zero, List.set_cons_succ])
      first | (refine Evo.value ok 4 ?_ (by rfl) (by decide +kernel) (by rfl) ?_ ?_; rotate_left; (intro w' hg; have hgc := (bcell hg).1; have hgf := (bcell hg).2.1; (try (have hlew_1 : wb1.heap.size ≤ w'.heap.size := (by first | omega | (have hh := (bcell hg).2.2; (try simp at hh); omega)))); (try (have hlw_1_0 : wb1.heap.size < w'.heap.size := (by first | omega | (have hh := (bcell hg).2.2; (try simp at hh); omega)))); (try (have hlw_1_1 : wb1.heap.size + 1 < w'.heap.size := (by first | omega | (have hh := (bcell hg).2.2; (try simp at hh); omega)))); (try (have hlw_1_2 : wb1.heap.size + 1 + 1 < w'.heap.size := (by first | omega | (have hh := (bcell hg).2.2; (try simp at hh); omega)))); go_simp <;> with_reducible rfl); simp only [Act.put, List.setIfInBounds_toArray, List.set_cons_zero, List.set_cons_succ]) | (refine Evo.value ok 4 ?_ (by rfl) (by decide +kernel) (by rfl) ?_ ?_; rotate_left; (intro w' hg; go_simp <;> with_reducible rfl); simp only [Act.put, List.setIfInBounds_toArray, List.set_cons_zero, List.set_cons_succ])
      first | (refine Evo.value ok 5 ?_ (by rfl) (by decide +kernel) (by rfl) ?_ ?_; rotate_left; (intro w' hg; go_simp <;> with_reducible rfl); simp only [Act.put, List.setIfInBounds_toArray, List.set_cons_zero, List.set_cons_succ]) | (refine Evo.value ok 5 ?_ (by rfl) (by decide +kernel) (by rfl) ?_ ?_; rotate_left; (intro w' hg; go_simp; rw [if_neg (by omega)]); simp only [Act.put, List.setIfInBounds_toArray, List.set_cons_zero, List.set_cons_succ])
      first | (refine Evo.value ok 6 ?_ (by rfl) (by decide +kernel) (by rfl) ?_ ?_; rotate_left; (intro w' hg; go_simp <;> with_reducible rfl); simp only [Act.put, List.setIfInBounds_toArray, List.set_cons_zero, List.set_cons_succ]) | (refine Evo.value ok 6 ?_ (by rfl) (by decide +kernel) (by rfl) ?_ ?_; rotate_left; (intro w' hg; go_simp; rw [if_neg (by omega)]); simp only [Act.put, List.setIfInBounds_toArray, List.set_cons_zero, List.set_cons_succ])
      first | (refine Evo.value ok 7 ?_ (by rfl) (by decide +kernel) (by rfl) ?_ ?_; rotate_left; (intro w' hg; go_simp <;> with_reducible rfl); simp only [Act.put, List.setIfInBounds_toArray, List.set_cons_zero, List.set_cons_succ]) | (refine Evo.value ok 7 ?_ (by rfl) (by decide +kernel) (by rfl) ?_ ?_; rotate_left; (intro w' hg; go_simp; rw [if_neg (by omega)]); simp only [Act.put, List.setIfInBounds_toArray, List.set_cons_zero, List.set_cons_succ])
      first | (refine Evo.value ok 8 ?_ (by rfl) (by decide +kernel) (by rfl) ?_ ?_; rotate_left; (intro w' hg; have hgc := (bcell hg).1; have hgf := (bcell hg).2.1; (try (have hlew_1 : wb1.heap.size ≤ w'.heap.size := (by first | omega | (have hh := (bcell hg).2.2; (try simp at hh); omega)))); (try (have hlw_1_0 : wb1.heap.size < w'.heap.size := (by first | omega | (have hh := (bcell hg).2.2; (try simp at hh); omega)))); (try (have hlw_1_1 : wb1.heap.size + 1 < w'.heap.size := (by first | omega | (have hh := (bcell hg).2.2; (try simp at hh); omega)))); (try (have hlw_1_2 : wb1.heap.size + 1 + 1 < w'.heap.size := (by first | omega | (have hh := (bcell hg).2.2; (try simp at hh); omega)))); go_simp <;> with_reducible rfl); simp only [Act.put, List.setIfInBounds_toArray, List.set_cons_zero, List.set_cons_succ]) | (refine Evo.value ok 8 ?_ (by rfl) (by decide +kernel) (by rfl) ?_ ?_; rotate_left; (intro w' hg; go_simp <;> with_reducible rfl); simp only [Act.put, List.setIfInBounds_toArray, List.set_cons_zero, List.set_cons_succ])
      first | (refine Evo.value ok 9 ?_ (by rfl) (by decide +kernel) (by rfl) ?_ ?_; rotate_left; (intro w' hg; go_simp <;> with_reducible rfl); simp only [Act.put, List.setIfInBounds_toArray, List.set_cons_zero, List.set_cons_succ]) | (refine Evo.value ok 9 ?_ (by rfl) (by decide +kernel) (by rfl) ?_ ?_; rotate_left; (intro w' hg; go_simp; rw [if_neg (by omega)]); simp only [Act.put, List.setIfInBounds_toArray, List.set_cons_zero, List.set_cons_succ])
      first | (refine Evo.value ok 10 ?_ (by rfl) (by decide +kernel) (by rfl) ?_ ?_; rotate_left; (intro w' hg; go_simp <;> with_reducible rfl); simp only [Act.put, List.setIfInBounds_toArray, List.set_cons_zero, List.set_cons_succ]) | (refine Evo.value ok 10 ?_ (by rfl) (by decide +kernel) (by rfl) ?_ ?_; rotate_left; (intro w' hg; go_simp; rw [if_neg (by omega)]); simp only [Act.put, List.setIfInBounds_toArray, List.set_cons_zero, List.set_cons_succ])
      first | (refine Evo.value ok 12 ?_ (by rfl) (by decide +kernel) (by rfl) ?_ ?_; rotate_left; (intro w' hg; go_simp <;> with_reducible rfl); simp only [Act.put, List.setIfInBounds_toArray, List.set_cons_zero, List.set_cons_succ]) | (refine Evo.value ok 12 ?_ (by rfl) (by decide +kernel) (by rfl) ?_ ?_; rotate_left; (intro w' hg; go_simp; rw [if_neg (by omega)]); simp only [Act.put, List.setIfInBounds_toArray, List.set_cons_zero, List.set_cons_succ])
      (refine Evo.call ok 13 ?_ 15 ?_ (by rfl) (by decide +kernel) (by rfl) ?_ ?_ ?_; rotate_left 2; (focus (intro w'; go_simp <;> with_reducible rfl)); (focus (intro w' g'; with_reducible exact W4G.out w')); simp only [Act.put, List.setIfInBounds_toArray, List.set_cons_zero, List.set_cons_succ])
      refine Evo.all [11] (by decide +kernel) rfl ?_
      intro wn1 hb1 iq1 hq1
      have KB1 := Lib.hid (Evo.later hb1)
      have hxwn1c := (bcell hb1).1
      have hxwn1f := (bcell hb1).2.1
      have hxwn1z := (bcell hb1).2.2
      (try (have hlewn1_1 : wb1.heap.size ≤ wn1.heap.size := (by first | omega | (have hh := hxwn1z; (try simp at hh); omega))))
      (try (have hlwn1_1_0 : wb1.heap.size < wn1.heap.size := (by first | omega | (have hh := hxwn1z; (try simp at hh); omega))))
      (try (have hlwn1_1_1 : wb1.heap.size + 1 < wn1.heap.size := (by first | omega | (have hh := hxwn1z; (try simp at hh); omega))))
      (try (have hlwn1_1_2 : wb1.heap.size + 1 + 1 < wn1.heap.size := (by first | omega | (have hh := hxwn1z; (try simp at hh); omega))))
      simp only [List.mem_cons, List.mem_nil_iff, or_false] at hq1
      subst hq1
      refine Evo.runs (by rfl) (by rfl) (fun K' hK' => ?_)
      go_simp
      (try (simp only [Evo.after_value, Evo.after_skip]))
      refine hK'.out _ _ ?_
      clear hK'
      simp only [Act.put, List.setIfInBounds_toArray, List.set_cons_zero, List.set_cons_succ]
      refine ⟨.inr (by (repeat (first | with_reducible exact Grow.G.refl _ | with_reducible exact Below.refl _ _ | with_reducible refine Grow.G.alloc ?_ _ | with_reducible refine Grow.G.trans ?_ hb2 | with_reducible refine Grow.G.trans ?_ hb1 | ((with_reducible refine Below.setCell ?_ ?_ _); rotate_left; (focus (first | omega | (simp; done) | (simp; omega))))))), ?_⟩
      first | (refine Evo.value ok 14 ?_ (by rfl) (by decide +kernel) (by rfl) ?_ ?_; rotate_left; (intro w' hg; go_simp <;> with_reducible rfl); simp only [Act.put, List.setIfInBounds_toArray, List.set_cons_zero, List.set_cons_succ]) | (refine Evo.value ok 14 ?_ (by rfl) (by decide +kernel) (by rfl) ?_ ?_; rotate_left; (intro w' hg; go_simp; rw [if_neg (by omega)]); simp only [Act.put, List.setIfInBounds_toArray, List.set_cons_zero, List.set_cons_succ])
      first | (refine Evo.value ok 15 ?_ (by rfl) (by decide +kernel) (by rfl) ?_ ?_; rotate_left; (intro w' hg; have hgc := (bcell hg).1; have hgf := (bcell hg).2.1; (try (have hlew_2 : wn1.heap.size ≤ w'.heap.size := (by first | omega | (have hh := (bcell hg).2.2; (try simp at hh); omega)))); (try (have hlw_2_0 : wn1.heap.size < w'.heap.size := (by first | omega | (have hh := (bcell hg).2.2; (try simp at hh); omega)))); (try (have hlw_2_1 : wn1.heap.size + 1 < w'.heap.size := (by first | omega | (have hh := (bcell hg).2.2; (try simp at hh); omega)))); (try (have hlw_2_2 : wn1.heap.size + 1 + 1 < w'.heap.size := (by first | omega | (have hh := (bcell hg).2.2; (try simp at hh); omega)))); (try (refine Evo.laterK KB1.out w' ?_ (fun hxwc1 hxwf1 hxwz1 => ?_); (focus ((repeat (first | with_reducible exact Grow.G.refl _ | with_reducible exact Below.refl _ _ | with_reducible refine Grow.G.alloc ?_ _ | with_reducible refine Grow.G.trans ?_ hb2 | with_reducible refine Grow.G.trans ?_ hb1 | ((with_reducible refine Below.setCell ?_ ?_ _); rotate_left; (focus (first | omega | (simp; done) | (simp; omega)))))); all_goals fail)))); (try (have hlew_1 : wb1.heap.size ≤ w'.heap.size := (by first | omega | (have hh := hxwz1; (try simp at hh); omega)))); (try (have hlw_1_0 : wb1.heap.size < w'.heap.size := (by first | omega | (have hh := hxwz1; (try simp at hh); omega)))); (try (have hlw_1_1 : wb1.heap.size + 1 < w'.heap.size := (by first | omega | (have hh := hxwz1; (try simp at hh); omega)))); (try (have hlw_1_2 : wb1.heap.size + 1 + 1 < w'.heap.size := (by first | omega | (have hh := hxwz1; (try simp at hh); omega)))); go_simp <;> with_reducible rfl); simp only [Act.put, List.setIfInBounds_toArray, List.set_cons_zero, List.set_cons_succ]) | (refine Evo.value ok 15 ?_ (by rfl) (by decide +kernel) (by rfl) ?_ ?_; rotate_left; (intro w' hg; go_simp <;> with_reducible rfl); simp only [Act.put, List.setIfInBounds_toArray, List.set_cons_zero, List.set_cons_succ])
      first | (refine Evo.value ok 16 ?_ (by rfl) (by decide +kernel) (by rfl) ?_ ?_; rotate_left; (intro w' hg; go_simp <;> with_reducible rfl); simp only [Act.put, List.setIfInBounds_toArray, List.set_cons_zero, List.set_cons_succ]) | (refine Evo.value ok 16 ?_ (by rfl) (by decide +kernel) (by rfl) ?_ ?_; rotate_left; (intro w' hg; go_simp; rw [if_neg (by omega)]); simp only [Act.put, List.setIfInBounds_toArray, List.set_cons_zero, List.set_cons_succ])
      first | (refine Evo.value ok 17 ?_ (by rfl) (by decide +kernel) (by rfl) ?_ ?_; rotate_left; (intro w' hg; go_simp <;> with_reducible rfl); simp only [Act.put, List.setIfInBounds_toArray, List.set_cons_zero, List.set_cons_succ]) | (refine Evo.value ok 17 ?_ (by rfl) (by decide +kernel) (by rfl) ?_ ?_; rotate_left; (intro w' hg; go_simp; rw [if_neg (by omega)]); simp only [Act.put, List.setIfInBounds_toArray, List.set_cons_zero, List.set_cons_succ])
      refine Evo.all [18] (by decide +kernel) rfl ?_
      intro wn2 hb2 iq2 hq2
      have KB2 := Lib.hid (Evo.later hb2)
      have hxwn2c := (bcell hb2).1
      have hxwn2f := (bcell hb2).2.1
      have hxwn2z := (bcell hb2).2.2
      (try (have hlewn2_2 : wn1.heap.size ≤ wn2.heap.size := (by first | omega | (have hh := hxwn2z; (try simp at hh); omega))))
      (try (have hlwn2_2_0 : wn1.heap.size < wn2.heap.size := (by first | omega | (have hh := hxwn2z; (try simp at hh); omega))))
      (try (have hlwn2_2_1 : wn1.heap.size + 1 < wn2.heap.size := (by first | omega | (have hh := hxwn2z; (try simp at hh); omega))))
      (try (have hlwn2_2_2 : wn1.heap.size + 1 + 1 < wn2.heap.size := (by first | omega | (have hh := hxwn2z; (try simp at hh); omega))))
      (try (refine Evo.laterK KB1.out wn2 ?_ (fun hxwn2c1 hxwn2f1 hxwn2z1 => ?_); (focus ((repeat (first | with_reducible exact Grow.G.refl _ | with_reducible exact Below.refl _ _ | with_reducible refine Grow.G.alloc ?_ _ | with_reducible refine Grow.G.trans ?_ hb2 | with_reducible refine Grow.G.trans ?_ hb1 | ((with_reducible refine Below.setCell ?_ ?_ _); rotate_left; (focus (first | omega | (simp; done) | (simp; omega)))))); all_goals fail))))
      (try (have hlewn2_1 : wb1.heap.size ≤ wn2.heap.size := (by first | omega | (have hh := hxwn2z1; (try simp at hh); omega))))
      (try (have hlwn2_1_0 : wb1.heap.size < wn2.heap.size := (by first | omega | (have hh := hxwn2z1; (try simp at hh); omega))))
      (try (have hlwn2_1_1 : wb1.heap.size + 1 < wn2.heap.size := (by first | omega | (have hh := hxwn2z1; (try simp at hh); omega))))
      (try (have hlwn2_1_2 : wb1.heap.size + 1 + 1 < wn2.heap.size := (by first | omega | (have hh := hxwn2z1; (try simp at hh); omega))))
      simp only [List.mem_cons, List.mem_nil_iff, or_false] at hq2
      subst hq2
      refine Evo.runs (by rfl) (by rfl) (fun K' hK' => ?_)
      go_simp
      (try (simp only [Evo.after_value, Evo.after_skip]))
      refine hK'.out _ _ ?_
      clear hK'
      simp only [Act.put, List.setIfInBounds_toArray, List.set_cons_zero, List.set_cons_succ]
      refine ⟨.inl (by first | rfl | trivial), ?_⟩
      refine Evo.done (by decide +kernel) (fun wn3 hb3 => ?_)
      have KB3 := Lib.hid (Evo.later hb3)
      have hxwn3c := (bcell hb3).1
      have hxwn3f := (bcell hb3).2.1
      have hxwn3z := (bcell hb3).2.2
      (try (have hlewn3_3 : wn2.heap.size ≤ wn3.heap.size := (by first | omega | (have hh := hxwn3z; (try simp at hh); omega))))
      (try (have hlwn3_3_0 : wn2.heap.size < wn3.heap.size := (by first | omega | (have hh := hxwn3z; (try simp at hh); omega))))
      (try (have hlwn3_3_1 : wn2.heap.size + 1 < wn3.heap.size := (by first | omega | (have hh := hxwn3z; (try simp at hh); omega))))
      (try (have hlwn3_3_2 : wn2.heap.size + 1 + 1 < wn3.heap.size := (by first | omega | (have hh := hxwn3z; (try simp at hh); omega))))
      (try (refine Evo.laterK KB1.out wn3 ?_ (fun hxwn3c1 hxwn3f1 hxwn3z1 => ?_); (focus ((repeat (first | with_reducible exact Grow.G.refl _ | with_reducible exact Below.refl _ _ | with_reducible refine Grow.G.alloc ?_ _ | with_reducible refine Grow.G.trans ?_ hb3 | with_reducible refine Grow.G.trans ?_ hb2 | with_reducible refine Grow.G.trans ?_ hb1 | ((with_reducible refine Below.setCell ?_ ?_ _); rotate_left; (focus (first | omega | (simp; done) | (simp; omega)))))); all_goals fail))))
      (try (have hlewn3_1 : wb1.heap.size ≤ wn3.heap.size := (by first | omega | (have hh := hxwn3z1; (try simp at hh); omega))))
      (try (have hlwn3_1_0 : wb1.heap.size < wn3.heap.size := (by first | omega | (have hh := hxwn3z1; (try simp at hh); omega))))
      (try (have hlwn3_1_1 : wb1.heap.size + 1 < wn3.heap.size := (by first | omega | (have hh := hxwn3z1; (try simp at hh); omega))))
      (try (have hlwn3_1_2 : wb1.heap.size + 1 + 1 < wn3.heap.size := (by first | omega | (have hh := hxwn3z1; (try simp at hh); omega))))
      (try (refine Evo.laterK KB2.out wn3 ?_ (fun hxwn3c2 hxwn3f2 hxwn3z2 => ?_); (focus ((repeat (first | with_reducible exact Grow.G.refl _ | with_reducible exact Below.refl _ _ | with_reducible refine Grow.G.alloc ?_ _ | with_reducible refine Grow.G.trans ?_ hb3 | with_reducible refine Grow.G.trans ?_ hb2 | with_reducible refine Grow.G.trans ?_ hb1 | ((with_reducible refine Below.setCell ?_ ?_ _); rotate_left; (focus (first | omega | (simp; done) | (simp; omega)))))); all_goals fail))))
      (try (have hlewn3_2 : wn1.heap.size ≤ wn3.heap.size := (by first | omega | (have hh := hxwn3z2; (try simp at hh); omega))))
      (try (have hlwn3_2_0 : wn1.heap.size < wn3.heap.size := (by first | omega | (have hh := hxwn3z2; (try simp at hh); omega))))
      (try (have hlwn3_2_1 : wn1.heap.size + 1 < wn3.heap.size := (by first | omega | (have hh := hxwn3z2; (try simp at hh); omega))))
      (try (have hlwn3_2_2 : wn1.heap.size + 1 + 1 < wn3.heap.size := (by first | omega | (have hh := hxwn3z2; (try simp at hh); omega))))
      have m1 : gC < wn1.heap.size := by omega
      have m2 : gC < wn2.heap.size := by omega
      have m3 : gC < wn3.heap.size := by omega
      have ne2 : ¬ gC = bC := by omega
      go_wp2_with fail
      obtain ⟨y, hy⟩ : ∃ y, routeE (nm) (cf) (ts.set k ⟨t0.rv, t0.tg, x2⟩) (ro) = y := ⟨_, rfl⟩
      have TT := Lib.hid ((tgts_set (j := 2) (v := .int .i64 x2) (t := ⟨t0.rv, t0.tg, x2⟩) (TC4.out.later (Grow.G.trans (Grow.G.alloc hb1 _) hb2)) hk (by decide) (.inr (.inr ⟨rfl, rfl, by rw [TT0.out], by rw [TT0.out]⟩))).later hb3)
      have HK : ∀ i, i < List.length (ts.set k ⟨t0.rv, t0.tg, x2⟩) → (List.getD (ts.set k ⟨t0.rv, t0.tg, x2⟩) i tg0).ok := set_ok OKS.out ⟨OK.1, OK.2.1, wx2⟩
      have FA := Lib.hid (fun w h => route_at (nm) (cf) (some ⟨bC, 0, none⟩) (ts.set k ⟨t0.rv, t0.tg, x2⟩) (ts.length) cC (ro) w y (by rw [List.length_set]) (by omega) (by omega) (by rw [List.length_set]; omega) h HK hy)
      have FB := Lib.hid (fun w h => rroute_at (nm) (cf) (some ⟨bC, 0, none⟩) (ts.set k ⟨t0.rv, t0.tg, x2⟩) (ts.length) cC (ro) w y (by rw [List.length_set]) (by omega) (by omega) (by rw [List.length_set]; omega) h HK hy)
      have hyy : (y == y) = true := by simp
      clear hy HK
      refine Evo.start' (ℓ := none) (T := Grow.G) (by kernel_rfl) ⟨Evo.preG, by decide +kernel, (by intro c a d v w h; cases d <;> exact h), by decide +kernel⟩ (fun ok => ?_)
      first | (refine Evo.value ok 0 ?_ (by rfl) (by decide +kernel) (by rfl) ?_ ?_; rotate_left; (intro w' hg; have hgc := (bcell hg).1; have hgf := (bcell hg).2.1; (try (have hlew_4 : wn3.heap.size ≤ w'.heap.size := (by first | omega | (have hh := (bcell hg).2.2; (try simp at hh); omega)))); (try (have hlw_4_0 : wn3.heap.size < w'.heap.size := (by first | omega | (have hh := (bcell hg).2.2; (try simp at hh); omega)))); (try (have hlw_4_1 : wn3.heap.size + 1 < w'.heap.size := (by first | omega | (have hh := (bcell hg).2.2; (try simp at hh); omega)))); (try (have hlw_4_2 : wn3.heap.size + 1 + 1 < w'.heap.size := (by first | omega | (have hh := (bcell hg).2.2; (try simp at hh); omega)))); (try (refine Evo.laterK KB1.out w' ?_ (fun hxwc1 hxwf1 hxwz1 => ?_); (focus ((repeat (first | with_reducible exact Grow.G.refl _ | with_reducible exact Below.refl _ _ | with_reducible refine Grow.G.alloc ?_ _ | with_reducible refine Grow.G.trans ?_ hb4 | with_reducible refine Grow.G.trans ?_ hb3 | with_reducible refine Grow.G.trans ?_ hb2 | with_reducible refine Grow.G.trans ?_ hb1 | ((with_reducible refine Below.setCell ?_ ?_ _); rotate_left; (focus (first | omega | (simp; done) | (simp; omega)))))); all_goals fail)))); (try (have hlew_1 : wb1.heap.size ≤ w'.heap.size := (by first | omega | (have hh := hxwz1; (try simp at hh); omega)))); (try (have hlw_1_0 : wb1.heap.size < w'.heap.size := (by first | omega | (have hh := hxwz1; (try simp at hh); omega)))); (try (have hlw_1_1 : wb1.heap.size + 1 < w'.heap.size := (by first | omega | (have hh := hxwz1; (try simp at hh); omega)))); (try (have hlw_1_2 : wb1.heap.size + 1 + 1 < w'.heap.size := (by first | omega | (have hh := hxwz1; (try simp at hh); omega)))); (try (refine Evo.laterK KB2.out w' ?_ (fun hxwc2 hxwf2 hxwz2 => ?_); (focus ((repeat (first | with_reducible exact Grow.G.refl _ | with_reducible exact Below.refl _ _ | with_reducible refine Grow.G.alloc ?_ _ | with_reducible refine Grow.G.trans ?_ hb4 | with_reducible refine Grow.G.trans ?_ hb3 | with_reducible refine Grow.G.trans ?_ hb2 | with_reducible refine Grow.G.trans ?_ hb1 | ((with_reducible refine Below.setCell ?_ ?_ _); rotate_left; (focus (first | omega | (simp; done) | (simp; omega)))))); all_goals fail)))); (try (have hlew_2 : wn1.heap.size ≤ w'.heap.size := (by first | omega | (have hh := hxwz2; (try simp at hh); omega)))); (try (have hlw_2_0 : wn1.heap.size < w'.heap.size := (by first | omega | (have hh := hxwz2; (try simp at hh); omega)))); (try (have hlw_2_1 : wn1.heap.size + 1 < w'.heap.size := (by first | omega | (have hh := hxwz2; (try simp at hh); omega)))); (try (have hlw_2_2 : wn1.heap.size + 1 + 1 < w'.heap.size := (by first | omega | (have hh := hxwz2; (try simp at hh); omega)))); (try (refine Evo.laterK KB3.out w' ?_ (fun hxwc3 hxwf3 hxwz3 => ?_); (focus ((repeat (first | with_reducible exact Grow.G.refl _ | with_reducible exact Below.refl _ _ | with_reducible refine Grow.G.alloc ?_ _ | with_reducible refine Grow.G.trans ?_ hb4 | with_reducible refine Grow.G.trans ?_ hb3 | with_reducible refine Grow.G.trans ?_ hb2 | with_reducible refine Grow.G.trans ?_ hb1 | ((with_reducible refine Below.setCell ?_ ?_ _); rotate_left; (focus (first | omega | (simp; done) | (simp; omega)))))); all_goals fail)))); (try (have hlew_3 : wn2.heap.size ≤ w'.heap.size := (by first | omega | (have hh := hxwz3; (try simp at hh); omega)))); (try (have hlw_3_0 : wn2.heap.size < w'.heap.size := (by first | omega | (have hh := hxwz3; (try simp at hh); omega)))); (try (have hlw_3_1 : wn2.heap.size + 1 < w'.heap.size := (by first | omega | (have hh := hxwz3; (try simp at hh); omega)))); (try (have hlw_3_2 : wn2.heap.size + 1 + 1 < w'.heap.size := (by first | omega | (have hh := hxwz3; (try simp at hh); omega)))); go_simp <;> with_reducible rfl); simp only [Act.put, List.setIfInBounds_toArray, List.set_cons_zero, List.set_cons_succ]) | (refine Evo.value ok 0 ?_ (by rfl) (by decide +kernel) (by rfl) ?_ ?_; rotate_left; (intro w' hg; go_simp <;> with_reducible rfl); simp only [Act.put, List.setIfInBounds_toArray, List.set_cons_zero, List.set_cons_succ])
      (refine Evo.call ok 1 ?_ 19 ?_ (by rfl) (by decide +kernel) (by rfl) ?_ ?_ ?_; rotate_left 2; (focus (intro w'; go_simp <;> with_reducible rfl)); (focus (intro w' g'; with_reducible exact FA.out w' (TT.out.later g'))); simp only [Act.put, List.setIfInBounds_toArray, List.set_cons_zero, List.set_cons_succ])
      first | (refine Evo.value ok 2 ?_ (by rfl) (by decide +kernel) (by rfl) ?_ ?_; rotate_left; (intro w' hg; have hgc := (bcell hg).1; have hgf := (bcell hg).2.1; (try (have hlew_4 : wn3.heap.size ≤ w'.heap.size := (by first | omega | (have hh := (bcell hg).2.2; (try simp at hh); omega)))); (try (have hlw_4_0 : wn3.heap.size < w'.heap.size := (by first | omega | (have hh := (bcell hg).2.2; (try simp at hh); omega)))); (try (have hlw_4_1 : wn3.heap.size + 1 < w'.heap.size := (by first | omega | (have hh := (bcell hg).2.2; (try simp at hh); omega)))); (try (have hlw_4_2 : wn3.heap.size + 1 + 1 < w'.heap.size := (by first | omega | (have hh := (bcell hg).2.2; (try simp at hh); omega)))); (try (refine Evo.laterK KB1.out w' ?_ (fun hxwc1 hxwf1 hxwz1 => ?_); (focus ((repeat (first | with_reducible exact Grow.G.refl _ | with_reducible exact Below.refl _ _ | with_reducible refine Grow.G.alloc ?_ _ | with_reducible refine Grow.G.trans ?_ hb4 | with_reducible refine Grow.G.trans ?_ hb3 | with_reducible refine Grow.G.trans ?_ hb2 | with_reducible refine Grow.G.trans ?_ hb1 | ((with_reducible refine Below.setCell ?_ ?_ _); rotate_left; (focus (first | omega | (simp; done) | (simp; omega)))))); all_goals fail)))); (try (have hlew_1 : wb1.heap.size ≤ w'.heap.size := (by first | omega | (have hh := hxwz1; (try simp at hh); omega)))); (try (have hlw_1_0 : wb1.heap.size < w'.heap.size := (by first | omega | (have hh := hxwz1; (try simp at hh); omega)))); (try (have hlw_1_1 : wb1.heap.size + 1 < w'.heap.size := (by first | omega | (have hh := hxwz1; (try simp at hh); omega)))); (try (have hlw_1_2 : wb1.heap.size + 1 + 1 < w'.heap.size := (by first | omega | (have hh := hxwz1; (try simp at hh); omega)))); (try (refine Evo.laterK KB2.out w' ?_ (fun hxwc2 hxwf2 hxwz2 => ?_); (focus ((repeat (first | with_reducible exact Grow.G.refl _ | with_reducible exact Below.refl _ _ | with_reducible refine Grow.G.alloc ?_ _ | with_reducible refine Grow.G.trans ?_ hb4 | with_reducible refine Grow.G.trans ?_ hb3 | with_reducible refine Grow.G.trans ?_ hb2 | with_reducible refine Grow.G.trans ?_ hb1 | ((with_reducible refine Below.setCell ?_ ?_ _); rotate_left; (focus (first | omega | (simp; done) | (simp; omega)))))); all_goals fail)))); (try (have hlew_2 : wn1.heap.size ≤ w'.heap.size := (by first | omega | (have hh := hxwz2; (try simp at hh); omega)))); (try (have hlw_2_0 : wn1.heap.size < w'.heap.size := (by first | omega | (have hh := hxwz2; (try simp at hh); omega)))); (try (have hlw_2_1 : wn1.heap.size + 1 < w'.heap.size := (by first | omega | (have hh := hxwz2; (try simp at hh); omega)))); (try (have hlw_2_2 : wn1.heap.size + 1 + 1 < w'.heap.size := (by first | omega | (have hh := hxwz2; (try simp at hh); omega)))); (try (refine Evo.laterK KB3.out w' ?_ (fun hxwc3 hxwf3 hxwz3 => ?_); (focus ((repeat (first | with_reducible exact Grow.G.refl _ | with_reducible exact Below.refl _ _ | with_reducible refine Grow.G.alloc ?_ _ | with_reducible refine Grow.G.trans ?_ hb4 | with_reducible refine Grow.G.trans ?_ hb3 | with_reducible refine Grow.G.trans ?_ hb2 | with_reducible refine Grow.G.trans ?_ hb1 | ((with_reducible refine Below.setCell ?_ ?_ _); rotate_left; (focus (first | omega | (simp; done) | (simp; omega)))))); all_goals fail)))); (try (have hlew_3 : wn2.heap.size ≤ w'.heap.size := (by first | omega | (have hh := hxwz3; (try simp at hh); omega)))); (try (have hlw_3_0 : wn2.heap.size < w'.heap.size := (by first | omega | (have hh := hxwz3; (try simp at hh); omega)))); (try (have hlw_3_1 : wn2.heap.size + 1 < w'.heap.size := (by first | omega | (have hh := hxwz3; (try simp at hh); omega)))); (try (have hlw_3_2 : wn2.heap.size + 1 + 1 < w'.heap.size := (by first | omega | (have hh := hxwz3; (try simp at hh); omega)))); go_simp <;> with_reducible rfl); simp only [Act.put, List.setIfInBounds_toArray, List.set_cons_zero, List.set_cons_succ]) | (refine Evo.value ok 2 ?_ (by rfl) (by decide +kernel) (by rfl) ?_ ?_; rotate_left; (intro w' hg; go_simp <;> with_reducible rfl); simp only [Act.put, List.setIfInBounds_toArray, List.set_cons_zero, List.set_cons_succ])
      (refine Evo.call ok 3 ?_ 20 ?_ (by rfl) (by decide +kernel) (by rfl) ?_ ?_ ?_; rotate_left 2; (focus (intro w'; go_simp <;> with_reducible rfl)); (focus (intro w' g'; with_reducible exact FB.out w' (TT.out.later g'))); simp only [Act.put, List.setIfInBounds_toArray, List.set_cons_zero, List.set_cons_succ])
      first | (refine Evo.value ok 4 ?_ (by rfl) (by decide +kernel) (by rfl) ?_ ?_; rotate_left; (intro w' hg; go_simp <;> with_reducible rfl); simp only [Act.put, List.setIfInBounds_toArray, List.set_cons_zero, List.set_cons_succ]) | (refine Evo.value ok 4 ?_ (by rfl) (by decide +kernel) (by rfl) ?_ ?_; rotate_left; (intro w' hg; go_simp; rw [if_neg (by omega)]); simp only [Act.put, List.setIfInBounds_toArray, List.set_cons_zero, List.set_cons_succ])
      first | (refine Evo.value ok 5 ?_ (by rfl) (by decide +kernel) (by rfl) ?_ ?_; rotate_left; (intro w' hg; go_simp <;> with_reducible rfl); simp only [Act.put, List.setIfInBounds_toArray, List.set_cons_zero, List.set_cons_succ]) | (refine Evo.value ok 5 ?_ (by rfl) (by decide +kernel) (by rfl) ?_ ?_; rotate_left; (intro w' hg; go_simp; rw [if_neg (by omega)]); simp only [Act.put, List.setIfInBounds_toArray, List.set_cons_zero, List.set_cons_succ])
      refine Evo.done (by decide +kernel) (fun wn4 hb4 => ?_)
      have KB4 := Lib.hid (Evo.later hb4)
      have hxwn4c := (bcell hb4).1
      have hxwn4f := (bcell hb4).2.1
      have hxwn4z := (bcell hb4).2.2
      (try (have hlewn4_4 : wn3.heap.size ≤ wn4.heap.size := (by first | omega | (have hh := hxwn4z; (try simp at hh); omega))))
      (try (have hlwn4_4_0 : wn3.heap.size < wn4.heap.size := (by first | omega | (have hh := hxwn4z; (try simp at hh); omega))))
      (try (have hlwn4_4_1 : wn3.heap.size + 1 < wn4.heap.size := (by first | omega | (have hh := hxwn4z; (try simp at hh); omega))))
      (try (have hlwn4_4_2 : wn3.heap.size + 1 + 1 < wn4.heap.size := (by first | omega | (have hh := hxwn4z; (try simp at hh); omega))))
      (try (refine Evo.laterK KB1.out wn4 ?_ (fun hxwn4c1 hxwn4f1 hxwn4z1 => ?_); (focus ((repeat (first | with_reducible exact Grow.G.refl _ | with_reducible exact Below.refl _ _ | with_reducible refine Grow.G.alloc ?_ _ | with_reducible refine Grow.G.trans ?_ hb4 | with_reducible refine Grow.G.trans ?_ hb3 | with_reducible refine Grow.G.trans ?_ hb2 | with_reducible refine Grow.G.trans ?_ hb1 | ((with_reducible refine Below.setCell ?_ ?_ _); rotate_left; (focus (first | omega | (simp; done) | (simp; omega)))))); all_goals fail))))
      (try (have hlewn4_1 : wb1.heap.size ≤ wn4.heap.size := (by first | omega | (have hh := hxwn4z1; (try simp at hh); omega))))
      (try (have hlwn4_1_0 : wb1.heap.size < wn4.heap.size := (by first | omega | (have hh := hxwn4z1; (try simp at hh); omega))))
      (try (have hlwn4_1_1 : wb1.heap.size + 1 < wn4.heap.size := (by first | omega | (have hh := hxwn4z1; (try simp at hh); omega))))
      (try (have hlwn4_1_2 : wb1.heap.size + 1 + 1 < wn4.heap.size := (by first | omega | (have hh := hxwn4z1; (try simp at hh); omega))))
      (try (refine Evo.laterK KB2.out wn4 ?_ (fun hxwn4c2 hxwn4f2 hxwn4z2 => ?_); (focus ((repeat (first | with_reducible exact Grow.G.refl _ | with_reducible exact Below.refl _ _ | with_reducible refine Grow.G.alloc ?_ _ | with_reducible refine Grow.G.trans ?_ hb4 | with_reducible refine Grow.G.trans ?_ hb3 | with_reducible refine Grow.G.trans ?_ hb2 | with_reducible refine Grow.G.trans ?_ hb1 | ((with_reducible refine Below.setCell ?_ ?_ _); rotate_left; (focus (first | omega | (simp; done) | (simp; omega)))))); all_goals fail))))
      (try (have hlewn4_2 : wn1.heap.size ≤ wn4.heap.size := (by first | omega | (have hh := hxwn4z2; (try simp at hh); omega))))
      (try (have hlwn4_2_0 : wn1.heap.size < wn4.heap.size := (by first | omega | (have hh := hxwn4z2; (try simp at hh); omega))))
      (try (have hlwn4_2_1 : wn1.heap.size + 1 < wn4.heap.size := (by first | omega | (have hh := hxwn4z2; (try simp at hh); omega))))
      (try (have hlwn4_2_2 : wn1.heap.size + 1 + 1 < wn4.heap.size := (by first | omega | (have hh := hxwn4z2; (try simp at hh); omega))))
      (try (refine Evo.laterK KB3.out wn4 ?_ (fun hxwn4c3 hxwn4f3 hxwn4z3 => ?_); (focus ((repeat (first | with_reducible exact Grow.G.refl _ | with_reducible exact Below.refl _ _ | with_reducible refine Grow.G.alloc ?_ _ | with_reducible refine Grow.G.trans ?_ hb4 | with_reducible refine Grow.G.trans ?_ hb3 | with_reducible refine Grow.G.trans ?_ hb2 | with_reducible refine Grow.G.trans ?_ hb1 | ((with_reducible refine Below.setCell ?_ ?_ _); rotate_left; (focus (first | omega | (simp; done) | (simp; omega)))))); all_goals fail))))
      (try (have hlewn4_3 : wn2.heap.size ≤ wn4.heap.size := (by first | omega | (have hh := hxwn4z3; (try simp at hh); omega))))
      (try (have hlwn4_3_0 : wn2.heap.size < wn4.heap.size := (by first | omega | (have hh := hxwn4z3; (try simp at hh); omega))))
      (try (have hlwn4_3_1 : wn2.heap.size + 1 < wn4.heap.size := (by first | omega | (have hh := hxwn4z3; (try simp at hh); omega))))
      (try (have hlwn4_3_2 : wn2.heap.size + 1 + 1 < wn4.heap.size := (by first | omega | (have hh := hxwn4z3; (try simp at hh); omega))))
      go_wp2_with fail
      go_ret
      exact ⟨rfl, Grow.G.trans (Grow.G.trans (Below.setCell (Grow.G.trans (Grow.G.alloc (Grow.G.trans GB1.out hb1) _) hb2) (by show w.heap.size ≤ bC; omega) _) hb3) hb4⟩
    · skip
      obtain ⟨b', off', hbo, c0, c1, c2⟩ := TC4.out.at hk
      obtain ⟨rfl, rfl⟩ : bC = b' ∧ 0 = off' := by cases hbo; exact ⟨rfl, rfl⟩
      rw [Nat.zero_add] at c0 c1 c2
      clear hbo
      have pk := PCS.out k hk
      have OK := OKS.out k hk
      generalize hT : ts.getD k tg0 = t0 at *
      have TT0 := Lib.hid hT
      clear hT
      have p1 := pk.1
      have p2 := pk.2
      obtain ⟨b', off', hbo, d0, d1, d2⟩ := TC4.out.at (show 0 < ts.length by omega)
      obtain ⟨rfl, rfl⟩ : bC = b' ∧ 0 = off' := by cases hbo; exact ⟨rfl, rfl⟩
      have OK0 := OKS.out 0 (by omega)
      generalize ts.getD 0 tg0 = s0 at *
      have d1 : wb1.cell? ⟨bC, 1, none⟩ = some (.string s0.tg) := d1
      have l0 : (0 : Int) < (ts.length : Int) := by omega
      have l00 : 0 < ts.length := by omega
      clear d0 d2 hbo
      go_wp2_with fail
      refine Evo.start' (ℓ := some 10) (T := Grow.G) (by kernel_rfl) ⟨Evo.preG, by decide +kernel, (by intro c a d v w h; cases d <;> exact h), by decide +kernel⟩ (fun ok => ?_)
      first | (refine Evo.value ok 0 ?_ (by rfl) (by decide +kernel) (by rfl) ?_ ?_; rotate_left; (intro w' hg; go_simp <;> with_reducible rfl); simp only [Act.put, List.setIfInBounds_toArray, List.set_cons_zero, List.set_cons_succ]) | (refine Evo.value ok 0 ?_ (by rfl) (by decide +kernel) (by rfl) ?_ ?_; rotate_left; (intro w' hg; go_simp; rw [if_neg (by omega)]); simp only [Act.put, List.setIfInBounds_toArray, List.set_cons_zero, List.set_cons_succ])
      first | (refine Evo.value ok 1 ?_ (by rfl) (by decide +kernel) (by rfl) ?_ ?_; rotate_left; (intro w' hg; have hgc := (bcell hg).1; have hgf := (bcell hg).2.1; (try (have hlew_1 : wb1.heap.size ≤ w'.heap.size := (by first | omega | (have hh := (bcell hg).2.2; (try simp at hh); omega)))); (try (have hlw_1_0 : wb1.heap.size < w'.heap.size := (by first | omega | (have hh := (bcell hg).2.2; (try simp at hh); omega)))); (try (have hlw_1_1 : wb1.heap.size + 1 < w'.heap.size := (by first | omega | (have hh := (bcell hg).2.2; (try simp at hh); omega)))); (try (have hlw_1_2 : wb1.heap.size + 1 + 1 < w'.heap.size := (by first | omega | (have hh := (bcell hg).2.2; (try simp at hh); omega)))); go_simp <;> with_reducible rfl); simp only [Act.put, List.setIfInBounds_toArray, List.set_cons_zero, List.set_cons_succ]) | (refine Evo.value ok 1 ?_ (by rfl) (by decide +kernel) (by rfl) ?_ ?_; rotate_left; (intro w' hg; go_simp <;> with_reducible rfl); simp only [Act.put, List.setIfInBounds_toArray, List.set_cons_zero, List.set_cons_succ])
      first | (refine Evo.value ok 2 ?_ (by rfl) (by decide +kernel) (by rfl) ?_ ?_; rotate_left; (intro w' hg; go_simp <;> with_reducible rfl); simp only [Act.put, List.setIfInBounds_toArray, List.set_cons_zero, List.set_cons_succ]) | (refine Evo.value ok 2 ?_ (by rfl) (by decide +kernel) (by rfl) ?_ ?_; rotate_left; (intro w' hg; go_simp; rw [if_neg (by omega)]); simp only [Act.put, List.setIfInBounds_toArray, List.set_cons_zero, List.set_cons_succ])
      first | (refine Evo.value ok 3 ?_ (by rfl) (by decide +kernel) (by rfl) ?_ ?_; rotate_left; (intro w' hg; go_simp <;> with_reducible rfl); simp only [Act.put, List.setIfInBounds_toArray, List.set_cons_zero, List.set_cons_succ]) | (refine Evo.value ok 3 ?_ (by rfl) (by decide +kernel) (by rfl) ?_ ?_; rotate_left; (intro w' hg; go_simp; rw [if_neg (by omega)]); simp only [Act.put, List.setIfInBounds_toArray, List.set_cons_zero, List.set_cons_succ])
      first | (refine Evo.value ok 4 ?_ (by rfl) (by decide +kernel) (by rfl) ?_ ?_; rotate_left; (intro w' hg; have hgc := (bcell hg).1; have hgf := (bcell hg).2.1; (try (have hlew_1 : wb1.heap.size ≤ w'.heap.size := (by first | omega | (have hh := (bcell hg).2.2; (try simp at hh); omega)))); (try (have hlw_1_0 : wb1.heap.size < w'.heap.size := (by first | omega | (have hh := (bcell hg).2.2; (try simp at hh); omega)))); (try (have hlw_1_1 : wb1.heap.size + 1 < w'.heap.size := (by first | omega | (have hh := (bcell hg).2.2; (try simp at hh); omega)))); (try (have hlw_1_2 : wb1.heap.size + 1 + 1 < w'.heap.size := (by first | omega | (have hh := (bcell hg).2.2; (try simp at hh); omega)))); go_simp <;> with_reducible rfl); simp only [Act.put, List.setIfInBounds_toArray, List.set_cons_zero, List.set_cons_succ]) | (refine Evo.value ok 4 ?_ (by rfl) (by decide +kernel) (by rfl) ?_ ?_; rotate_left; (intro w' hg; go_simp <;> with_reducible rfl); simp only [Act.put, List.setIfInBounds_toArray, List.set_cons_zero, List.set_cons_succ])
      first | (refine Evo.value ok 5 ?_ (by rfl) (by decide +kernel) (by rfl) ?_ ?_; rotate_left; (intro w' hg; go_simp <;> with_reducible rfl); simp only [Act.put, List.setIfInBounds_toArray, List.set_cons_zero, List.set_cons_succ]) | (refine Evo.value ok 5 ?_ (by rfl) (by decide +kernel) (by rfl) ?_ ?_; rotate_left; (intro w' hg; go_simp; rw [if_neg (by omega)]); simp only [Act.put, List.setIfInBounds_toArray, List.set_cons_zero, List.set_cons_succ])
      first | (refine Evo.value ok 6 ?_ (by rfl) (by decide +kernel) (by rfl) ?_ ?_; rotate_left; (intro w' hg; go_simp <;> with_reducible rfl); simp only [Act.put, List.setIfInBounds_toArray, List.set_cons_zero, List.set_cons_succ]) | (refine Evo.value ok 6 ?_ (by rfl) (by decide +kernel) (by rfl) ?_ ?_; rotate_left; (intro w' hg; go_simp; rw [if_neg (by omega)]); simp only [Act.put, List.setIfInBounds_toArray, List.set_cons_zero, List.set_cons_succ])
      first | (refine Evo.value ok 7 ?_ (by rfl) (by decide +kernel) (by rfl) ?_ ?_; rotate_left; (intro w' hg; have hgc := (bcell hg).1; have hgf := (bcell hg).2.1; (try (have hlew_1 : wb1.heap.size ≤ w'.heap.size := (by first | omega | (have hh := (bcell hg).2.2; (try simp at hh); omega)))); (try (have hlw_1_0 : wb1.heap.size < w'.heap.size := (by first | omega | (have hh := (bcell hg).2.2; (try simp at hh); omega)))); (try (have hlw_1_1 : wb1.heap.size + 1 < w'.heap.size := (by first | omega | (have hh := (bcell hg).2.2; (try simp at hh); omega)))); (try (have hlw_1_2 : wb1.heap.size + 1 + 1 < w'.heap.size := (by first | omega | (have hh := (bcell hg).2.2; (try simp at hh); omega)))); go_simp <;> with_reducible rfl); simp only [Act.put, List.setIfInBounds_toArray, List.set_cons_zero, List.set_cons_succ]) | (refine Evo.value ok 7 ?_ (by rfl) (by decide +kernel) (by rfl) ?_ ?_; rotate_left; (intro w' hg; go_simp <;> with_reducible rfl); simp only [Act.put, List.setIfInBounds_toArray, List.set_cons_zero, List.set_cons_succ])
      first | (refine Evo.value ok 8 ?_ (by rfl) (by decide +kernel) (by rfl) ?_ ?_; rotate_left; (intro w' hg; go_simp <;> with_reducible rfl); simp only [Act.put, List.setIfInBounds_toArray, List.set_cons_zero, List.set_cons_succ]) | (refine Evo.value ok 8 ?_ (by rfl) (by decide +kernel) (by rfl) ?_ ?_; rotate_left; (intro w' hg; go_simp; rw [if_neg (by omega)]); simp only [Act.put, List.setIfInBounds_toArray, List.set_cons_zero, List.set_cons_succ])
      first | (refine Evo.value ok 9 ?_ (by rfl) (by decide +kernel) (by rfl) ?_ ?_; rotate_left; (intro w' hg; go_simp <;> with_reducible rfl); simp only [Act.put, List.setIfInBounds_toArray, List.set_cons_zero, List.set_cons_succ]) | (refine Evo.value ok 9 ?_ (by rfl) (by decide +kernel) (by rfl) ?_ ?_; rotate_left; (intro w' hg; go_simp; rw [if_neg (by omega)]); simp only [Act.put, List.setIfInBounds_toArray, List.set_cons_zero, List.set_cons_succ])
      refine Evo.all [10] (by decide +kernel) rfl ?_
      intro wn1 hb1 iq1 hq1
      have KB1 := Lib.hid (Evo.later hb1)
      have hxwn1c := (bcell hb1).1
      have hxwn1f := (bcell hb1).2.1
      have hxwn1z := (bcell hb1).2.2
      (try (have hlewn1_1 : wb1.heap.size ≤ wn1.heap.size := (by first | omega | (have hh := hxwn1z; (try simp at hh); omega))))
      (try (have hlwn1_1_0 : wb1.heap.size < wn1.heap.size := (by first | omega | (have hh := hxwn1z; (try simp at hh); omega))))
      (try (have hlwn1_1_1 : wb1.heap.size + 1 < wn1.heap.size := (by first | omega | (have hh := hxwn1z; (try simp at hh); omega))))
      (try (have hlwn1_1_2 : wb1.heap.size + 1 + 1 < wn1.heap.size := (by first | omega | (have hh := hxwn1z; (try simp at hh); omega))))
      simp only [List.mem_cons, List.mem_nil_iff, or_false] at hq1
      subst hq1
      refine Evo.runs (by rfl) (by rfl) (fun K' hK' => ?_)
      go_simp
      (try (simp only [Evo.after_value, Evo.after_skip]))
      refine hK'.out _ _ ?_
      clear hK'
      simp only [Act.put, List.setIfInBounds_toArray, List.set_cons_zero, List.set_cons_succ]
      refine ⟨.inl (by first | rfl | trivial), ?_⟩
      refine Evo.done (by decide +kernel) (fun wn2 hb2 => ?_)
      have KB2 := Lib.hid (Evo.later hb2)
      have hxwn2c := (bcell hb2).1
      have hxwn2f := (bcell hb2).2.1
      have hxwn2z := (bcell hb2).2.2
      (try (have hlewn2_2 : wn1.heap.size ≤ wn2.heap.size := (by first | omega | (have hh := hxwn2z; (try simp at hh); omega))))
      (try (have hlwn2_2_0 : wn1.heap.size < wn2.heap.size := (by first | omega | (have hh := hxwn2z; (try simp at hh); omega))))
      (try (have hlwn2_2_1 : wn1.heap.size + 1 < wn2.heap.size := (by first | omega | (have hh := hxwn2z; (try simp at hh); omega))))
      (try (have hlwn2_2_2 : wn1.heap.size + 1 + 1 < wn2.heap.size := (by first | omega | (have hh := hxwn2z; (try simp at hh); omega))))
      (try (refine Evo.laterK KB1.out wn2 ?_ (fun hxwn2c1 hxwn2f1 hxwn2z1 => ?_); (focus ((repeat (first | with_reducible exact Grow.G.refl _ | with_reducible exact Below.refl _ _ | with_reducible refine Grow.G.alloc ?_ _ | with_reducible refine Grow.G.trans ?_ hb2 | with_reducible refine Grow.G.trans ?_ hb1 | ((with_reducible refine Below.setCell ?_ ?_ _); rotate_left; (focus (first | omega | (simp; done) | (simp; omega)))))); all_goals fail))))
      (try (have hlewn2_1 : wb1.heap.size ≤ wn2.heap.size := (by first | omega | (have hh := hxwn2z1; (try simp at hh); omega))))
      (try (have hlwn2_1_0 : wb1.heap.size < wn2.heap.size := (by first | omega | (have hh := hxwn2z1; (try simp at hh); omega))))
      (try (have hlwn2_1_1 : wb1.heap.size + 1 < wn2.heap.size := (by first | omega | (have hh := hxwn2z1; (try simp at hh); omega))))
      (try (have hlwn2_1_2 : wb1.heap.size + 1 + 1 < wn2.heap.size := (by first | omega | (have hh := hxwn2z1; (try simp at hh); omega))))
      have m1 : gC < wn1.heap.size := by omega
      have m2 : gC < wn2.heap.size := by omega
      have ne2 : ¬ gC = bC := by omega
      go_wp2_with fail
      obtain ⟨y, hy⟩ : ∃ y, routeE (nm) (cf) (ts.set k ⟨t0.rv, s0.tg, t0.pc⟩) (ro) = y := ⟨_, rfl⟩
      have TT := Lib.hid ((tgts_set (j := 1) (v := .string s0.tg) (t := ⟨t0.rv, s0.tg, t0.pc⟩) (TC4.out.later hb1) hk (by decide) (.inr (.inl ⟨rfl, rfl, by rw [TT0.out], by rw [TT0.out]⟩))).later hb2)
      have HK : ∀ i, i < List.length (ts.set k ⟨t0.rv, s0.tg, t0.pc⟩) → (List.getD (ts.set k ⟨t0.rv, s0.tg, t0.pc⟩) i tg0).ok := set_ok OKS.out ⟨OK.1, OK0.2.1, OK.2.2⟩
      have FA := Lib.hid (fun w h => route_at (nm) (cf) (some ⟨bC, 0, none⟩) (ts.set k ⟨t0.rv, s0.tg, t0.pc⟩) (ts.length) cC (ro) w y (by rw [List.length_set]) (by omega) (by omega) (by rw [List.length_set]; omega) h HK hy)
      have FB := Lib.hid (fun w h => rroute_at (nm) (cf) (some ⟨bC, 0, none⟩) (ts.set k ⟨t0.rv, s0.tg, t0.pc⟩) (ts.length) cC (ro) w y (by rw [List.length_set]) (by omega) (by omega) (by rw [List.length_set]; omega) h HK hy)
      have hyy : (y == y) = true := by simp
      clear hy HK
      refine Evo.start' (ℓ := none) (T := Grow.G) (by kernel_rfl) ⟨Evo.preG, by decide +kernel, (by intro c a d v w h; cases d <;> exact h), by decide +kernel⟩ (fun ok => ?_)
      first | (refine Evo.value ok 0 ?_ (by rfl) (by decide +kernel) (by rfl) ?_ ?_; rotate_left; (intro w' hg; have hgc := (bcell hg).1; have hgf := (bcell hg).2.1; (try (have hlew_3 : wn2.heap.size ≤ w'.heap.size := (by first | omega | (have hh := (bcell hg).2.2; (try simp at hh); omega)))); (try (have hlw_3_0 : wn2.heap.size < w'.heap.size := (by first | omega | (have hh := (bcell hg).2.2; (try simp at hh); omega)))); (try (have hlw_3_1 : wn2.heap.size + 1 < w'.heap.size := (by first | omega | (have hh := (bcell hg).2.2; (try simp at hh); omega)))); (try (have hlw_3_2 : wn2.heap.size + 1 + 1 < w'.heap.size := (by first | omega | (have hh := (bcell hg).2.2; (try simp at hh); omega)))); (try (refine Evo.laterK KB1.out w' ?_ (fun hxwc1 hxwf1 hxwz1 => ?_); (focus ((repeat (first | with_reducible exact Grow.G.refl _ | with_reducible exact Below.refl _ _ | with_reducible refine Grow.G.alloc ?_ _ | with_reducible refine Grow.G.trans ?_ hb3 | with_reducible refine Grow.G.trans ?_ hb2 | with_reducible refine Grow.G.trans ?_ hb1 | ((with_reducible refine Below.setCell ?_ ?_ _); rotate_left; (focus (first | omega | (simp; done) | (simp; omega)))))); all_goals fail)))); (try (have hlew_1 : wb1.heap.size ≤ w'.heap.size := (by first | omega | (have hh := hxwz1; (try simp at hh); omega)))); (try (have hlw_1_0 : wb1.heap.size < w'.heap.size := (by first | omega | (have hh := hxwz1; (try simp at hh); omega)))); (try (have hlw_1_1 : wb1.heap.size + 1 < w'.heap.size := (by first | omega | (have hh := hxwz1; (try simp at hh); omega)))); (try (have hlw_1_2 : wb1.heap.size + 1 + 1 < w'.heap.size := (by first | omega | (have hh := hxwz1; (try simp at hh); omega)))); (try (refine Evo.laterK KB2.out w' ?_ (fun hxwc2 hxwf2 hxwz2 => ?_); (focus ((repeat (first | with_reducible exact Grow.G.refl _ | with_reducible exact Below.refl _ _ | with_reducible refine Grow.G.alloc ?_ _ | with_reducible refine Grow.G.trans ?_ hb3 | with_reducible refine Grow.G.trans ?_ hb2 | with_reducible refine Grow.G.trans ?_ hb1 | ((with_reducible refine Below.setCell ?_ ?_ _); rotate_left; (focus (first | omega | (simp; done) | (simp; omega)))))); all_goals fail)))); (try (have hlew_2 : wn1.heap.size ≤ w'.heap.size := (by first | omega | (have hh := hxwz2; (try simp at hh); omega)))); (try (have hlw_2_0 : wn1.heap.size < w'.heap.size := (by first | omega | (have hh := hxwz2; (try simp at hh); omega)))); (try (have hlw_2_1 : wn1.heap.size + 1 < w'.heap.size := (by first | omega | (have hh := hxwz2; (try simp at hh); omega)))); (try (have hlw_2_2 : wn1.heap.size + 1 + 1 < w'.heap.size := (by first | omega | (have hh := hxwz2; (try simp at hh); omega)))); go_simp <;> with_reducible rfl); simp only [Act.put, List.setIfInBounds_toArray, List.set_cons_zero, List.set_cons_succ]) | (refine Evo.value ok 0 ?_ (by rfl) (by decide +kernel) (by rfl) ?_ ?_; rotate_left; (intro w' hg; go_simp <;> with_reducible rfl); simp only [Act.put, List.setIfInBounds_toArray, List.set_cons_zero, List.set_cons_succ])
      (refine Evo.call ok 1 ?_ 19 ?_ (by rfl) (by decide +kernel) (by rfl) ?_ ?_ ?_; rotate_left 2; (focus (intro w'; go_simp <;> with_reducible rfl)); (focus (intro w' g'; with_reducible exact FA.out w' (TT.out.later g'))); simp only [Act.put, List.setIfInBounds_toArray, List.set_cons_zero, List.set_cons_succ])
      first | (refine Evo.value ok 2 ?_ (by rfl) (by decide +kernel) (by rfl) ?_ ?_; rotate_left; (intro w' hg; have hgc := (bcell hg).1; have hgf := (bcell hg).2.1; (try (have hlew_3 : wn2.heap.size ≤ w'.heap.size := (by first | omega | (have hh := (bcell hg).2.2; (try simp at hh); omega)))); (try (have hlw_3_0 : wn2.heap.size < w'.heap.size := (by first | omega | (have hh := (bcell hg).2.2; (try simp at hh); omega)))); (try (have hlw_3_1 : wn2.heap.size + 1 < w'.heap.size := (by first | omega | (have hh := (bcell hg).2.2; (try simp at hh); omega)))); (try (have hlw_3_2 : wn2.heap.size + 1 + 1 < w'.heap.size := (by first | omega | (have hh := (bcell hg).2.2; (try simp at hh); omega)))); (try (refine Evo.laterK KB1.out w' ?_ (fun hxwc1 hxwf1 hxwz1 => ?_); (focus ((repeat (first | with_reducible exact Grow.G.refl _ | with_reducible exact Below.refl _ _ | with_reducible refine Grow.G.alloc ?_ _ | with_reducible refine Grow.G.trans ?_ hb3 | with_reducible refine Grow.G.trans ?_ hb2 | with_reducible refine Grow.G.trans ?_ hb1 | ((with_reducible refine Below.setCell ?_ ?_ _); rotate_left; (focus (first | omega | (simp; done) | (simp; omega)))))); all_goals fail)))); (try (have hlew_1 : wb1.heap.size ≤ w'.heap.size := (by first | omega | (have hh := hxwz1; (try simp at hh); omega)))); (try (have hlw_1_0 : wb1.heap.size < w'.heap.size := (by first | omega | (have hh := hxwz1; (try simp at hh); omega)))); (try (have hlw_1_1 : wb1.heap.size + 1 < w'.heap.size := (by first | omega | (have hh := hxwz1; (try simp at hh); omega)))); (try (have hlw_1_2 : wb1.heap.size + 1 + 1 < w'.heap.size := (by first | omega | (have hh := hxwz1; (try simp at hh); omega)))); (try (refine Evo.laterK KB2.out w' ?_ (fun hxwc2 hxwf2 hxwz2 => ?_); (focus ((repeat (first | with_reducible exact Grow.G.refl _ | with_reducible exact Below.refl _ _ | with_reducible refine Grow.G.alloc ?_ _ | with_reducible refine Grow.G.trans ?_ hb3 | with_reducible refine Grow.G.trans ?_ hb2 | with_reducible refine Grow.G.trans ?_ hb1 | ((with_reducible refine Below.setCell ?_ ?_ _); rotate_left; (focus (first | omega | (simp; done) | (simp; omega)))))); all_goals fail)))); (try (have hlew_2 : wn1.heap.size ≤ w'.heap.size := (by first | omega | (have hh := hxwz2; (try simp at hh); omega)))); (try (have hlw_2_0 : wn1.heap.size < w'.heap.size := (by first | omega | (have hh := hxwz2; (try simp at hh); omega)))); (try (have hlw_2_1 : wn1.heap.size + 1 < w'.heap.size := (by first | omega | (have hh := hxwz2; (try simp at hh); omega)))); (try (have hlw_2_2 : wn1.heap.size + 1 + 1 < w'.heap.size := (by first | omega | (have hh := hxwz2; (try simp at hh); omega)))); go_simp <;> with_reducible rfl); simp only [Act.put, List.setIfInBounds_toArray, List.set_cons_zero, List.set_cons_succ]) | (refine Evo.value ok 2 ?_ (by rfl) (by decide +kernel) (by rfl) ?_ ?_; rotate_left; (intro w' hg; go_simp <;> with_reducible rfl); simp only [Act.put, List.setIfInBounds_toArray, List.set_cons_zero, List.set_cons_succ])
      (refine Evo.call ok 3 ?_ 20 ?_ (by rfl) (by decide +kernel) (by rfl) ?_ ?_ ?_; rotate_left 2; (focus (intro w'; go_simp <;> with_reducible rfl)); (focus (intro w' g'; with_reducible exact FB.out w' (TT.out.later g'))); simp only [Act.put, List.setIfInBounds_toArray, List.set_cons_zero, List.set_cons_succ])
      first | (refine Evo.value ok 4 ?_ (by rfl) (by decide +kernel) (by rfl) ?_ ?_; rotate_left; (intro w' hg; go_simp <;> with_reducible rfl); simp only [Act.put, List.setIfInBounds_toArray, List.set_cons_zero, List.set_cons_succ]) | (refine Evo.value ok 4 ?_ (by rfl) (by decide +kernel) (by rfl) ?_ ?_; rotate_left; (intro w' hg; go_simp; rw [if_neg (by omega)]); simp only [Act.put, List.setIfInBounds_toArray, List.set_cons_zero, List.set_cons_succ])
      first | (refine Evo.value ok 5 ?_ (by rfl) (by decide +kernel) (by rfl) ?_ ?_; rotate_left; (intro w' hg; go_simp <;> with_reducible rfl); simp only [Act.put, List.setIfInBounds_toArray, List.set_cons_zero, List.set_cons_succ]) | (refine Evo.value ok 5 ?_ (by rfl) (by decide +kernel) (by rfl) ?_ ?_; rotate_left; (intro w' hg; go_simp; rw [if_neg (by omega)]); simp only [Act.put, List.setIfInBounds_toArray, List.set_cons_zero, List.set_cons_succ])
      refine Evo.done (by decide +kernel) (fun wn3 hb3 => ?_)
      have KB3 := Lib.hid (Evo.later hb3)
      have hxwn3c := (bcell hb3).1
      have hxwn3f := (bcell hb3).2.1
      have hxwn3z := (bcell hb3).2.2
      (try (have hlewn3_3 : wn2.heap.size ≤ wn3.heap.size := (by first | omega | (have hh := hxwn3z; (try simp at hh); omega))))
      (try (have hlwn3_3_0 : wn2.heap.size < wn3.heap.size := (by first | omega | (have hh := hxwn3z; (try simp at hh); omega))))
      (try (have hlwn3_3_1 : wn2.heap.size + 1 < wn3.heap.size := (by first | omega | (have hh := hxwn3z; (try simp at hh); omega))))
      (try (have hlwn3_3_2 : wn2.heap.size + 1 + 1 < wn3.heap.size := (by first | omega | (have hh := hxwn3z; (try simp at hh); omega))))
      (try (refine Evo.laterK KB1.out wn3 ?_ (fun hxwn3c1 hxwn3f1 hxwn3z1 => ?_); (focus ((repeat (first | with_reducible exact Grow.G.refl _ | with_reducible exact Below.refl _ _ | with_reducible refine Grow.G.alloc ?_ _ | with_reducible refine Grow.G.trans ?_ hb3 | with_reducible refine Grow.G.trans ?_ hb2 | with_reducible refine Grow.G.trans ?_ hb1 | ((with_reducible refine Below.setCell ?_ ?_ _); rotate_left; (focus (first | omega | (simp; done) | (simp; omega)))))); all_goals fail))))
      (try (have hlewn3_1 : wb1.heap.size ≤ wn3.heap.size := (by first | omega | (have hh := hxwn3z1; (try simp at hh); omega))))
      (try (have hlwn3_1_0 : wb1.heap.size < wn3.heap.size := (by first | omega | (have hh := hxwn3z1; (try simp at hh); omega))))
      (try (have hlwn3_1_1 : wb1.heap.size + 1 < wn3.heap.size := (by first | omega | (have hh := hxwn3z1; (try simp at hh); omega))))
      (try (have hlwn3_1_2 : wb1.heap.size + 1 + 1 < wn3.heap.size := (by first | omega | (have hh := hxwn3z1; (try simp at hh); omega))))
      (try (refine Evo.laterK KB2.out wn3 ?_ (fun hxwn3c2 hxwn3f2 hxwn3z2 => ?_); (focus ((repeat (first | with_reducible exact Grow.G.refl _ | with_reducible exact Below.refl _ _ | with_reducible refine Grow.G.alloc ?_ _ | with_reducible refine Grow.G.trans ?_ hb3 | with_reducible refine Grow.G.trans ?_ hb2 | with_reducible refine Grow.G.trans ?_ hb1 | ((with_reducible refine Below.setCell ?_ ?_ _); rotate_left; (focus (first | omega | (simp; done) | (simp; omega)))))); all_goals fail))))
      (try (have hlewn3_2 : wn1.heap.size ≤ wn3.heap.size := (by first | omega | (have hh := hxwn3z2; (try simp at hh); omega))))
      (try (have hlwn3_2_0 : wn1.heap.size < wn3.heap.size := (by first | omega | (have hh := hxwn3z2; (try simp at hh); omega))))
      (try (have hlwn3_2_1 : wn1.heap.size + 1 < wn3.heap.size := (by first | omega | (have hh := hxwn3z2; (try simp at hh); omega))))
      (try (have hlwn3_2_2 : wn1.heap.size + 1 + 1 < wn3.heap.size := (by first | omega | (have hh := hxwn3z2; (try simp at hh); omega))))
      go_wp2_with fail
      go_ret
      exact ⟨rfl, Grow.G.trans (Grow.G.trans (Below.setCell (Grow.G.trans GB1.out hb1) (by show w.heap.size ≤ bC; omega) _) hb2) hb3⟩
    · skip
      have WLG := Lib.hid (fun w => Evo.same (WL.out w))
      have nc1 : (kL : Int) ≤ (cC : Int) := by omega
      go_wp2_with fail
      refine Evo.start' (ℓ := some 9) (T := Grow.G) (by kernel_rfl) ⟨Evo.preG, by decide +kernel, (by intro c a d v w h; cases d <;> exact h), by decide +kernel⟩ (fun ok => ?_)
      first | (refine Evo.value ok 0 ?_ (by rfl) (by decide +kernel) (by rfl) ?_ ?_; rotate_left; (intro w' hg; go_simp <;> with_reducible rfl); simp only [Act.put, List.setIfInBounds_toArray, List.set_cons_zero, List.set_cons_succ]) | (refine Evo.value ok 0 ?_ (by rfl) (by decide +kernel) (by rfl) ?_ ?_; rotate_left; (intro w' hg; go_simp; rw [if_neg (by omega)]); simp only [Act.put, List.setIfInBounds_toArray, List.set_cons_zero, List.set_cons_succ])
      first | (refine Evo.value ok 1 ?_ (by rfl) (by decide +kernel) (by rfl) ?_ ?_; rotate_left; (intro w' hg; have hgc := (bcell hg).1; have hgf := (bcell hg).2.1; (try (have hlew_1 : wb1.heap.size ≤ w'.heap.size := (by first | omega | (have hh := (bcell hg).2.2; (try simp at hh); omega)))); (try (have hlw_1_0 : wb1.heap.size < w'.heap.size := (by first | omega | (have hh := (bcell hg).2.2; (try simp at hh); omega)))); (try (have hlw_1_1 : wb1.heap.size + 1 < w'.heap.size := (by first | omega | (have hh := (bcell hg).2.2; (try simp at hh); omega)))); (try (have hlw_1_2 : wb1.heap.size + 1 + 1 < w'.heap.size := (by first | omega | (have hh := (bcell hg).2.2; (try simp at hh); omega)))); go_simp <;> with_reducible rfl); simp only [Act.put, List.setIfInBounds_toArray, List.set_cons_zero, List.set_cons_succ]) | (refine Evo.value ok 1 ?_ (by rfl) (by decide +kernel) (by rfl) ?_ ?_; rotate_left; (intro w' hg; go_simp <;> with_reducible rfl); simp only [Act.put, List.setIfInBounds_toArray, List.set_cons_zero, List.set_cons_succ])
      first | (refine Evo.value ok 2 ?_ (by rfl) (by decide +kernel) (by rfl) ?_ ?_; rotate_left; (intro w' hg; go_simp <;> with_reducible rfl); simp only [Act.put, List.setIfInBounds_toArray, List.set_cons_zero, List.set_cons_succ]) | (refine Evo.value ok 2 ?_ (by rfl) (by decide +kernel) (by rfl) ?_ ?_; rotate_left; (intro w' hg; go_simp; rw [if_neg (by omega)]); simp only [Act.put, List.setIfInBounds_toArray, List.set_cons_zero, List.set_cons_succ])
      first | (refine Evo.value ok 3 ?_ (by rfl) (by decide +kernel) (by rfl) ?_ ?_; rotate_left; (intro w' hg; go_simp <;> with_reducible rfl); simp only [Act.put, List.setIfInBounds_toArray, List.set_cons_zero, List.set_cons_succ]) | (refine Evo.value ok 3 ?_ (by rfl) (by decide +kernel) (by rfl) ?_ ?_; rotate_left; (intro w' hg; go_simp; rw [if_neg (by omega)]); simp only [Act.put, List.setIfInBounds_toArray, List.set_cons_zero, List.set_cons_succ])
      first | (refine Evo.value ok 4 ?_ (by rfl) (by decide +kernel) (by rfl) ?_ ?_; rotate_left; (intro w' hg; have hgc := (bcell hg).1; have hgf := (bcell hg).2.1; (try (have hlew_1 : wb1.heap.size ≤ w'.heap.size := (by first | omega | (have hh := (bcell hg).2.2; (try simp at hh); omega)))); (try (have hlw_1_0 : wb1.heap.size < w'.heap.size := (by first | omega | (have hh := (bcell hg).2.2; (try simp at hh); omega)))); (try (have hlw_1_1 : wb1.heap.size + 1 < w'.heap.size := (by first | omega | (have hh := (bcell hg).2.2; (try simp at hh); omega)))); (try (have hlw_1_2 : wb1.heap.size + 1 + 1 < w'.heap.size := (by first | omega | (have hh := (bcell hg).2.2; (try simp at hh); omega)))); go_simp <;> with_reducible rfl); simp only [Act.put, List.setIfInBounds_toArray, List.set_cons_zero, List.set_cons_succ]) | (refine Evo.value ok 4 ?_ (by rfl) (by decide +kernel) (by rfl) ?_ ?_; rotate_left; (intro w' hg; go_simp <;> with_reducible rfl); simp only [Act.put, List.setIfInBounds_toArray, List.set_cons_zero, List.set_cons_succ])
      first | (refine Evo.value ok 5 ?_ (by rfl) (by decide +kernel) (by rfl) ?_ ?_; rotate_left; (intro w' hg; go_simp <;> with_reducible rfl); simp only [Act.put, List.setIfInBounds_toArray, List.set_cons_zero, List.set_cons_succ]) | (refine Evo.value ok 5 ?_ (by rfl) (by decide +kernel) (by rfl) ?_ ?_; rotate_left; (intro w' hg; go_simp; rw [if_neg (by omega)]); simp only [Act.put, List.setIfInBounds_toArray, List.set_cons_zero, List.set_cons_succ])
      (refine Evo.call ok 6 ?_ 15 ?_ (by rfl) (by decide +kernel) (by rfl) ?_ ?_ ?_; rotate_left 2; (focus (intro w'; go_simp <;> with_reducible rfl)); (focus (intro w' g'; with_reducible exact WLG.out w')); simp only [Act.put, List.setIfInBounds_toArray, List.set_cons_zero, List.set_cons_succ])
      first | (refine Evo.value ok 7 ?_ (by rfl) (by decide +kernel) (by rfl) ?_ ?_; rotate_left; (intro w' hg; go_simp <;> with_reducible rfl); simp only [Act.put, List.setIfInBounds_toArray, List.set_cons_zero, List.set_cons_succ]) | (refine Evo.value ok 7 ?_ (by rfl) (by decide +kernel) (by rfl) ?_ ?_; rotate_left; (intro w' hg; go_simp; rw [if_neg (by omega)]); simp only [Act.put, List.setIfInBounds_toArray, List.set_cons_zero, List.set_cons_succ])
      first | (refine Evo.value ok 8 ?_ (by rfl) (by decide +kernel) (by rfl) ?_ ?_; rotate_left; (intro w' hg; go_simp <;> with_reducible rfl); simp only [Act.put, List.setIfInBounds_toArray, List.set_cons_zero, List.set_cons_succ]) | (refine Evo.value ok 8 ?_ (by rfl) (by decide +kernel) (by rfl) ?_ ?_; rotate_left; (intro w' hg; go_simp; rw [if_neg (by omega)]); simp only [Act.put, List.setIfInBounds_toArray, List.set_cons_zero, List.set_cons_succ])
      refine Evo.all [9] (by decide +kernel) rfl ?_
      intro wn1 hb1 iq1 hq1
      have KB1 := Lib.hid (Evo.later hb1)
      have hxwn1c := (bcell hb1).1
      have hxwn1f := (bcell hb1).2.1
      have hxwn1z := (bcell hb1).2.2
      (try (have hlewn1_1 : wb1.heap.size ≤ wn1.heap.size := (by first | omega | (have hh := hxwn1z; (try simp at hh); omega))))
      (try (have hlwn1_1_0 : wb1.heap.size < wn1.heap.size := (by first | omega | (have hh := hxwn1z; (try simp at hh); omega))))
      (try (have hlwn1_1_1 : wb1.heap.size + 1 < wn1.heap.size := (by first | omega | (have hh := hxwn1z; (try simp at hh); omega))))
      (try (have hlwn1_1_2 : wb1.heap.size + 1 + 1 < wn1.heap.size := (by first | omega | (have hh := hxwn1z; (try simp at hh); omega))))
      simp only [List.mem_cons, List.mem_nil_iff, or_false] at hq1
      subst hq1
      refine Evo.runs (by rfl) (by rfl) (fun K' hK' => ?_)
      go_simp
      (try (simp only [Evo.after_value, Evo.after_skip]))
      refine hK'.out _ _ ?_
      clear hK'
      simp only [Act.put, List.setIfInBounds_toArray, List.set_cons_zero, List.set_cons_succ]
      refine ⟨.inl (by first | rfl | trivial), ?_⟩
      refine Evo.done (by decide +kernel) (fun wn2 hb2 => ?_)
      have KB2 := Lib.hid (Evo.later hb2)
      have hxwn2c := (bcell hb2).1
      have hxwn2f := (bcell hb2).2.1
      have hxwn2z := (bcell hb2).2.2
      (try (have hlewn2_2 : wn1.heap.size ≤ wn2.heap.size := (by first | omega | (have hh := hxwn2z; (try simp at hh); omega))))
      (try (have hlwn2_2_0 : wn1.heap.size < wn2.heap.size := (by first | omega | (have hh := hxwn2z; (try simp at hh); omega))))
      (try (have hlwn2_2_1 : wn1.heap.size + 1 < wn2.heap.size := (by first | omega | (have hh := hxwn2z; (try simp at hh); omega))))
      (try (have hlwn2_2_2 : wn1.heap.size + 1 + 1 < wn2.heap.size := (by first | omega | (have hh := hxwn2z; (try simp at hh); omega))))
      (try (refine Evo.laterK KB1.out wn2 ?_ (fun hxwn2c1 hxwn2f1 hxwn2z1 => ?_); (focus ((repeat (first | with_reducible exact Grow.G.refl _ | with_reducible exact Below.refl _ _ | with_reducible refine Grow.G.alloc ?_ _ | with_reducible refine Grow.G.trans ?_ hb2 | with_reducible refine Grow.G.trans ?_ hb1 | ((with_reducible refine Below.setCell ?_ ?_ _); rotate_left; (focus (first | omega | (simp; done) | (simp; omega)))))); all_goals fail))))
      (try (have hlewn2_1 : wb1.heap.size ≤ wn2.heap.size := (by first | omega | (have hh := hxwn2z1; (try simp at hh); omega))))
      (try (have hlwn2_1_0 : wb1.heap.size < wn2.heap.size := (by first | omega | (have hh := hxwn2z1; (try simp at hh); omega))))
      (try (have hlwn2_1_1 : wb1.heap.size + 1 < wn2.heap.size := (by first | omega | (have hh := hxwn2z1; (try simp at hh); omega))))
      (try (have hlwn2_1_2 : wb1.heap.size + 1 + 1 < wn2.heap.size := (by first | omega | (have hh := hxwn2z1; (try simp at hh); omega))))
      have m1 : gC < wn1.heap.size := by omega
      have m2 : gC < wn2.heap.size := by omega
      go_wp2_with fail
      obtain ⟨y, hy⟩ : ∃ y, routeE (nm) (cf) (ts.take kL) (ro) = y := ⟨_, rfl⟩
      have TT := Lib.hid ((tgts_far (p := ⟨gC, 2, none⟩) (v := .slice (some ⟨bC, 0, none⟩) kL cC) ((tgts_take kL TC4.out).later hb1) (fun b off e => by cases e; show gC ≠ bC; omega)).later hb2)
      have HK : ∀ i, i < List.length (ts.take kL) → (List.getD (ts.take kL) i tg0).ok := take_ok kL OKS.out
      have FA := Lib.hid (fun w h => route_at (nm) (cf) (some ⟨bC, 0, none⟩) (ts.take kL) (kL) cC (ro) w y (by rw [List.length_take]; omega) (by omega) (by omega) (by rw [List.length_take]; omega) h HK hy)
      have FB := Lib.hid (fun w h => rroute_at (nm) (cf) (some ⟨bC, 0, none⟩) (ts.take kL) (kL) cC (ro) w y (by rw [List.length_take]; omega) (by omega) (by omega) (by rw [List.length_take]; omega) h HK hy)
      have hyy : (y == y) = true := by simp
      clear hy HK
      refine Evo.start' (ℓ := none) (T := Grow.G) (by kernel_rfl) ⟨Evo.preG, by decide +kernel, (by intro c a d v w h; cases d <;> exact h), by decide +kernel⟩ (fun ok => ?_)
      first | (refine Evo.value ok 0 ?_ (by rfl) (by decide +kernel) (by rfl) ?_ ?_; rotate_left; (intro w' hg; have hgc := (bcell hg).1; have hgf := (bcell hg).2.1; (try (have hlew_3 : wn2.heap.size ≤ w'.heap.size := (by first | omega | (have hh := (bcell hg).2.2; (try simp at hh); omega)))); (try (have hlw_3_0 : wn2.heap.size < w'.heap.size := (by first | omega | (have hh := (bcell hg).2.2; (try simp at hh); omega)))); (try (have hlw_3_1 : wn2.heap.size + 1 < w'.heap.size := (by first | omega | (have hh := (bcell hg).2.2; (try simp at hh); omega)))); (try (have hlw_3_2 : wn2.heap.size + 1 + 1 < w'.heap.size := (by first | omega | (have hh := (bcell hg).2.2; (try simp at hh); omega)))); (try (refine Evo.laterK KB1.out w' ?_ (fun hxwc1 hxwf1 hxwz1 => ?_); (focus ((repeat (first | with_reducible exact Grow.G.refl _ | with_reducible exact Below.refl _ _ | with_reducible refine Grow.G.alloc ?_ _ | with_reducible refine Grow.G.trans ?_ hb3 | with_reducible refine Grow.G.trans ?_ hb2 | with_reducible refine Grow.G.trans ?_ hb1 | ((with_reducible refine Below.setCell ?_ ?_ _); rotate_left; (focus (first | omega | (simp; done) | (simp; omega)))))); all_goals fail)))); (try (have hlew_1 : wb1.heap.size ≤ w'.heap.size := (by first | omega | (have hh := hxwz1; (try simp at hh); omega)))); (try (have hlw_1_0 : wb1.heap.size < w'.heap.size := (by first | omega | (have hh := hxwz1; (try simp at hh); omega)))); (try (have hlw_1_1 : wb1.heap.size + 1 < w'.heap.size := (by first | omega | (have hh := hxwz1; (try simp at hh); omega)))); (try (have hlw_1_2 : wb1.heap.size + 1 + 1 < w'.heap.size := (by first | omega | (have hh := hxwz1; (try simp at hh); omega)))); (try (refine Evo.laterK KB2.out w' ?_ (fun hxwc2 hxwf2 hxwz2 => ?_); (focus ((repeat (first | with_reducible exact Grow.G.refl _ | with_reducible exact Below.refl _ _ | with_reducible refine Grow.G.alloc ?_ _ | with_reducible refine Grow.G.trans ?_ hb3 | with_reducible refine Grow.G.trans ?_ hb2 | with_reducible refine Grow.G.trans ?_ hb1 | ((with_reducible refine Below.setCell ?_ ?_ _); rotate_left; (focus (first | omega | (simp; done) | (simp; omega)))))); all_goals fail)))); (try (have hlew_2 : wn1.heap.size ≤ w'.heap.size := (by first | omega | (have hh := hxwz2; (try simp at hh); omega)))); (try (have hlw_2_0 : wn1.heap.size < w'.heap.size := (by first | omega | (have hh := hxwz2; (try simp at hh); omega)))); (try (have hlw_2_1 : wn1.heap.size + 1 < w'.heap.size := (by first | omega | (have hh := hxwz2; (try simp at hh); omega)))); (try (have hlw_2_2 : wn1.heap.size + 1 + 1 < w'.heap.size := (by first | omega | (have hh := hxwz2; (try simp at hh); omega)))); go_simp <;> with_reducible rfl); simp only [Act.put, List.setIfInBounds_toArray, List.set_cons_zero, List.set_cons_succ]) | (refine Evo.value ok 0 ?_ (by rfl) (by decide +kernel) (by rfl) ?_ ?_; rotate_left; (intro w' hg; go_simp <;> with_reducible rfl); simp only [Act.put, List.setIfInBounds_toArray, List.set_cons_zero, List.set_cons_succ])
      (refine Evo.call ok 1 ?_ 19 ?_ (by rfl) (by decide +kernel) (by rfl) ?_ ?_ ?_; rotate_left 2; (focus (intro w'; go_simp <;> with_reducible rfl)); (focus (intro w' g'; with_reducible exact FA.out w' (TT.out.later g'))); simp only [Act.put, List.setIfInBounds_toArray, List.set_cons_zero, List.set_cons_succ])
      first | (refine Evo.value ok 2 ?_ (by rfl) (by decide +kernel) (by rfl) ?_ ?_; rotate_left; (intro w' hg; have hgc := (bcell hg).1; have hgf := (bcell hg).2.1; (try (have hlew_3 : wn2.heap.size ≤ w'.heap.size := (by first | omega | (have hh := (bcell hg).2.2; (try simp at hh); omega)))); (try (have hlw_3_0 : wn2.heap.size < w'.heap.size := (by first | omega | (have hh := (bcell hg).2.2; (try simp at hh); omega)))); (try (have hlw_3_1 : wn2.heap.size + 1 < w'.heap.size := (by first | omega | (have hh := (bcell hg).2.2; (try simp at hh); omega)))); (try (have hlw_3_2 : wn2.heap.size + 1 + 1 < w'.heap.size := (by first | omega | (have hh := (bcell hg).2.2; (try simp at hh); omega)))); (try (refine Evo.laterK KB1.out w' ?_ (fun hxwc1 hxwf1 hxwz1 => ?_); (focus ((repeat (first | with_reducible exact Grow.G.refl _ | with_reducible exact Below.refl _ _ | with_reducible refine Grow.G.alloc ?_ _ | with_reducible refine Grow.G.trans ?_ hb3 | with_reducible refine Grow.G.trans ?_ hb2 | with_reducible refine Grow.G.trans ?_ hb1 | ((with_reducible refine Below.setCell ?_ ?_ _); rotate_left; (focus (first | omega | (simp; done) | (simp; omega)))))); all_goals fail)))); (try (have hlew_1 : wb1.heap.size ≤ w'.heap.size := (by first | omega | (have hh := hxwz1; (try simp at hh); omega)))); (try (have hlw_1_0 : wb1.heap.size < w'.heap.size := (by first | omega | (have hh := hxwz1; (try simp at hh); omega)))); (try (have hlw_1_1 : wb1.heap.size + 1 < w'.heap.size := (by first | omega | (have hh := hxwz1; (try simp at hh); omega)))); (try (have hlw_1_2 : wb1.heap.size + 1 + 1 < w'.heap.size := (by first | omega | (have hh := hxwz1; (try simp at hh); omega)))); (try (refine Evo.laterK KB2.out w' ?_ (fun hxwc2 hxwf2 hxwz2 => ?_); (focus ((repeat (first | with_reducible exact Grow.G.refl _ | with_reducible exact Below.refl _ _ | with_reducible refine Grow.G.alloc ?_ _ | with_reducible refine Grow.G.trans ?_ hb3 | with_reducible refine Grow.G.trans ?_ hb2 | with_reducible refine Grow.G.trans ?_ hb1 | ((with_reducible refine Below.setCell ?_ ?_ _); rotate_left; (focus (first | omega | (simp; done) | (simp; omega)))))); all_goals fail)))); (try (have hlew_2 : wn1.heap.size ≤ w'.heap.size := (by first | omega | (have hh := hxwz2; (try simp at hh); omega)))); (try (have hlw_2_0 : wn1.heap.size < w'.heap.size := (by first | omega | (have hh := hxwz2; (try simp at hh); omega)))); (try (have hlw_2_1 : wn1.heap.size + 1 < w'.heap.size := (by first | omega | (have hh := hxwz2; (try simp at hh); omega)))); (try (have hlw_2_2 : wn1.heap.size + 1 + 1 < w'.heap.size := (by first | omega | (have hh := hxwz2; (try simp at hh); omega)))); go_simp <;> with_reducible rfl); simp only [Act.put, List.setIfInBounds_toArray, List.set_cons_zero, List.set_cons_succ]) | (refine Evo.value ok 2 ?_ (by rfl) (by decide +kernel) (by rfl) ?_ ?_; rotate_left; (intro w' hg; go_simp <;> with_reducible rfl); simp only [Act.put, List.setIfInBounds_toArray, List.set_cons_zero, List.set_cons_succ])
      (refine Evo.call ok 3 ?_ 20 ?_ (by rfl) (by decide +kernel) (by rfl) ?_ ?_ ?_; rotate_left 2; (focus (intro w'; go_simp <;> with_reducible rfl)); (focus (intro w' g'; with_reducible exact FB.out w' (TT.out.later g'))); simp only [Act.put, List.setIfInBounds_toArray, List.set_cons_zero, List.set_cons_succ])
      first | (refine Evo.value ok 4 ?_ (by rfl) (by decide +kernel) (by rfl) ?_ ?_; rotate_left; (intro w' hg; go_simp <;> with_reducible rfl); simp only [Act.put, List.setIfInBounds_toArray, List.set_cons_zero, List.set_cons_succ]) | (refine Evo.value ok 4 ?_ (by rfl) (by decide +kernel) (by rfl) ?_ ?_; rotate_left; (intro w' hg; go_simp; rw [if_neg (by omega)]); simp only [Act.put, List.setIfInBounds_toArray, List.set_cons_zero, List.set_cons_succ])
      first | (refine Evo.value ok 5 ?_ (by rfl) (by decide +kernel) (by rfl) ?_ ?_; rotate_left; (intro w' hg; go_simp <;> with_reducible rfl); simp only [Act.put, List.setIfInBounds_toArray, List.set_cons_zero, List.set_cons_succ]) | (refine Evo.value ok 5 ?_ (by rfl) (by decide +kernel) (by rfl) ?_ ?_; rotate_left; (intro w' hg; go_simp; rw [if_neg (by omega)]); simp only [Act.put, List.setIfInBounds_toArray, List.set_cons_zero, List.set_cons_succ])
      refine Evo.done (by decide +kernel) (fun wn3 hb3 => ?_)
      have KB3 := Lib.hid (Evo.later hb3)
      have hxwn3c := (bcell hb3).1
      have hxwn3f := (bcell hb3).2.1
      have hxwn3z := (bcell hb3).2.2
      (try (have hlewn3_3 : wn2.heap.size ≤ wn3.heap.size := (by first | omega | (have hh := hxwn3z; (try simp at hh); omega))))
      (try (have hlwn3_3_0 : wn2.heap.size < wn3.heap.size := (by first | omega | (have hh := hxwn3z; (try simp at hh); omega))))
      (try (have hlwn3_3_1 : wn2.heap.size + 1 < wn3.heap.size := (by first | omega | (have hh := hxwn3z; (try simp at hh); omega))))
      (try (have hlwn3_3_2 : wn2.heap.size + 1 + 1 < wn3.heap.size := (by first | omega | (have hh := hxwn3z; (try simp at hh); omega))))
      (try (refine Evo.laterK KB1.out wn3 ?_ (fun hxwn3c1 hxwn3f1 hxwn3z1 => ?_); (focus ((repeat (first | with_reducible exact Grow.G.refl _ | with_reducible exact Below.refl _ _ | with_reducible refine Grow.G.alloc ?_ _ | with_reducible refine Grow.G.trans ?_ hb3 | with_reducible refine Grow.G.trans ?_ hb2 | with_reducible refine Grow.G.trans ?_ hb1 | ((with_reducible refine Below.setCell ?_ ?_ _); rotate_left; (focus (first | omega | (simp; done) | (simp; omega)))))); all_goals fail))))
      (try (have hlewn3_1 : wb1.heap.size ≤ wn3.heap.size := (by first | omega | (have hh := hxwn3z1; (try simp at hh); omega))))
      (try (have hlwn3_1_0 : wb1.heap.size < wn3.heap.size := (by first | omega | (have hh := hxwn3z1; (try simp at hh); omega))))
      (try (have hlwn3_1_1 : wb1.heap.size + 1 < wn3.heap.size := (by first | omega | (have hh := hxwn3z1; (try simp at hh); omega))))
      (try (have hlwn3_1_2 : wb1.heap.size + 1 + 1 < wn3.heap.size := (by first | omega | (have hh := hxwn3z1; (try simp at hh); omega))))
      (try (refine Evo.laterK KB2.out wn3 ?_ (fun hxwn3c2 hxwn3f2 hxwn3z2 => ?_); (focus ((repeat (first | with_reducible exact Grow.G.refl _ | with_reducible exact Below.refl _ _ | with_reducible refine Grow.G.alloc ?_ _ | with_reducible refine Grow.G.trans ?_ hb3 | with_reducible refine Grow.G.trans ?_ hb2 | with_reducible refine Grow.G.trans ?_ hb1 | ((with_reducible refine Below.setCell ?_ ?_ _); rotate_left; (focus (first | omega | (simp; done) | (simp; omega)))))); all_goals fail))))
      (try (have hlewn3_2 : wn1.heap.size ≤ wn3.heap.size := (by first | omega | (have hh := hxwn3z2; (try simp at hh); omega))))
      (try (have hlwn3_2_0 : wn1.heap.size < wn3.heap.size := (by first | omega | (have hh := hxwn3z2; (try simp at hh); omega))))
      (try (have hlwn3_2_1 : wn1.heap.size + 1 < wn3.heap.size := (by first | omega | (have hh := hxwn3z2; (try simp at hh); omega))))
      (try (have hlwn3_2_2 : wn1.heap.size + 1 + 1 < wn3.heap.size := (by first | omega | (have hh := hxwn3z2; (try simp at hh); omega))))
      go_wp2_with fail
      go_ret
      exact ⟨rfl, Grow.G.trans (Grow.G.trans (Below.setCell (Grow.G.trans GB1.out hb1) (by show w.heap.size ≤ gC; omega) _) hb2) hb3⟩
  · have hf : (decide (rs.length ≤ 12) && decide (rn.size ≤ 60) && decide (rc.size ≤ 60)) = false := by simpa using hf
    rw [hf] at FE
    clear hf
    go_enter Try.func4, Try.ntmps4
    go_wp2_with fail
    refine (known2_any _).mono ?_
    rintro e wn1 ⟨rfl, hb1⟩
    have KB1 := Lib.hid (Evo.later hb1)
    have hxwn1c := (bcell hb1).1
    have hxwn1f := (bcell hb1).2.1
    have hxwn1z := (bcell hb1).2.2
    (try (have hlewn1_1 : wb1.heap.size ≤ wn1.heap.size := (by first | omega | (have hh := hxwn1z; (try simp at hh); omega))))
    (try (have hlwn1_1_0 : wb1.heap.size < wn1.heap.size := (by first | omega | (have hh := hxwn1z; (try simp at hh); omega))))
    (try (have hlwn1_1_1 : wb1.heap.size + 1 < wn1.heap.size := (by first | omega | (have hh := hxwn1z; (try simp at hh); omega))))
    (try (have hlwn1_1_2 : wb1.heap.size + 1 + 1 < wn1.heap.size := (by first | omega | (have hh := hxwn1z; (try simp at hh); omega))))
    go_wp2_with fail
    refine (FE.out _).mono ?_
    rintro e wn2 ⟨rfl, hb2⟩
    have KB2 := Lib.hid (Evo.later hb2)
    have hxwn2c := (bcell hb2).1
    have hxwn2f := (bcell hb2).2.1
    have hxwn2z := (bcell hb2).2.2
    (try (have hlewn2_2 : wn1.heap.size ≤ wn2.heap.size := (by first | omega | (have hh := hxwn2z; (try simp at hh); omega))))
    (try (have hlwn2_2_0 : wn1.heap.size < wn2.heap.size := (by first | omega | (have hh := hxwn2z; (try simp at hh); omega))))
    (try (have hlwn2_2_1 : wn1.heap.size + 1 < wn2.heap.size := (by first | omega | (have hh := hxwn2z; (try simp at hh); omega))))
    (try (have hlwn2_2_2 : wn1.heap.size + 1 + 1 < wn2.heap.size := (by first | omega | (have hh := hxwn2z; (try simp at hh); omega))))
    (try (refine Evo.laterK KB1.out wn2 ?_ (fun hxwn2c1 hxwn2f1 hxwn2z1 => ?_); (focus ((repeat (first | with_reducible exact Grow.G.refl _ | with_reducible exact Below.refl _ _ | with_reducible refine Grow.G.alloc ?_ _ | with_reducible refine Grow.G.trans ?_ hb2 | with_reducible refine Grow.G.trans ?_ hb1 | ((with_reducible refine Below.setCell ?_ ?_ _); rotate_left; (focus (first | omega | (simp; done) | (simp; omega)))))); all_goals fail))))
    (try (have hlewn2_1 : wb1.heap.size ≤ wn2.heap.size := (by first | omega | (have hh := hxwn2z1; (try simp at hh); omega))))
    (try (have hlwn2_1_0 : wb1.heap.size < wn2.heap.size := (by first | omega | (have hh := hxwn2z1; (try simp at hh); omega))))
    (try (have hlwn2_1_1 : wb1.heap.size + 1 < wn2.heap.size := (by first | omega | (have hh := hxwn2z1; (try simp at hh); omega))))
    (try (have hlwn2_1_2 : wb1.heap.size + 1 + 1 < wn2.heap.size := (by first | omega | (have hh := hxwn2z1; (try simp at hh); omega))))
    go_wp2_with fail
    go_ret
    exact ⟨rfl, by (repeat (first | with_reducible exact Grow.G.refl _ | with_reducible exact Below.refl _ _ | with_reducible refine Grow.G.alloc ?_ _ | with_reducible refine Grow.G.trans ?_ hb3 | with_reducible refine Grow.G.trans ?_ hb2 | with_reducible refine Grow.G.trans ?_ hb1 | ((with_reducible refine Below.setCell ?_ ?_ _); rotate_left; (focus (first | omega | (simp; done) | (simp; omega)))) | with_reducible assumption | with_reducible refine Grow.G.trans ?_ (by with_reducible assumption)))⟩
end Go.Proofs.Ytpmhmegjckhbmaa

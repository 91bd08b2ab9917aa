/- The walks of SpecKnown and SpecEdges. -/
import Derived.Test.YtpmhmegjckhbmaaSpecConfigs
namespace Go.Proofs.Ytpmhmegjckhbmaa
set_option linter.unusedVariables false
set_option linter.unusedSimpArgs false
set_option linter.unnecessarySimpa false
open Go.RowKit

def cA (co mn mx gr im : Int) : Cfg := ⟨⟨#[97]⟩, im, co, mn, mx, gr⟩
def knC : List Cfg := [cA 1 0 1 0 0, ⟨⟨#[65]⟩, 0, 1, 0, 1, 0⟩, cA 0 0 1 0 0, cA 9 0 1 0 0, cA 8 10 10 30 255, cA 1 0 11 0 0, cA 1 3 2 0 0, cA 1 0 1 31 0, cA 1 0 1 0 256, ⟨⟨#[]⟩, 0, 9, 0, 0, 0⟩]
def knW : List Int := [0, 1, 2, 2, 0, 2, 2, 2, 2, 1]
theorem knE : ∀ k, k < 10 → (knC.getD k (cA 0 0 0 0 0)).err = knW.getD k 0 ∧ (knC.getD k (cA 0 0 0 0 0)).nm.size ≤ 10 := by decide +kernel
theorem kn_cfg (k : Nat) (hk : k < 10) (w : World) : Calls Try.prog 13 #[(knC.getD k (cA 0 0 0 0 0)).v] w fun x w' => x = .returned (.int .i64 (knW.getD k 0)) ∧ Below w.heap.size w w' :=
  cfg_eq _ _ w (by have := (knE k hk).2; unfold maxLen; omega) (knE k hk).1

set_option maxRecDepth 100000 in
set_option maxHeartbeats 4000000 in
theorem walkSpecKnown (w : World) (which : Int) (hw : wf64 which) :
    Calls Try.prog 7 #[.int .i64 which] w fun e w' => e = .returned (.bool true) ∧ Below w.heap.size w w' := by
  have WH := Lib.hid (fun w => within2_any which 10 w (by omega) (by omega) hw.1 hw.2)
  have r := withinI_range which 10 (by omega)
  generalize withinI which 10 = q at *
  obtain ⟨k, rfl⟩ := Int.eq_ofNat_of_zero_le r.1
  have hk : k < 10 := by omega
  have K := Lib.hid (fun w => kn_cfg k hk w)
  have LC := lconfig_any 1 1 0 0
  unfold Cfg.v at LC
  have LC := Lib.hid LC
  go_enter Try.func7, Try.ntmps7
  go_wp2_with fail
  refine (known2_any _).mono ?_
  rintro e wn1 ⟨rfl, hb1⟩
  have KB1 := Lib.hid (Evo.later hb1)
  have hxwn1c := (bcell hb1).1
  have hxwn1f := (bcell hb1).2.1
  have hxwn1z := (bcell hb1).2.2
  (try (have hlewn1_1 : w.heap.size ≤ wn1.heap.size := (by first | omega | (have hh := hxwn1z; (try simp at hh); omega))))
  (try (have hlwn1_1_0 : w.heap.size < wn1.heap.size := (by first | omega | (have hh := hxwn1z; (try simp at hh); omega))))
  (try (have hlwn1_1_1 : w.heap.size + 1 < wn1.heap.size := (by first | omega | (have hh := hxwn1z; (try simp at hh); omega))))
  (try (have hlwn1_1_2 : w.heap.size + 1 + 1 < wn1.heap.size := (by first | omega | (have hh := hxwn1z; (try simp at hh); omega))))
  go_wp2_with fail
  refine (LC.out _).mono ?_
  rintro e wn2 ⟨rfl, hb2⟩
  have KB2 := Lib.hid (Evo.later hb2)
  have hxwn2c := (bcell hb2).1
  have hxwn2f := (bcell hb2).2.1
  have hxwn2z := (bcell hb2).2.2
  (try (have hlewn2_2 : wn1.heap.size ≤ wn2.heap.size := (by first | omega | (have hh := hxwn2z; (try simp at hh); omega))))
  (try (have hlwn2_2_0 : wn1.heap.size < wn2.heap.size := (by first | omega | (have hh := hxwn2z; (try simp at hh); omega))))
  (try (have hlwn2_2_1 : wn1.heap.size + 1 < wn2.heap.size := (by first | omega | (have hh := hxwn2z; (try simp at hh); omega))))
  (try (have hlwn2_2_2 : wn1.heap.size + 1 + 1 < wn2.heap.size := (by first | omega | (have hh := hxwn2z; (try simp at hh); omega))))
  (try (refine Evo.laterK KB1.out wn2 ?_ (fun hxwn2c1 hxwn2f1 hxwn2z1 => ?_); (focus ((repeat (first | with_reducible exact Grow.G.refl _ | with_reducible exact Below.refl _ _ | with_reducible refine Grow.G.alloc ?_ _ | with_reducible refine Grow.G.trans ?_ hb2 | with_reducible refine Grow.G.trans ?_ hb1 | ((with_reducible refine Below.setCell ?_ ?_ _); rotate_left; (focus (first | omega | (simp; done) | (simp; omega)))))); all_goals fail))))
  (try (have hlewn2_1 : w.heap.size ≤ wn2.heap.size := (by first | omega | (have hh := hxwn2z1; (try simp at hh); omega))))
  (try (have hlwn2_1_0 : w.heap.size < wn2.heap.size := (by first | omega | (have hh := hxwn2z1; (try simp at hh); omega))))
  (try (have hlwn2_1_1 : w.heap.size + 1 < wn2.heap.size := (by first | omega | (have hh := hxwn2z1; (try simp at hh); omega))))
  (try (have hlwn2_1_2 : w.heap.size + 1 + 1 < wn2.heap.size := (by first | omega | (have hh := hxwn2z1; (try simp at hh); omega))))
  go_wp2_with fail
  go_wp2_with fail
  refine (WH.out _).mono ?_
  rintro e wx ⟨rfl, rfl⟩
  have hk10 : k = 0 ∨ k = 1 ∨ k = 2 ∨ k = 3 ∨ k = 4 ∨ k = 5 ∨ k = 6 ∨ k = 7 ∨ k = 8 ∨ k = 9 := by omega
  clear r hk WH
  rcases hk10 with rfl | rfl | rfl | rfl | rfl | rfl | rfl | rfl | rfl | rfl
  all_goals
    simp only [knC, knW, List.getD_cons_succ, List.getD_cons_zero, Cfg.v, cA] at K
    go_wp2_with fail
    refine Evo.start' (ℓ := none) (T := Grow.G) (by kernel_rfl) ⟨Evo.preG, by decide +kernel, (by intro c a d v w h; cases d <;> exact h), by decide +kernel⟩ (fun ok => ?_)
    first | (refine Evo.value ok 0 ?_ (by rfl) (by decide +kernel) (by rfl) ?_ ?_; rotate_left; (intro w' hg; go_simp <;> with_reducible rfl); simp only [Act.put, List.setIfInBounds_toArray, List.set_cons_zero, List.set_cons_succ]) | (refine Evo.value ok 0 ?_ (by rfl) (by decide +kernel) (by rfl) ?_ ?_; rotate_left; (intro w' hg; go_simp; rw [if_neg (by omega)]); simp only [Act.put, List.setIfInBounds_toArray, List.set_cons_zero, List.set_cons_succ])
    first | (refine Evo.value ok 1 ?_ (by rfl) (by decide +kernel) (by rfl) ?_ ?_; rotate_left; (intro w' hg; go_simp <;> with_reducible rfl); simp only [Act.put, List.setIfInBounds_toArray, List.set_cons_zero, List.set_cons_succ]) | (refine Evo.value ok 1 ?_ (by rfl) (by decide +kernel) (by rfl) ?_ ?_; rotate_left; (intro w' hg; go_simp; rw [if_neg (by omega)]); simp only [Act.put, List.setIfInBounds_toArray, List.set_cons_zero, List.set_cons_succ])
    first | (refine Evo.value ok 2 ?_ (by rfl) (by decide +kernel) (by rfl) ?_ ?_; rotate_left; (intro w' hg; go_simp <;> with_reducible rfl); simp only [Act.put, List.setIfInBounds_toArray, List.set_cons_zero, List.set_cons_succ]) | (refine Evo.value ok 2 ?_ (by rfl) (by decide +kernel) (by rfl) ?_ ?_; rotate_left; (intro w' hg; go_simp; rw [if_neg (by omega)]); simp only [Act.put, List.setIfInBounds_toArray, List.set_cons_zero, List.set_cons_succ])
    first | (refine Evo.value ok 3 ?_ (by rfl) (by decide +kernel) (by rfl) ?_ ?_; rotate_left; (intro w' hg; have hgc := (bcell hg).1; have hgf := (bcell hg).2.1; (try (have hlew_3 : wn2.heap.size ≤ w'.heap.size := (by first | omega | (have hh := (bcell hg).2.2; (try simp at hh); omega)))); (try (have hlw_3_0 : wn2.heap.size < w'.heap.size := (by first | omega | (have hh := (bcell hg).2.2; (try simp at hh); omega)))); (try (have hlw_3_1 : wn2.heap.size + 1 < w'.heap.size := (by first | omega | (have hh := (bcell hg).2.2; (try simp at hh); omega)))); (try (have hlw_3_2 : wn2.heap.size + 1 + 1 < w'.heap.size := (by first | omega | (have hh := (bcell hg).2.2; (try simp at hh); omega)))); (try (refine Evo.laterK KB1.out w' ?_ (fun hxwc1 hxwf1 hxwz1 => ?_); (focus ((repeat (first | with_reducible exact Grow.G.refl _ | with_reducible exact Below.refl _ _ | with_reducible refine Grow.G.alloc ?_ _ | with_reducible refine Grow.G.trans ?_ hb3 | with_reducible refine Grow.G.trans ?_ hb2 | with_reducible refine Grow.G.trans ?_ hb1 | ((with_reducible refine Below.setCell ?_ ?_ _); rotate_left; (focus (first | omega | (simp; done) | (simp; omega)))))); all_goals fail)))); (try (have hlew_1 : w.heap.size ≤ w'.heap.size := (by first | omega | (have hh := hxwz1; (try simp at hh); omega)))); (try (have hlw_1_0 : w.heap.size < w'.heap.size := (by first | omega | (have hh := hxwz1; (try simp at hh); omega)))); (try (have hlw_1_1 : w.heap.size + 1 < w'.heap.size := (by first | omega | (have hh := hxwz1; (try simp at hh); omega)))); (try (have hlw_1_2 : w.heap.size + 1 + 1 < w'.heap.size := (by first | omega | (have hh := hxwz1; (try simp at hh); omega)))); (try (refine Evo.laterK KB2.out w' ?_ (fun hxwc2 hxwf2 hxwz2 => ?_); (focus ((repeat (first | with_reducible exact Grow.G.refl _ | with_reducible exact Below.refl _ _ | with_reducible refine Grow.G.alloc ?_ _ | with_reducible refine Grow.G.trans ?_ hb3 | with_reducible refine Grow.G.trans ?_ hb2 | with_reducible refine Grow.G.trans ?_ hb1 | ((with_reducible refine Below.setCell ?_ ?_ _); rotate_left; (focus (first | omega | (simp; done) | (simp; omega)))))); all_goals fail)))); (try (have hlew_2 : wn1.heap.size ≤ w'.heap.size := (by first | omega | (have hh := hxwz2; (try simp at hh); omega)))); (try (have hlw_2_0 : wn1.heap.size < w'.heap.size := (by first | omega | (have hh := hxwz2; (try simp at hh); omega)))); (try (have hlw_2_1 : wn1.heap.size + 1 < w'.heap.size := (by first | omega | (have hh := hxwz2; (try simp at hh); omega)))); (try (have hlw_2_2 : wn1.heap.size + 1 + 1 < w'.heap.size := (by first | omega | (have hh := hxwz2; (try simp at hh); omega)))); go_simp <;> with_reducible rfl); simp only [Act.put, List.setIfInBounds_toArray, List.set_cons_zero, List.set_cons_succ]) | (refine Evo.value ok 3 ?_ (by rfl) (by decide +kernel) (by rfl) ?_ ?_; rotate_left; (intro w' hg; go_simp <;> with_reducible rfl); simp only [Act.put, List.setIfInBounds_toArray, List.set_cons_zero, List.set_cons_succ])
    (refine Evo.call ok 4 ?_ 13 ?_ (by rfl) (by decide +kernel) (by rfl) ?_ ?_ ?_; rotate_left 2; (focus (intro w'; go_simp <;> with_reducible rfl)); (focus (intro w' g'; with_reducible exact K.out w')); simp only [Act.put, List.setIfInBounds_toArray, List.set_cons_zero, List.set_cons_succ])
    first | (refine Evo.value ok 5 ?_ (by rfl) (by decide +kernel) (by rfl) ?_ ?_; rotate_left; (intro w' hg; go_simp <;> with_reducible rfl); simp only [Act.put, List.setIfInBounds_toArray, List.set_cons_zero, List.set_cons_succ]) | (refine Evo.value ok 5 ?_ (by rfl) (by decide +kernel) (by rfl) ?_ ?_; rotate_left; (intro w' hg; go_simp; rw [if_neg (by omega)]); simp only [Act.put, List.setIfInBounds_toArray, List.set_cons_zero, List.set_cons_succ])
    first | (refine Evo.value ok 6 ?_ (by rfl) (by decide +kernel) (by rfl) ?_ ?_; rotate_left; (intro w' hg; go_simp <;> with_reducible rfl); simp only [Act.put, List.setIfInBounds_toArray, List.set_cons_zero, List.set_cons_succ]) | (refine Evo.value ok 6 ?_ (by rfl) (by decide +kernel) (by rfl) ?_ ?_; rotate_left; (intro w' hg; go_simp; rw [if_neg (by omega)]); simp only [Act.put, List.setIfInBounds_toArray, List.set_cons_zero, List.set_cons_succ])
    first | (refine Evo.value ok 7 ?_ (by rfl) (by decide +kernel) (by rfl) ?_ ?_; rotate_left; (intro w' hg; go_simp <;> with_reducible rfl); simp only [Act.put, List.setIfInBounds_toArray, List.set_cons_zero, List.set_cons_succ]) | (refine Evo.value ok 7 ?_ (by rfl) (by decide +kernel) (by rfl) ?_ ?_; rotate_left; (intro w' hg; go_simp; rw [if_neg (by omega)]); simp only [Act.put, List.setIfInBounds_toArray, List.set_cons_zero, List.set_cons_succ])
    first | (refine Evo.value ok 8 ?_ (by rfl) (by decide +kernel) (by rfl) ?_ ?_; rotate_left; (intro w' hg; have hgc := (bcell hg).1; have hgf := (bcell hg).2.1; (try (have hlew_3 : wn2.heap.size ≤ w'.heap.size := (by first | omega | (have hh := (bcell hg).2.2; (try simp at hh); omega)))); (try (have hlw_3_0 : wn2.heap.size < w'.heap.size := (by first | omega | (have hh := (bcell hg).2.2; (try simp at hh); omega)))); (try (have hlw_3_1 : wn2.heap.size + 1 < w'.heap.size := (by first | omega | (have hh := (bcell hg).2.2; (try simp at hh); omega)))); (try (have hlw_3_2 : wn2.heap.size + 1 + 1 < w'.heap.size := (by first | omega | (have hh := (bcell hg).2.2; (try simp at hh); omega)))); (try (refine Evo.laterK KB1.out w' ?_ (fun hxwc1 hxwf1 hxwz1 => ?_); (focus ((repeat (first | with_reducible exact Grow.G.refl _ | with_reducible exact Below.refl _ _ | with_reducible refine Grow.G.alloc ?_ _ | with_reducible refine Grow.G.trans ?_ hb3 | with_reducible refine Grow.G.trans ?_ hb2 | with_reducible refine Grow.G.trans ?_ hb1 | ((with_reducible refine Below.setCell ?_ ?_ _); rotate_left; (focus (first | omega | (simp; done) | (simp; omega)))))); all_goals fail)))); (try (have hlew_1 : w.heap.size ≤ w'.heap.size := (by first | omega | (have hh := hxwz1; (try simp at hh); omega)))); (try (have hlw_1_0 : w.heap.size < w'.heap.size := (by first | omega | (have hh := hxwz1; (try simp at hh); omega)))); (try (have hlw_1_1 : w.heap.size + 1 < w'.heap.size := (by first | omega | (have hh := hxwz1; (try simp at hh); omega)))); (try (have hlw_1_2 : w.heap.size + 1 + 1 < w'.heap.size := (by first | omega | (have hh := hxwz1; (try simp at hh); omega)))); (try (refine Evo.laterK KB2.out w' ?_ (fun hxwc2 hxwf2 hxwz2 => ?_); (focus ((repeat (first | with_reducible exact Grow.G.refl _ | with_reducible exact Below.refl _ _ | with_reducible refine Grow.G.alloc ?_ _ | with_reducible refine Grow.G.trans ?_ hb3 | with_reducible refine Grow.G.trans ?_ hb2 | with_reducible refine Grow.G.trans ?_ hb1 | ((with_reducible refine Below.setCell ?_ ?_ _); rotate_left; (focus (first | omega | (simp; done) | (simp; omega)))))); all_goals fail)))); (try (have hlew_2 : wn1.heap.size ≤ w'.heap.size := (by first | omega | (have hh := hxwz2; (try simp at hh); omega)))); (try (have hlw_2_0 : wn1.heap.size < w'.heap.size := (by first | omega | (have hh := hxwz2; (try simp at hh); omega)))); (try (have hlw_2_1 : wn1.heap.size + 1 < w'.heap.size := (by first | omega | (have hh := hxwz2; (try simp at hh); omega)))); (try (have hlw_2_2 : wn1.heap.size + 1 + 1 < w'.heap.size := (by first | omega | (have hh := hxwz2; (try simp at hh); omega)))); go_simp <;> with_reducible rfl); simp only [Act.put, List.setIfInBounds_toArray, List.set_cons_zero, List.set_cons_succ]) | (refine Evo.value ok 8 ?_ (by rfl) (by decide +kernel) (by rfl) ?_ ?_; rotate_left; (intro w' hg; go_simp <;> with_reducible rfl); simp only [Act.put, List.setIfInBounds_toArray, List.set_cons_zero, List.set_cons_succ])
    first | (refine Evo.value ok 9 ?_ (by rfl) (by decide +kernel) (by rfl) ?_ ?_; rotate_left; (intro w' hg; go_simp <;> with_reducible rfl); simp only [Act.put, List.setIfInBounds_toArray, List.set_cons_zero, List.set_cons_succ]) | (refine Evo.value ok 9 ?_ (by rfl) (by decide +kernel) (by rfl) ?_ ?_; rotate_left; (intro w' hg; go_simp; rw [if_neg (by omega)]); simp only [Act.put, List.setIfInBounds_toArray, List.set_cons_zero, List.set_cons_succ])
    first | (refine Evo.value ok 10 ?_ (by rfl) (by decide +kernel) (by rfl) ?_ ?_; rotate_left; (intro w' hg; go_simp <;> with_reducible rfl); simp only [Act.put, List.setIfInBounds_toArray, List.set_cons_zero, List.set_cons_succ]) | (refine Evo.value ok 10 ?_ (by rfl) (by decide +kernel) (by rfl) ?_ ?_; rotate_left; (intro w' hg; go_simp; rw [if_neg (by omega)]); simp only [Act.put, List.setIfInBounds_toArray, List.set_cons_zero, List.set_cons_succ])
    refine Evo.done (by decide +kernel) (fun wn3 hb3 => ?_)
    have KB3 := Lib.hid (Evo.later hb3)
    have hxwn3c := (bcell hb3).1
    have hxwn3f := (bcell hb3).2.1
    have hxwn3z := (bcell hb3).2.2
    (try (have hlewn3_3 : wn2.heap.size ≤ wn3.heap.size := (by first | omega | (have hh := hxwn3z; (try simp at hh); omega))))
    (try (have hlwn3_3_0 : wn2.heap.size < wn3.heap.size := (by first | omega | (have hh := hxwn3z; (try simp at hh); omega))))
    (try (have hlwn3_3_1 : wn2.heap.size + 1 < wn3.heap.size := (by first | omega | (have hh := hxwn3z; (try simp at hh); omega))))
    (try (have hlwn3_3_2 : wn2.heap.size + 1 + 1 < wn3.heap.size := (by first | omega | (have hh := hxwn3z; (try simp at hh); omega))))
    (try (refine Evo.laterK KB1.out wn3 ?_ (fun hxwn3c1 hxwn3f1 hxwn3z1 => ?_); (focus ((repeat (first | with_reducible exact Grow.G.refl _ | with_reducible exact Below.refl _ _ | with_reducible refine Grow.G.alloc ?_ _ | with_reducible refine Grow.G.trans ?_ hb3 | with_reducible refine Grow.G.trans ?_ hb2 | with_reducible refine Grow.G.trans ?_ hb1 | ((with_reducible refine Below.setCell ?_ ?_ _); rotate_left; (focus (first | omega | (simp; done) | (simp; omega)))))); all_goals fail))))
    (try (have hlewn3_1 : w.heap.size ≤ wn3.heap.size := (by first | omega | (have hh := hxwn3z1; (try simp at hh); omega))))
    (try (have hlwn3_1_0 : w.heap.size < wn3.heap.size := (by first | omega | (have hh := hxwn3z1; (try simp at hh); omega))))
    (try (have hlwn3_1_1 : w.heap.size + 1 < wn3.heap.size := (by first | omega | (have hh := hxwn3z1; (try simp at hh); omega))))
    (try (have hlwn3_1_2 : w.heap.size + 1 + 1 < wn3.heap.size := (by first | omega | (have hh := hxwn3z1; (try simp at hh); omega))))
    (try (refine Evo.laterK KB2.out wn3 ?_ (fun hxwn3c2 hxwn3f2 hxwn3z2 => ?_); (focus ((repeat (first | with_reducible exact Grow.G.refl _ | with_reducible exact Below.refl _ _ | with_reducible refine Grow.G.alloc ?_ _ | with_reducible refine Grow.G.trans ?_ hb3 | with_reducible refine Grow.G.trans ?_ hb2 | with_reducible refine Grow.G.trans ?_ hb1 | ((with_reducible refine Below.setCell ?_ ?_ _); rotate_left; (focus (first | omega | (simp; done) | (simp; omega)))))); all_goals fail))))
    (try (have hlewn3_2 : wn1.heap.size ≤ wn3.heap.size := (by first | omega | (have hh := hxwn3z2; (try simp at hh); omega))))
    (try (have hlwn3_2_0 : wn1.heap.size < wn3.heap.size := (by first | omega | (have hh := hxwn3z2; (try simp at hh); omega))))
    (try (have hlwn3_2_1 : wn1.heap.size + 1 < wn3.heap.size := (by first | omega | (have hh := hxwn3z2; (try simp at hh); omega))))
    (try (have hlwn3_2_2 : wn1.heap.size + 1 + 1 < wn3.heap.size := (by first | omega | (have hh := hxwn3z2; (try simp at hh); omega))))
    go_wp2_with fail
    go_ret
    exact ⟨rfl, by (repeat (first | with_reducible exact Grow.G.refl _ | with_reducible exact Below.refl _ _ | with_reducible refine Grow.G.alloc ?_ _ | with_reducible refine Grow.G.trans ?_ hb4 | with_reducible refine Grow.G.trans ?_ hb3 | with_reducible refine Grow.G.trans ?_ hb2 | with_reducible refine Grow.G.trans ?_ hb1 | ((with_reducible refine Below.setCell ?_ ?_ _); rotate_left; (focus (first | omega | (simp; done) | (simp; omega)))) | with_reducible assumption | with_reducible refine Grow.G.trans ?_ (by with_reducible assumption)))⟩

theorem err_ok (nm : ByteArray) (im co mn mx gr : Int) (hn : nameB 16 nm = true) (h1 : 0 ≤ im ∧ im ≤ 255) (h2 : 1 ≤ co ∧ co ≤ 8) (h3 : 1 ≤ mx ∧ mx ≤ 10) (h4 : 0 ≤ mn ∧ mn ≤ mx) (h5 : 0 ≤ gr ∧ gr ≤ 30) : Cfg.err ⟨nm, im, co, mn, mx, gr⟩ = 0 := by
  unfold Cfg.err Cfg.num
  simp only [hn, inB_iff.2 h1, inB_iff.2 h2, inB_iff.2 h3, inB_iff.2 h4, inB_iff.2 h5, Bool.and_self, if_true]
theorem err_bad (nm : ByteArray) (im co mn mx gr : Int) (hn : nameB 16 nm = true) (h : ¬ (0 ≤ im ∧ im ≤ 255) ∨ ¬ (1 ≤ co ∧ co ≤ 8) ∨ ¬ (1 ≤ mx ∧ mx ≤ 10) ∨ ¬ (0 ≤ mn ∧ mn ≤ mx) ∨ ¬ (0 ≤ gr ∧ gr ≤ 30)) : Cfg.err ⟨nm, im, co, mn, mx, gr⟩ = 2 := by
  have hb : Cfg.num ⟨nm, im, co, mn, mx, gr⟩ = false := by
    unfold Cfg.num
    rw [Bool.eq_false_iff]; intro e
    simp only [Bool.and_eq_true, inB_iff] at e
    omega
  unfold Cfg.err
  simp only [hn, hb, if_true]; rfl

set_option maxRecDepth 100000 in
set_option maxHeartbeats 4000000 in
theorem walkSpecEdges (w : World) (which : Int) (hw : wf64 which) (c : Cfg) (hc0 : c.wf ∧ c.nm.size ≤ 140737488351232) :
    Calls Try.prog 10 #[.int .i64 which, c.v] w fun e w' => e = .returned (.bool true) ∧ Below w.heap.size w w' := by
  have hc := hc0.1
  clear hc0
  have WH := Lib.hid (fun w => within2_any which 6 w (by omega) (by omega) hw.1 hw.2)
  have r6 := withinI_range which 6 (by omega)
  have GC := Lib.hid (fun w => gcfg_any c 0 w hc ⟨by omega, by omega⟩)
  have r1 := withinI_range c.im 256 (by omega)
  have r2 := withinI_range c.co 8 (by omega)
  have r4 := withinI_range c.mx 10 (by omega)
  have r3 := withinI_range c.mn (1 + withinI c.mx 10 + 1) (by omega)
  have r5 := withinI_range c.gr 31 (by omega)
  have HN := Lib.hid (name3_ok 0)
  unfold gCfg at GC
  unfold Cfg.v at *
  generalize name3 0 = gn at *
  generalize withinI c.im 256 = g1 at *
  generalize withinI c.co 8 = g2 at *
  generalize withinI c.mx 10 = g4 at *
  generalize withinI c.mn (1 + g4 + 1) = g3 at *
  generalize withinI c.gr 31 = g5 at *
  have HZ : gn.size ≤ maxLen := by have := HN.out.2; unfold maxLen; omega
  have EO := Lib.hid (fun im co mn mx gr h1 h2 h3 h4 h5 w => cfg_eq ⟨gn, im, co, mn, mx, gr⟩ 0 w HZ (err_ok gn im co mn mx gr HN.out.1 h1 h2 h3 h4 h5))
  have EB := Lib.hid (fun im co mn mx gr h w => cfg_eq ⟨gn, im, co, mn, mx, gr⟩ 2 w HZ (err_bad gn im co mn mx gr HN.out.1 h))
  unfold Cfg.v at EO EB
  generalize withinI which 6 = q at *
  have hq : q = 0 ∨ q = 1 ∨ q = 2 ∨ q = 3 ∨ q = 4 ∨ q = 5 := by omega
  go_enter Try.func10, Try.ntmps10
  go_wp2_with fail
  refine (known2_any _).mono ?_
  rintro e wn1 ⟨rfl, hb1⟩
  have KB1 := Lib.hid (Evo.later hb1)
  have hxwn1c := (bcell hb1).1
  have hxwn1f := (bcell hb1).2.1
  have hxwn1z := (bcell hb1).2.2
  (try (have hlewn1_1 : w.heap.size ≤ wn1.heap.size := (by first | omega | (have hh := hxwn1z; (try simp at hh); omega))))
  (try (have hlwn1_1_0 : w.heap.size < wn1.heap.size := (by first | omega | (have hh := hxwn1z; (try simp at hh); omega))))
  (try (have hlwn1_1_1 : w.heap.size + 1 < wn1.heap.size := (by first | omega | (have hh := hxwn1z; (try simp at hh); omega))))
  (try (have hlwn1_1_2 : w.heap.size + 1 + 1 < wn1.heap.size := (by first | omega | (have hh := hxwn1z; (try simp at hh); omega))))
  go_wp2_with fail
  refine (GC.out _).mono ?_
  rintro e wn2 ⟨rfl, hb2⟩
  have KB2 := Lib.hid (Evo.later hb2)
  have hxwn2c := (bcell hb2).1
  have hxwn2f := (bcell hb2).2.1
  have hxwn2z := (bcell hb2).2.2
  (try (have hlewn2_2 : wn1.heap.size ≤ wn2.heap.size := (by first | omega | (have hh := hxwn2z; (try simp at hh); omega))))
  (try (have hlwn2_2_0 : wn1.heap.size < wn2.heap.size := (by first | omega | (have hh := hxwn2z; (try simp at hh); omega))))
  (try (have hlwn2_2_1 : wn1.heap.size + 1 < wn2.heap.size := (by first | omega | (have hh := hxwn2z; (try simp at hh); omega))))
  (try (have hlwn2_2_2 : wn1.heap.size + 1 + 1 < wn2.heap.size := (by first | omega | (have hh := hxwn2z; (try simp at hh); omega))))
  (try (refine Evo.laterK KB1.out wn2 ?_ (fun hxwn2c1 hxwn2f1 hxwn2z1 => ?_); (focus ((repeat (first | with_reducible exact Grow.G.refl _ | with_reducible exact Below.refl _ _ | with_reducible refine Grow.G.alloc ?_ _ | with_reducible refine Grow.G.trans ?_ hb2 | with_reducible refine Grow.G.trans ?_ hb1 | ((with_reducible refine Below.setCell ?_ ?_ _); rotate_left; (focus (first | omega | (simp; done) | (simp; omega)))))); all_goals fail))))
  (try (have hlewn2_1 : w.heap.size ≤ wn2.heap.size := (by first | omega | (have hh := hxwn2z1; (try simp at hh); omega))))
  (try (have hlwn2_1_0 : w.heap.size < wn2.heap.size := (by first | omega | (have hh := hxwn2z1; (try simp at hh); omega))))
  (try (have hlwn2_1_1 : w.heap.size + 1 < wn2.heap.size := (by first | omega | (have hh := hxwn2z1; (try simp at hh); omega))))
  (try (have hlwn2_1_2 : w.heap.size + 1 + 1 < wn2.heap.size := (by first | omega | (have hh := hxwn2z1; (try simp at hh); omega))))
  go_wp2_with fail
  go_wp2_with fail
  refine (WH.out _).mono ?_
  rintro e wx ⟨rfl, rfl⟩
  rcases hq with rfl | rfl | rfl | rfl | rfl | rfl
  · skip
    go_wp2_with fail
    refine (EO.out g1 8 g3 (1 + g4) g5 (by omega) (by omega) (by omega) (by omega) (by omega) _).mono ?_
    rintro e wn3 ⟨rfl, hb3⟩
    have KB3 := Lib.hid (Evo.later hb3)
    have hxwn3c := (bcell hb3).1
    have hxwn3f := (bcell hb3).2.1
    have hxwn3z := (bcell hb3).2.2
    (try (have hlewn3_3 : wn2.heap.size ≤ wn3.heap.size := (by first | omega | (have hh := hxwn3z; (try simp at hh); omega))))
    (try (have hlwn3_3_0 : wn2.heap.size < wn3.heap.size := (by first | omega | (have hh := hxwn3z; (try simp at hh); omega))))
    (try (have hlwn3_3_1 : wn2.heap.size + 1 < wn3.heap.size := (by first | omega | (have hh := hxwn3z; (try simp at hh); omega))))
    (try (have hlwn3_3_2 : wn2.heap.size + 1 + 1 < wn3.heap.size := (by first | omega | (have hh := hxwn3z; (try simp at hh); omega))))
    (try (refine Evo.laterK KB1.out wn3 ?_ (fun hxwn3c1 hxwn3f1 hxwn3z1 => ?_); (focus ((repeat (first | with_reducible exact Grow.G.refl _ | with_reducible exact Below.refl _ _ | with_reducible refine Grow.G.alloc ?_ _ | with_reducible refine Grow.G.trans ?_ hb3 | with_reducible refine Grow.G.trans ?_ hb2 | with_reducible refine Grow.G.trans ?_ hb1 | ((with_reducible refine Below.setCell ?_ ?_ _); rotate_left; (focus (first | omega | (simp; done) | (simp; omega)))))); all_goals fail))))
    (try (have hlewn3_1 : w.heap.size ≤ wn3.heap.size := (by first | omega | (have hh := hxwn3z1; (try simp at hh); omega))))
    (try (have hlwn3_1_0 : w.heap.size < wn3.heap.size := (by first | omega | (have hh := hxwn3z1; (try simp at hh); omega))))
    (try (have hlwn3_1_1 : w.heap.size + 1 < wn3.heap.size := (by first | omega | (have hh := hxwn3z1; (try simp at hh); omega))))
    (try (have hlwn3_1_2 : w.heap.size + 1 + 1 < wn3.heap.size := (by first | omega | (have hh := hxwn3z1; (try simp at hh); omega))))
    (try (refine Evo.laterK KB2.out wn3 ?_ (fun hxwn3c2 hxwn3f2 hxwn3z2 => ?_); (focus ((repeat (first | with_reducible exact Grow.G.refl _ | with_reducible exact Below.refl _ _ | with_reducible refine Grow.G.alloc ?_ _ | with_reducible refine Grow.G.trans ?_ hb3 | with_reducible refine Grow.G.trans ?_ hb2 | with_reducible refine Grow.G.trans ?_ hb1 | ((with_reducible refine Below.setCell ?_ ?_ _); rotate_left; (focus (first | omega | (simp; done) | (simp; omega)))))); all_goals fail))))
    (try (have hlewn3_2 : wn1.heap.size ≤ wn3.heap.size := (by first | omega | (have hh := hxwn3z2; (try simp at hh); omega))))
    (try (have hlwn3_2_0 : wn1.heap.size < wn3.heap.size := (by first | omega | (have hh := hxwn3z2; (try simp at hh); omega))))
    (try (have hlwn3_2_1 : wn1.heap.size + 1 < wn3.heap.size := (by first | omega | (have hh := hxwn3z2; (try simp at hh); omega))))
    (try (have hlwn3_2_2 : wn1.heap.size + 1 + 1 < wn3.heap.size := (by first | omega | (have hh := hxwn3z2; (try simp at hh); omega))))
    go_wp2_with fail
    refine (EB.out g1 9 g3 (1 + g4) g5 (by omega) _).mono ?_
    rintro e wn4 ⟨rfl, hb4⟩
    have KB4 := Lib.hid (Evo.later hb4)
    have hxwn4c := (bcell hb4).1
    have hxwn4f := (bcell hb4).2.1
    have hxwn4z := (bcell hb4).2.2
    (try (have hlewn4_4 : wn3.heap.size ≤ wn4.heap.size := (by first | omega | (have hh := hxwn4z; (try simp at hh); omega))))
    (try (have hlwn4_4_0 : wn3.heap.size < wn4.heap.size := (by first | omega | (have hh := hxwn4z; (try simp at hh); omega))))
    (try (have hlwn4_4_1 : wn3.heap.size + 1 < wn4.heap.size := (by first | omega | (have hh := hxwn4z; (try simp at hh); omega))))
    (try (have hlwn4_4_2 : wn3.heap.size + 1 + 1 < wn4.heap.size := (by first | omega | (have hh := hxwn4z; (try simp at hh); omega))))
    (try (refine Evo.laterK KB1.out wn4 ?_ (fun hxwn4c1 hxwn4f1 hxwn4z1 => ?_); (focus ((repeat (first | with_reducible exact Grow.G.refl _ | with_reducible exact Below.refl _ _ | with_reducible refine Grow.G.alloc ?_ _ | with_reducible refine Grow.G.trans ?_ hb4 | with_reducible refine Grow.G.trans ?_ hb3 | with_reducible refine Grow.G.trans ?_ hb2 | with_reducible refine Grow.G.trans ?_ hb1 | ((with_reducible refine Below.setCell ?_ ?_ _); rotate_left; (focus (first | omega | (simp; done) | (simp; omega)))))); all_goals fail))))
    (try (have hlewn4_1 : w.heap.size ≤ wn4.heap.size := (by first | omega | (have hh := hxwn4z1; (try simp at hh); omega))))
    (try (have hlwn4_1_0 : w.heap.size < wn4.heap.size := (by first | omega | (have hh := hxwn4z1; (try simp at hh); omega))))
    (try (have hlwn4_1_1 : w.heap.size + 1 < wn4.heap.size := (by first | omega | (have hh := hxwn4z1; (try simp at hh); omega))))
    (try (have hlwn4_1_2 : w.heap.size + 1 + 1 < wn4.heap.size := (by first | omega | (have hh := hxwn4z1; (try simp at hh); omega))))
    (try (refine Evo.laterK KB2.out wn4 ?_ (fun hxwn4c2 hxwn4f2 hxwn4z2 => ?_); (focus ((repeat (first | with_reducible exact Grow.G.refl _ | with_reducible exact Below.refl _ _ | with_reducible refine Grow.G.alloc ?_ _ | with_reducible refine Grow.G.trans ?_ hb4 | with_reducible refine Grow.G.trans ?_ hb3 | with_reducible refine Grow.G.trans ?_ hb2 | with_reducible refine Grow.G.trans ?_ hb1 | ((with_reducible refine Below.setCell ?_ ?_ _); rotate_left; (focus (first | omega | (simp; done) | (simp; omega)))))); all_goals fail))))
    (try (have hlewn4_2 : wn1.heap.size ≤ wn4.heap.size := (by first | omega | (have hh := hxwn4z2; (try simp at hh); omega))))
    (try (have hlwn4_2_0 : wn1.heap.size < wn4.heap.size := (by first | omega | (have hh := hxwn4z2; (try simp at hh); omega))))
    (try (have hlwn4_2_1 : wn1.heap.size + 1 < wn4.heap.size := (by first | omega | (have hh := hxwn4z2; (try simp at hh); omega))))
    (try (have hlwn4_2_2 : wn1.heap.size + 1 + 1 < wn4.heap.size := (by first | omega | (have hh := hxwn4z2; (try simp at hh); omega))))
    (try (refine Evo.laterK KB3.out wn4 ?_ (fun hxwn4c3 hxwn4f3 hxwn4z3 => ?_); (focus ((repeat (first | with_reducible exact Grow.G.refl _ | with_reducible exact Below.refl _ _ | with_reducible refine Grow.G.alloc ?_ _ | with_reducible refine Grow.G.trans ?_ hb4 | with_reducible refine Grow.G.trans ?_ hb3 | with_reducible refine Grow.G.trans ?_ hb2 | with_reducible refine Grow.G.trans ?_ hb1 | ((with_reducible refine Below.setCell ?_ ?_ _); rotate_left; (focus (first | omega | (simp; done) | (simp; omega)))))); all_goals fail))))
    (try (have hlewn4_3 : wn2.heap.size ≤ wn4.heap.size := (by first | omega | (have hh := hxwn4z3; (try simp at hh); omega))))
    (try (have hlwn4_3_0 : wn2.heap.size < wn4.heap.size := (by first | omega | (have hh := hxwn4z3; (try simp at hh); omega))))
    (try (have hlwn4_3_1 : wn2.heap.size + 1 < wn4.heap.size := (by first | omega | (have hh := hxwn4z3; (try simp at hh); omega))))
    (try (have hlwn4_3_2 : wn2.heap.size + 1 + 1 < wn4.heap.size := (by first | omega | (have hh := hxwn4z3; (try simp at hh); omega))))
    go_wp2_with fail
    go_ret
    exact ⟨rfl, by (repeat (first | with_reducible exact Grow.G.refl _ | with_reducible exact Below.refl _ _ | with_reducible refine Grow.G.alloc ?_ _ | with_reducible refine Grow.G.trans ?_ hb5 | with_reducible refine Grow.G.trans ?_ hb4 | with_reducible refine Grow.G.trans ?_ hb3 | with_reducible refine Grow.G.trans ?_ hb2 | with_reducible refine Grow.G.trans ?_ hb1 | ((with_reducible refine Below.setCell ?_ ?_ _); rotate_left; (focus (first | omega | (simp; done) | (simp; omega)))) | with_reducible assumption | with_reducible refine Grow.G.trans ?_ (by with_reducible assumption)))⟩
  · skip
    go_wp2_with fail
    refine (EO.out g1 1 g3 (1 + g4) g5 (by omega) (by omega) (by omega) (by omega) (by omega) _).mono ?_
    rintro e wn3 ⟨rfl, hb3⟩
    have KB3 := Lib.hid (Evo.later hb3)
    have hxwn3c := (bcell hb3).1
    have hxwn3f := (bcell hb3).2.1
    have hxwn3z := (bcell hb3).2.2
    (try (have hlewn3_3 : wn2.heap.size ≤ wn3.heap.size := (by first | omega | (have hh := hxwn3z; (try simp at hh); omega))))
    (try (have hlwn3_3_0 : wn2.heap.size < wn3.heap.size := (by first | omega | (have hh := hxwn3z; (try simp at hh); omega))))
    (try (have hlwn3_3_1 : wn2.heap.size + 1 < wn3.heap.size := (by first | omega | (have hh := hxwn3z; (try simp at hh); omega))))
    (try (have hlwn3_3_2 : wn2.heap.size + 1 + 1 < wn3.heap.size := (by first | omega | (have hh := hxwn3z; (try simp at hh); omega))))
    (try (refine Evo.laterK KB1.out wn3 ?_ (fun hxwn3c1 hxwn3f1 hxwn3z1 => ?_); (focus ((repeat (first | with_reducible exact Grow.G.refl _ | with_reducible exact Below.refl _ _ | with_reducible refine Grow.G.alloc ?_ _ | with_reducible refine Grow.G.trans ?_ hb3 | with_reducible refine Grow.G.trans ?_ hb2 | with_reducible refine Grow.G.trans ?_ hb1 | ((with_reducible refine Below.setCell ?_ ?_ _); rotate_left; (focus (first | omega | (simp; done) | (simp; omega)))))); all_goals fail))))
    (try (have hlewn3_1 : w.heap.size ≤ wn3.heap.size := (by first | omega | (have hh := hxwn3z1; (try simp at hh); omega))))
    (try (have hlwn3_1_0 : w.heap.size < wn3.heap.size := (by first | omega | (have hh := hxwn3z1; (try simp at hh); omega))))
    (try (have hlwn3_1_1 : w.heap.size + 1 < wn3.heap.size := (by first | omega | (have hh := hxwn3z1; (try simp at hh); omega))))
    (try (have hlwn3_1_2 : w.heap.size + 1 + 1 < wn3.heap.size := (by first | omega | (have hh := hxwn3z1; (try simp at hh); omega))))
    (try (refine Evo.laterK KB2.out wn3 ?_ (fun hxwn3c2 hxwn3f2 hxwn3z2 => ?_); (focus ((repeat (first | with_reducible exact Grow.G.refl _ | with_reducible exact Below.refl _ _ | with_reducible refine Grow.G.alloc ?_ _ | with_reducible refine Grow.G.trans ?_ hb3 | with_reducible refine Grow.G.trans ?_ hb2 | with_reducible refine Grow.G.trans ?_ hb1 | ((with_reducible refine Below.setCell ?_ ?_ _); rotate_left; (focus (first | omega | (simp; done) | (simp; omega)))))); all_goals fail))))
    (try (have hlewn3_2 : wn1.heap.size ≤ wn3.heap.size := (by first | omega | (have hh := hxwn3z2; (try simp at hh); omega))))
    (try (have hlwn3_2_0 : wn1.heap.size < wn3.heap.size := (by first | omega | (have hh := hxwn3z2; (try simp at hh); omega))))
    (try (have hlwn3_2_1 : wn1.heap.size + 1 < wn3.heap.size := (by first | omega | (have hh := hxwn3z2; (try simp at hh); omega))))
    (try (have hlwn3_2_2 : wn1.heap.size + 1 + 1 < wn3.heap.size := (by first | omega | (have hh := hxwn3z2; (try simp at hh); omega))))
    go_wp2_with fail
    refine (EB.out g1 0 g3 (1 + g4) g5 (by omega) _).mono ?_
    rintro e wn4 ⟨rfl, hb4⟩
    have KB4 := Lib.hid (Evo.later hb4)
    have hxwn4c := (bcell hb4).1
    have hxwn4f := (bcell hb4).2.1
    have hxwn4z := (bcell hb4).2.2
    (try (have hlewn4_4 : wn3.heap.size ≤ wn4.heap.size := (by first | omega | (have hh := hxwn4z; (try simp at hh); omega))))
    (try (have hlwn4_4_0 : wn3.heap.size < wn4.heap.size := (by first | omega | (have hh := hxwn4z; (try simp at hh); omega))))
    (try (have hlwn4_4_1 : wn3.heap.size + 1 < wn4.heap.size := (by first | omega | (have hh := hxwn4z; (try simp at hh); omega))))
    (try (have hlwn4_4_2 : wn3.heap.size + 1 + 1 < wn4.heap.size := (by first | omega | (have hh := hxwn4z; (try simp at hh); omega))))
    (try (refine Evo.laterK KB1.out wn4 ?_ (fun hxwn4c1 hxwn4f1 hxwn4z1 => ?_); (focus ((repeat (first | with_reducible exact Grow.G.refl _ | with_reducible exact Below.refl _ _ | with_reducible refine Grow.G.alloc ?_ _ | with_reducible refine Grow.G.trans ?_ hb4 | with_reducible refine Grow.G.trans ?_ hb3 | with_reducible refine Grow.G.trans ?_ hb2 | with_reducible refine Grow.G.trans ?_ hb1 | ((with_reducible refine Below.setCell ?_ ?_ _); rotate_left; (focus (first | omega | (simp; done) | (simp; omega)))))); all_goals fail))))
    (try (have hlewn4_1 : w.heap.size ≤ wn4.heap.size := (by first | omega | (have hh := hxwn4z1; (try simp at hh); omega))))
    (try (have hlwn4_1_0 : w.heap.size < wn4.heap.size := (by first | omega | (have hh := hxwn4z1; (try simp at hh); omega))))
    (try (have hlwn4_1_1 : w.heap.size + 1 < wn4.heap.size := (by first | omega | (have hh := hxwn4z1; (try simp at hh); omega))))
    (try (have hlwn4_1_2 : w.heap.size + 1 + 1 < wn4.heap.size := (by first | omega | (have hh := hxwn4z1; (try simp at hh); omega))))
    (try (refine Evo.laterK KB2.out wn4 ?_ (fun hxwn4c2 hxwn4f2 hxwn4z2 => ?_); (focus ((repeat (first | with_reducible exact Grow.G.refl _ | with_reducible exact Below.refl _ _ | with_reducible refine Grow.G.alloc ?_ _ | with_reducible refine Grow.G.trans ?_ hb4 | with_reducible refine Grow.G.trans ?_ hb3 | with_reducible refine Grow.G.trans ?_ hb2 | with_reducible refine Grow.G.trans ?_ hb1 | ((with_reducible refine Below.setCell ?_ ?_ _); rotate_left; (focus (first | omega | (simp; done) | (simp; omega)))))); all_goals fail))))
    (try (have hlewn4_2 : wn1.heap.size ≤ wn4.heap.size := (by first | omega | (have hh := hxwn4z2; (try simp at hh); omega))))
    (try (have hlwn4_2_0 : wn1.heap.size < wn4.heap.size := (by first | omega | (have hh := hxwn4z2; (try simp at hh); omega))))
    (try (have hlwn4_2_1 : wn1.heap.size + 1 < wn4.heap.size := (by first | omega | (have hh := hxwn4z2; (try simp at hh); omega))))
    (try (have hlwn4_2_2 : wn1.heap.size + 1 + 1 < wn4.heap.size := (by first | omega | (have hh := hxwn4z2; (try simp at hh); omega))))
    (try (refine Evo.laterK KB3.out wn4 ?_ (fun hxwn4c3 hxwn4f3 hxwn4z3 => ?_); (focus ((repeat (first | with_reducible exact Grow.G.refl _ | with_reducible exact Below.refl _ _ | with_reducible refine Grow.G.alloc ?_ _ | with_reducible refine Grow.G.trans ?_ hb4 | with_reducible refine Grow.G.trans ?_ hb3 | with_reducible refine Grow.G.trans ?_ hb2 | with_reducible refine Grow.G.trans ?_ hb1 | ((with_reducible refine Below.setCell ?_ ?_ _); rotate_left; (focus (first | omega | (simp; done) | (simp; omega)))))); all_goals fail))))
    (try (have hlewn4_3 : wn2.heap.size ≤ wn4.heap.size := (by first | omega | (have hh := hxwn4z3; (try simp at hh); omega))))
    (try (have hlwn4_3_0 : wn2.heap.size < wn4.heap.size := (by first | omega | (have hh := hxwn4z3; (try simp at hh); omega))))
    (try (have hlwn4_3_1 : wn2.heap.size + 1 < wn4.heap.size := (by first | omega | (have hh := hxwn4z3; (try simp at hh); omega))))
    (try (have hlwn4_3_2 : wn2.heap.size + 1 + 1 < wn4.heap.size := (by first | omega | (have hh := hxwn4z3; (try simp at hh); omega))))
    go_wp2_with fail
    go_ret
    exact ⟨rfl, by (repeat (first | with_reducible exact Grow.G.refl _ | with_reducible exact Below.refl _ _ | with_reducible refine Grow.G.alloc ?_ _ | with_reducible refine Grow.G.trans ?_ hb5 | with_reducible refine Grow.G.trans ?_ hb4 | with_reducible refine Grow.G.trans ?_ hb3 | with_reducible refine Grow.G.trans ?_ hb2 | with_reducible refine Grow.G.trans ?_ hb1 | ((with_reducible refine Below.setCell ?_ ?_ _); rotate_left; (focus (first | omega | (simp; done) | (simp; omega)))) | with_reducible assumption | with_reducible refine Grow.G.trans ?_ (by with_reducible assumption)))⟩
  · skip
    go_wp2_with fail
    refine (EO.out g1 (1 + g2) g3 10 g5 (by omega) (by omega) (by omega) (by omega) (by omega) _).mono ?_
    rintro e wn3 ⟨rfl, hb3⟩
    have KB3 := Lib.hid (Evo.later hb3)
    have hxwn3c := (bcell hb3).1
    have hxwn3f := (bcell hb3).2.1
    have hxwn3z := (bcell hb3).2.2
    (try (have hlewn3_3 : wn2.heap.size ≤ wn3.heap.size := (by first | omega | (have hh := hxwn3z; (try simp at hh); omega))))
    (try (have hlwn3_3_0 : wn2.heap.size < wn3.heap.size := (by first | omega | (have hh := hxwn3z; (try simp at hh); omega))))
    (try (have hlwn3_3_1 : wn2.heap.size + 1 < wn3.heap.size := (by first | omega | (have hh := hxwn3z; (try simp at hh); omega))))
    (try (have hlwn3_3_2 : wn2.heap.size + 1 + 1 < wn3.heap.size := (by first | omega | (have hh := hxwn3z; (try simp at hh); omega))))
    (try (refine Evo.laterK KB1.out wn3 ?_ (fun hxwn3c1 hxwn3f1 hxwn3z1 => ?_); (focus ((repeat (first | with_reducible exact Grow.G.refl _ | with_reducible exact Below.refl _ _ | with_reducible refine Grow.G.alloc ?_ _ | with_reducible refine Grow.G.trans ?_ hb3 | with_reducible refine Grow.G.trans ?_ hb2 | with_reducible refine Grow.G.trans ?_ hb1 | ((with_reducible refine Below.setCell ?_ ?_ _); rotate_left; (focus (first | omega | (simp; done) | (simp; omega)))))); all_goals fail))))
    (try (have hlewn3_1 : w.heap.size ≤ wn3.heap.size := (by first | omega | (have hh := hxwn3z1; (try simp at hh); omega))))
    (try (have hlwn3_1_0 : w.heap.size < wn3.heap.size := (by first | omega | (have hh := hxwn3z1; (try simp at hh); omega))))
    (try (have hlwn3_1_1 : w.heap.size + 1 < wn3.heap.size := (by first | omega | (have hh := hxwn3z1; (try simp at hh); omega))))
    (try (have hlwn3_1_2 : w.heap.size + 1 + 1 < wn3.heap.size := (by first | omega | (have hh := hxwn3z1; (try simp at hh); omega))))
    (try (refine Evo.laterK KB2.out wn3 ?_ (fun hxwn3c2 hxwn3f2 hxwn3z2 => ?_); (focus ((repeat (first | with_reducible exact Grow.G.refl _ | with_reducible exact Below.refl _ _ | with_reducible refine Grow.G.alloc ?_ _ | with_reducible refine Grow.G.trans ?_ hb3 | with_reducible refine Grow.G.trans ?_ hb2 | with_reducible refine Grow.G.trans ?_ hb1 | ((with_reducible refine Below.setCell ?_ ?_ _); rotate_left; (focus (first | omega | (simp; done) | (simp; omega)))))); all_goals fail))))
    (try (have hlewn3_2 : wn1.heap.size ≤ wn3.heap.size := (by first | omega | (have hh := hxwn3z2; (try simp at hh); omega))))
    (try (have hlwn3_2_0 : wn1.heap.size < wn3.heap.size := (by first | omega | (have hh := hxwn3z2; (try simp at hh); omega))))
    (try (have hlwn3_2_1 : wn1.heap.size + 1 < wn3.heap.size := (by first | omega | (have hh := hxwn3z2; (try simp at hh); omega))))
    (try (have hlwn3_2_2 : wn1.heap.size + 1 + 1 < wn3.heap.size := (by first | omega | (have hh := hxwn3z2; (try simp at hh); omega))))
    go_wp2_with fail
    refine (EB.out g1 (1 + g2) g3 11 g5 (by omega) _).mono ?_
    rintro e wn4 ⟨rfl, hb4⟩
    have KB4 := Lib.hid (Evo.later hb4)
    have hxwn4c := (bcell hb4).1
    have hxwn4f := (bcell hb4).2.1
    have hxwn4z := (bcell hb4).2.2
    (try (have hlewn4_4 : wn3.heap.size ≤ wn4.heap.size := (by first | omega | (have hh := hxwn4z; (try simp at hh); omega))))
    (try (have hlwn4_4_0 : wn3.heap.size < wn4.heap.size := (by first | omega | (have hh := hxwn4z; (try simp at hh); omega))))
    (try (have hlwn4_4_1 : wn3.heap.size + 1 < wn4.heap.size := (by first | omega | (have hh := hxwn4z; (try simp at hh); omega))))
    (try (have hlwn4_4_2 : wn3.heap.size + 1 + 1 < wn4.heap.size := (by first | omega | (have hh := hxwn4z; (try simp at hh); omega))))
    (try (refine Evo.laterK KB1.out wn4 ?_ (fun hxwn4c1 hxwn4f1 hxwn4z1 => ?_); (focus ((repeat (first | with_reducible exact Grow.G.refl _ | with_reducible exact Below.refl _ _ | with_reducible refine Grow.G.alloc ?_ _ | with_reducible refine Grow.G.trans ?_ hb4 | with_reducible refine Grow.G.trans ?_ hb3 | with_reducible refine Grow.G.trans ?_ hb2 | with_reducible refine Grow.G.trans ?_ hb1 | ((with_reducible refine Below.setCell ?_ ?_ _); rotate_left; (focus (first | omega | (simp; done) | (simp; omega)))))); all_goals fail))))
    (try (have hlewn4_1 : w.heap.size ≤ wn4.heap.size := (by first | omega | (have hh := hxwn4z1; (try simp at hh); omega))))
    (try (have hlwn4_1_0 : w.heap.size < wn4.heap.size := (by first | omega | (have hh := hxwn4z1; (try simp at hh); omega))))
    (try (have hlwn4_1_1 : w.heap.size + 1 < wn4.heap.size := (by first | omega | (have hh := hxwn4z1; (try simp at hh); omega))))
    (try (have hlwn4_1_2 : w.heap.size + 1 + 1 < wn4.heap.size := (by first | omega | (have hh := hxwn4z1; (try simp at hh); omega))))
    (try (refine Evo.laterK KB2.out wn4 ?_ (fun hxwn4c2 hxwn4f2 hxwn4z2 => ?_); (focus ((repeat (first | with_reducible exact Grow.G.refl _ | with_reducible exact Below.refl _ _ | with_reducible refine Grow.G.alloc ?_ _ | with_reducible refine Grow.G.trans ?_ hb4 | with_reducible refine Grow.G.trans ?_ hb3 | with_reducible refine Grow.G.trans ?_ hb2 | with_reducible refine Grow.G.trans ?_ hb1 | ((with_reducible refine Below.setCell ?_ ?_ _); rotate_left; (focus (first | omega | (simp; done) | (simp; omega)))))); all_goals fail))))
    (try (have hlewn4_2 : wn1.heap.size ≤ wn4.heap.size := (by first | omega | (have hh := hxwn4z2; (try simp at hh); omega))))
    (try (have hlwn4_2_0 : wn1.heap.size < wn4.heap.size := (by first | omega | (have hh := hxwn4z2; (try simp at hh); omega))))
    (try (have hlwn4_2_1 : wn1.heap.size + 1 < wn4.heap.size := (by first | omega | (have hh := hxwn4z2; (try simp at hh); omega))))
    (try (have hlwn4_2_2 : wn1.heap.size + 1 + 1 < wn4.heap.size := (by first | omega | (have hh := hxwn4z2; (try simp at hh); omega))))
    (try (refine Evo.laterK KB3.out wn4 ?_ (fun hxwn4c3 hxwn4f3 hxwn4z3 => ?_); (focus ((repeat (first | with_reducible exact Grow.G.refl _ | with_reducible exact Below.refl _ _ | with_reducible refine Grow.G.alloc ?_ _ | with_reducible refine Grow.G.trans ?_ hb4 | with_reducible refine Grow.G.trans ?_ hb3 | with_reducible refine Grow.G.trans ?_ hb2 | with_reducible refine Grow.G.trans ?_ hb1 | ((with_reducible refine Below.setCell ?_ ?_ _); rotate_left; (focus (first | omega | (simp; done) | (simp; omega)))))); all_goals fail))))
    (try (have hlewn4_3 : wn2.heap.size ≤ wn4.heap.size := (by first | omega | (have hh := hxwn4z3; (try simp at hh); omega))))
    (try (have hlwn4_3_0 : wn2.heap.size < wn4.heap.size := (by first | omega | (have hh := hxwn4z3; (try simp at hh); omega))))
    (try (have hlwn4_3_1 : wn2.heap.size + 1 < wn4.heap.size := (by first | omega | (have hh := hxwn4z3; (try simp at hh); omega))))
    (try (have hlwn4_3_2 : wn2.heap.size + 1 + 1 < wn4.heap.size := (by first | omega | (have hh := hxwn4z3; (try simp at hh); omega))))
    go_wp2_with fail
    go_ret
    exact ⟨rfl, by (repeat (first | with_reducible exact Grow.G.refl _ | with_reducible exact Below.refl _ _ | with_reducible refine Grow.G.alloc ?_ _ | with_reducible refine Grow.G.trans ?_ hb5 | with_reducible refine Grow.G.trans ?_ hb4 | with_reducible refine Grow.G.trans ?_ hb3 | with_reducible refine Grow.G.trans ?_ hb2 | with_reducible refine Grow.G.trans ?_ hb1 | ((with_reducible refine Below.setCell ?_ ?_ _); rotate_left; (focus (first | omega | (simp; done) | (simp; omega)))) | with_reducible assumption | with_reducible refine Grow.G.trans ?_ (by with_reducible assumption)))⟩
  · skip
    go_wp2_with fail
    refine (EO.out g1 (1 + g2) (1 + g4) (1 + g4) g5 (by omega) (by omega) (by omega) (by omega) (by omega) _).mono ?_
    rintro e wn3 ⟨rfl, hb3⟩
    have KB3 := Lib.hid (Evo.later hb3)
    have hxwn3c := (bcell hb3).1
    have hxwn3f := (bcell hb3).2.1
    have hxwn3z := (bcell hb3).2.2
    (try (have hlewn3_3 : wn2.heap.size ≤ wn3.heap.size := (by first | omega | (have hh := hxwn3z; (try simp at hh); omega))))
    (try (have hlwn3_3_0 : wn2.heap.size < wn3.heap.size := (by first | omega | (have hh := hxwn3z; (try simp at hh); omega))))
    (try (have hlwn3_3_1 : wn2.heap.size + 1 < wn3.heap.size := (by first | omega | (have hh := hxwn3z; (try simp at hh); omega))))
    (try (have hlwn3_3_2 : wn2.heap.size + 1 + 1 < wn3.heap.size := (by first | omega | (have hh := hxwn3z; (try simp at hh); omega))))
    (try (refine Evo.laterK KB1.out wn3 ?_ (fun hxwn3c1 hxwn3f1 hxwn3z1 => ?_); (focus ((repeat (first | with_reducible exact Grow.G.refl _ | with_reducible exact Below.refl _ _ | with_reducible refine Grow.G.alloc ?_ _ | with_reducible refine Grow.G.trans ?_ hb3 | with_reducible refine Grow.G.trans ?_ hb2 | with_reducible refine Grow.G.trans ?_ hb1 | ((with_reducible refine Below.setCell ?_ ?_ _); rotate_left; (focus (first | omega | (simp; done) | (simp; omega)))))); all_goals fail))))
    (try (have hlewn3_1 : w.heap.size ≤ wn3.heap.size := (by first | omega | (have hh := hxwn3z1; (try simp at hh); omega))))
    (try (have hlwn3_1_0 : w.heap.size < wn3.heap.size := (by first | omega | (have hh := hxwn3z1; (try simp at hh); omega))))
    (try (have hlwn3_1_1 : w.heap.size + 1 < wn3.heap.size := (by first | omega | (have hh := hxwn3z1; (try simp at hh); omega))))
    (try (have hlwn3_1_2 : w.heap.size + 1 + 1 < wn3.heap.size := (by first | omega | (have hh := hxwn3z1; (try simp at hh); omega))))
    (try (refine Evo.laterK KB2.out wn3 ?_ (fun hxwn3c2 hxwn3f2 hxwn3z2 => ?_); (focus ((repeat (first | with_reducible exact Grow.G.refl _ | with_reducible exact Below.refl _ _ | with_reducible refine Grow.G.alloc ?_ _ | with_reducible refine Grow.G.trans ?_ hb3 | with_reducible refine Grow.G.trans ?_ hb2 | with_reducible refine Grow.G.trans ?_ hb1 | ((with_reducible refine Below.setCell ?_ ?_ _); rotate_left; (focus (first | omega | (simp; done) | (simp; omega)))))); all_goals fail))))
    (try (have hlewn3_2 : wn1.heap.size ≤ wn3.heap.size := (by first | omega | (have hh := hxwn3z2; (try simp at hh); omega))))
    (try (have hlwn3_2_0 : wn1.heap.size < wn3.heap.size := (by first | omega | (have hh := hxwn3z2; (try simp at hh); omega))))
    (try (have hlwn3_2_1 : wn1.heap.size + 1 < wn3.heap.size := (by first | omega | (have hh := hxwn3z2; (try simp at hh); omega))))
    (try (have hlwn3_2_2 : wn1.heap.size + 1 + 1 < wn3.heap.size := (by first | omega | (have hh := hxwn3z2; (try simp at hh); omega))))
    go_wp2_with fail
    refine (EB.out g1 (1 + g2) (1 + g4 + 1) (1 + g4) g5 (by omega) _).mono ?_
    rintro e wn4 ⟨rfl, hb4⟩
    have KB4 := Lib.hid (Evo.later hb4)
    have hxwn4c := (bcell hb4).1
    have hxwn4f := (bcell hb4).2.1
    have hxwn4z := (bcell hb4).2.2
    (try (have hlewn4_4 : wn3.heap.size ≤ wn4.heap.size := (by first | omega | (have hh := hxwn4z; (try simp at hh); omega))))
    (try (have hlwn4_4_0 : wn3.heap.size < wn4.heap.size := (by first | omega | (have hh := hxwn4z; (try simp at hh); omega))))
    (try (have hlwn4_4_1 : wn3.heap.size + 1 < wn4.heap.size := (by first | omega | (have hh := hxwn4z; (try simp at hh); omega))))
    (try (have hlwn4_4_2 : wn3.heap.size + 1 + 1 < wn4.heap.size := (by first | omega | (have hh := hxwn4z; (try simp at hh); omega))))
    (try (refine Evo.laterK KB1.out wn4 ?_ (fun hxwn4c1 hxwn4f1 hxwn4z1 => ?_); (focus ((repeat (first | with_reducible exact Grow.G.refl _ | with_reducible exact Below.refl _ _ | with_reducible refine Grow.G.alloc ?_ _ | with_reducible refine Grow.G.trans ?_ hb4 | with_reducible refine Grow.G.trans ?_ hb3 | with_reducible refine Grow.G.trans ?_ hb2 | with_reducible refine Grow.G.trans ?_ hb1 | ((with_reducible refine Below.setCell ?_ ?_ _); rotate_left; (focus (first | omega | (simp; done) | (simp; omega)))))); all_goals fail))))
    (try (have hlewn4_1 : w.heap.size ≤ wn4.heap.size := (by first | omega | (have hh := hxwn4z1; (try simp at hh); omega))))
    (try (have hlwn4_1_0 : w.heap.size < wn4.heap.size := (by first | omega | (have hh := hxwn4z1; (try simp at hh); omega))))
    (try (have hlwn4_1_1 : w.heap.size + 1 < wn4.heap.size := (by first | omega | (have hh := hxwn4z1; (try simp at hh); omega))))
    (try (have hlwn4_1_2 : w.heap.size + 1 + 1 < wn4.heap.size := (by first | omega | (have hh := hxwn4z1; (try simp at hh); omega))))
    (try (refine Evo.laterK KB2.out wn4 ?_ (fun hxwn4c2 hxwn4f2 hxwn4z2 => ?_); (focus ((repeat (first | with_reducible exact Grow.G.refl _ | with_reducible exact Below.refl _ _ | with_reducible refine Grow.G.alloc ?_ _ | with_reducible refine Grow.G.trans ?_ hb4 | with_reducible refine Grow.G.trans ?_ hb3 | with_reducible refine Grow.G.trans ?_ hb2 | with_reducible refine Grow.G.trans ?_ hb1 | ((with_reducible refine Below.setCell ?_ ?_ _); rotate_left; (focus (first | omega | (simp; done) | (simp; omega)))))); all_goals fail))))
    (try (have hlewn4_2 : wn1.heap.size ≤ wn4.heap.size := (by first | omega | (have hh := hxwn4z2; (try simp at hh); omega))))
    (try (have hlwn4_2_0 : wn1.heap.size < wn4.heap.size := (by first | omega | (have hh := hxwn4z2; (try simp at hh); omega))))
    (try (have hlwn4_2_1 : wn1.heap.size + 1 < wn4.heap.size := (by first | omega | (have hh := hxwn4z2; (try simp at hh); omega))))
    (try (have hlwn4_2_2 : wn1.heap.size + 1 + 1 < wn4.heap.size := (by first | omega | (have hh := hxwn4z2; (try simp at hh); omega))))
    (try (refine Evo.laterK KB3.out wn4 ?_ (fun hxwn4c3 hxwn4f3 hxwn4z3 => ?_); (focus ((repeat (first | with_reducible exact Grow.G.refl _ | with_reducible exact Below.refl _ _ | with_reducible refine Grow.G.alloc ?_ _ | with_reducible refine Grow.G.trans ?_ hb4 | with_reducible refine Grow.G.trans ?_ hb3 | with_reducible refine Grow.G.trans ?_ hb2 | with_reducible refine Grow.G.trans ?_ hb1 | ((with_reducible refine Below.setCell ?_ ?_ _); rotate_left; (focus (first | omega | (simp; done) | (simp; omega)))))); all_goals fail))))
    (try (have hlewn4_3 : wn2.heap.size ≤ wn4.heap.size := (by first | omega | (have hh := hxwn4z3; (try simp at hh); omega))))
    (try (have hlwn4_3_0 : wn2.heap.size < wn4.heap.size := (by first | omega | (have hh := hxwn4z3; (try simp at hh); omega))))
    (try (have hlwn4_3_1 : wn2.heap.size + 1 < wn4.heap.size := (by first | omega | (have hh := hxwn4z3; (try simp at hh); omega))))
    (try (have hlwn4_3_2 : wn2.heap.size + 1 + 1 < wn4.heap.size := (by first | omega | (have hh := hxwn4z3; (try simp at hh); omega))))
    go_wp2_with fail
    go_ret
    exact ⟨rfl, by (repeat (first | with_reducible exact Grow.G.refl _ | with_reducible exact Below.refl _ _ | with_reducible refine Grow.G.alloc ?_ _ | with_reducible refine Grow.G.trans ?_ hb5 | with_reducible refine Grow.G.trans ?_ hb4 | with_reducible refine Grow.G.trans ?_ hb3 | with_reducible refine Grow.G.trans ?_ hb2 | with_reducible refine Grow.G.trans ?_ hb1 | ((with_reducible refine Below.setCell ?_ ?_ _); rotate_left; (focus (first | omega | (simp; done) | (simp; omega)))) | with_reducible assumption | with_reducible refine Grow.G.trans ?_ (by with_reducible assumption)))⟩
  · skip
    go_wp2_with fail
    refine (EO.out g1 (1 + g2) g3 (1 + g4) 30 (by omega) (by omega) (by omega) (by omega) (by omega) _).mono ?_
    rintro e wn3 ⟨rfl, hb3⟩
    have KB3 := Lib.hid (Evo.later hb3)
    have hxwn3c := (bcell hb3).1
    have hxwn3f := (bcell hb3).2.1
    have hxwn3z := (bcell hb3).2.2
    (try (have hlewn3_3 : wn2.heap.size ≤ wn3.heap.size := (by first | omega | (have hh := hxwn3z; (try simp at hh); omega))))
    (try (have hlwn3_3_0 : wn2.heap.size < wn3.heap.size := (by first | omega | (have hh := hxwn3z; (try simp at hh); omega))))
    (try (have hlwn3_3_1 : wn2.heap.size + 1 < wn3.heap.size := (by first | omega | (have hh := hxwn3z; (try simp at hh); omega))))
    (try (have hlwn3_3_2 : wn2.heap.size + 1 + 1 < wn3.heap.size := (by first | omega | (have hh := hxwn3z; (try simp at hh); omega))))
    (try (refine Evo.laterK KB1.out wn3 ?_ (fun hxwn3c1 hxwn3f1 hxwn3z1 => ?_); (focus ((repeat (first | with_reducible exact Grow.G.refl _ | with_reducible exact Below.refl _ _ | with_reducible refine Grow.G.alloc ?_ _ | with_reducible refine Grow.G.trans ?_ hb3 | with_reducible refine Grow.G.trans ?_ hb2 | with_reducible refine Grow.G.trans ?_ hb1 | ((with_reducible refine Below.setCell ?_ ?_ _); rotate_left; (focus (first | omega | (simp; done) | (simp; omega)))))); all_goals fail))))
    (try (have hlewn3_1 : w.heap.size ≤ wn3.heap.size := (by first | omega | (have hh := hxwn3z1; (try simp at hh); omega))))
    (try (have hlwn3_1_0 : w.heap.size < wn3.heap.size := (by first | omega | (have hh := hxwn3z1; (try simp at hh); omega))))
    (try (have hlwn3_1_1 : w.heap.size + 1 < wn3.heap.size := (by first | omega | (have hh := hxwn3z1; (try simp at hh); omega))))
    (try (have hlwn3_1_2 : w.heap.size + 1 + 1 < wn3.heap.size := (by first | omega | (have hh := hxwn3z1; (try simp at hh); omega))))
    (try (refine Evo.laterK KB2.out wn3 ?_ (fun hxwn3c2 hxwn3f2 hxwn3z2 => ?_); (focus ((repeat (first | with_reducible exact Grow.G.refl _ | with_reducible exact Below.refl _ _ | with_reducible refine Grow.G.alloc ?_ _ | with_reducible refine Grow.G.trans ?_ hb3 | with_reducible refine Grow.G.trans ?_ hb2 | with_reducible refine Grow.G.trans ?_ hb1 | ((with_reducible refine Below.setCell ?_ ?_ _); rotate_left; (focus (first | omega | (simp; done) | (simp; omega)))))); all_goals fail))))
    (try (have hlewn3_2 : wn1.heap.size ≤ wn3.heap.size := (by first | omega | (have hh := hxwn3z2; (try simp at hh); omega))))
    (try (have hlwn3_2_0 : wn1.heap.size < wn3.heap.size := (by first | omega | (have hh := hxwn3z2; (try simp at hh); omega))))
    (try (have hlwn3_2_1 : wn1.heap.size + 1 < wn3.heap.size := (by first | omega | (have hh := hxwn3z2; (try simp at hh); omega))))
    (try (have hlwn3_2_2 : wn1.heap.size + 1 + 1 < wn3.heap.size := (by first | omega | (have hh := hxwn3z2; (try simp at hh); omega))))
    go_wp2_with fail
    refine (EB.out g1 (1 + g2) g3 (1 + g4) 31 (by omega) _).mono ?_
    rintro e wn4 ⟨rfl, hb4⟩
    have KB4 := Lib.hid (Evo.later hb4)
    have hxwn4c := (bcell hb4).1
    have hxwn4f := (bcell hb4).2.1
    have hxwn4z := (bcell hb4).2.2
    (try (have hlewn4_4 : wn3.heap.size ≤ wn4.heap.size := (by first | omega | (have hh := hxwn4z; (try simp at hh); omega))))
    (try (have hlwn4_4_0 : wn3.heap.size < wn4.heap.size := (by first | omega | (have hh := hxwn4z; (try simp at hh); omega))))
    (try (have hlwn4_4_1 : wn3.heap.size + 1 < wn4.heap.size := (by first | omega | (have hh := hxwn4z; (try simp at hh); omega))))
    (try (have hlwn4_4_2 : wn3.heap.size + 1 + 1 < wn4.heap.size := (by first | omega | (have hh := hxwn4z; (try simp at hh); omega))))
    (try (refine Evo.laterK KB1.out wn4 ?_ (fun hxwn4c1 hxwn4f1 hxwn4z1 => ?_); (focus ((repeat (first | with_reducible exact Grow.G.refl _ | with_reducible exact Below.refl _ _ | with_reducible refine Grow.G.alloc ?_ _ | with_reducible refine Grow.G.trans ?_ hb4 | with_reducible refine Grow.G.trans ?_ hb3 | with_reducible refine Grow.G.trans ?_ hb2 | with_reducible refine Grow.G.trans ?_ hb1 | ((with_reducible refine Below.setCell ?_ ?_ _); rotate_left; (focus (first | omega | (simp; done) | (simp; omega)))))); all_goals fail))))
    (try (have hlewn4_1 : w.heap.size ≤ wn4.heap.size := (by first | omega | (have hh := hxwn4z1; (try simp at hh); omega))))
    (try (have hlwn4_1_0 : w.heap.size < wn4.heap.size := (by first | omega | (have hh := hxwn4z1; (try simp at hh); omega))))
    (try (have hlwn4_1_1 : w.heap.size + 1 < wn4.heap.size := (by first | omega | (have hh := hxwn4z1; (try simp at hh); omega))))
    (try (have hlwn4_1_2 : w.heap.size + 1 + 1 < wn4.heap.size := (by first | omega | (have hh := hxwn4z1; (try simp at hh); omega))))
    (try (refine Evo.laterK KB2.out wn4 ?_ (fun hxwn4c2 hxwn4f2 hxwn4z2 => ?_); (focus ((repeat (first | with_reducible exact Grow.G.refl _ | with_reducible exact Below.refl _ _ | with_reducible refine Grow.G.alloc ?_ _ | with_reducible refine Grow.G.trans ?_ hb4 | with_reducible refine Grow.G.trans ?_ hb3 | with_reducible refine Grow.G.trans ?_ hb2 | with_reducible refine Grow.G.trans ?_ hb1 | ((with_reducible refine Below.setCell ?_ ?_ _); rotate_left; (focus (first | omega | (simp; done) | (simp; omega)))))); all_goals fail))))
    (try (have hlewn4_2 : wn1.heap.size ≤ wn4.heap.size := (by first | omega | (have hh := hxwn4z2; (try simp at hh); omega))))
    (try (have hlwn4_2_0 : wn1.heap.size < wn4.heap.size := (by first | omega | (have hh := hxwn4z2; (try simp at hh); omega))))
    (try (have hlwn4_2_1 : wn1.heap.size + 1 < wn4.heap.size := (by first | omega | (have hh := hxwn4z2; (try simp at hh); omega))))
    (try (have hlwn4_2_2 : wn1.heap.size + 1 + 1 < wn4.heap.size := (by first | omega | (have hh := hxwn4z2; (try simp at hh); omega))))
    (try (refine Evo.laterK KB3.out wn4 ?_ (fun hxwn4c3 hxwn4f3 hxwn4z3 => ?_); (focus ((repeat (first | with_reducible exact Grow.G.refl _ | with_reducible exact Below.refl _ _ | with_reducible refine Grow.G.alloc ?_ _ | with_reducible refine Grow.G.trans ?_ hb4 | with_reducible refine Grow.G.trans ?_ hb3 | with_reducible refine Grow.G.trans ?_ hb2 | with_reducible refine Grow.G.trans ?_ hb1 | ((with_reducible refine Below.setCell ?_ ?_ _); rotate_left; (focus (first | omega | (simp; done) | (simp; omega)))))); all_goals fail))))
    (try (have hlewn4_3 : wn2.heap.size ≤ wn4.heap.size := (by first | omega | (have hh := hxwn4z3; (try simp at hh); omega))))
    (try (have hlwn4_3_0 : wn2.heap.size < wn4.heap.size := (by first | omega | (have hh := hxwn4z3; (try simp at hh); omega))))
    (try (have hlwn4_3_1 : wn2.heap.size + 1 < wn4.heap.size := (by first | omega | (have hh := hxwn4z3; (try simp at hh); omega))))
    (try (have hlwn4_3_2 : wn2.heap.size + 1 + 1 < wn4.heap.size := (by first | omega | (have hh := hxwn4z3; (try simp at hh); omega))))
    go_wp2_with fail
    go_ret
    exact ⟨rfl, by (repeat (first | with_reducible exact Grow.G.refl _ | with_reducible exact Below.refl _ _ | with_reducible refine Grow.G.alloc ?_ _ | with_reducible refine Grow.G.trans ?_ hb5 | with_reducible refine Grow.G.trans ?_ hb4 | with_reducible refine Grow.G.trans ?_ hb3 | with_reducible refine Grow.G.trans ?_ hb2 | with_reducible refine Grow.G.trans ?_ hb1 | ((with_reducible refine Below.setCell ?_ ?_ _); rotate_left; (focus (first | omega | (simp; done) | (simp; omega)))) | with_reducible assumption | with_reducible refine Grow.G.trans ?_ (by with_reducible assumption)))⟩
  · skip
    go_wp2_with fail
    refine (EO.out 255 (1 + g2) g3 (1 + g4) g5 (by omega) (by omega) (by omega) (by omega) (by omega) _).mono ?_
    rintro e wn3 ⟨rfl, hb3⟩
    have KB3 := Lib.hid (Evo.later hb3)
    have hxwn3c := (bcell hb3).1
    have hxwn3f := (bcell hb3).2.1
    have hxwn3z := (bcell hb3).2.2
    (try (have hlewn3_3 : wn2.heap.size ≤ wn3.heap.size := (by first | omega | (have hh := hxwn3z; (try simp at hh); omega))))
    (try (have hlwn3_3_0 : wn2.heap.size < wn3.heap.size := (by first | omega | (have hh := hxwn3z; (try simp at hh); omega))))
    (try (have hlwn3_3_1 : wn2.heap.size + 1 < wn3.heap.size := (by first | omega | (have hh := hxwn3z; (try simp at hh); omega))))
    (try (have hlwn3_3_2 : wn2.heap.size + 1 + 1 < wn3.heap.size := (by first | omega | (have hh := hxwn3z; (try simp at hh); omega))))
    (try (refine Evo.laterK KB1.out wn3 ?_ (fun hxwn3c1 hxwn3f1 hxwn3z1 => ?_); (focus ((repeat (first | with_reducible exact Grow.G.refl _ | with_reducible exact Below.refl _ _ | with_reducible refine Grow.G.alloc ?_ _ | with_reducible refine Grow.G.trans ?_ hb3 | with_reducible refine Grow.G.trans ?_ hb2 | with_reducible refine Grow.G.trans ?_ hb1 | ((with_reducible refine Below.setCell ?_ ?_ _); rotate_left; (focus (first | omega | (simp; done) | (simp; omega)))))); all_goals fail))))
    (try (have hlewn3_1 : w.heap.size ≤ wn3.heap.size := (by first | omega | (have hh := hxwn3z1; (try simp at hh); omega))))
    (try (have hlwn3_1_0 : w.heap.size < wn3.heap.size := (by first | omega | (have hh := hxwn3z1; (try simp at hh); omega))))
    (try (have hlwn3_1_1 : w.heap.size + 1 < wn3.heap.size := (by first | omega | (have hh := hxwn3z1; (try simp at hh); omega))))
    (try (have hlwn3_1_2 : w.heap.size + 1 + 1 < wn3.heap.size := (by first | omega | (have hh := hxwn3z1; (try simp at hh); omega))))
    (try (refine Evo.laterK KB2.out wn3 ?_ (fun hxwn3c2 hxwn3f2 hxwn3z2 => ?_); (focus ((repeat (first | with_reducible exact Grow.G.refl _ | with_reducible exact Below.refl _ _ | with_reducible refine Grow.G.alloc ?_ _ | with_reducible refine Grow.G.trans ?_ hb3 | with_reducible refine Grow.G.trans ?_ hb2 | with_reducible refine Grow.G.trans ?_ hb1 | ((with_reducible refine Below.setCell ?_ ?_ _); rotate_left; (focus (first | omega | (simp; done) | (simp; omega)))))); all_goals fail))))
    (try (have hlewn3_2 : wn1.heap.size ≤ wn3.heap.size := (by first | omega | (have hh := hxwn3z2; (try simp at hh); omega))))
    (try (have hlwn3_2_0 : wn1.heap.size < wn3.heap.size := (by first | omega | (have hh := hxwn3z2; (try simp at hh); omega))))
    (try (have hlwn3_2_1 : wn1.heap.size + 1 < wn3.heap.size := (by first | omega | (have hh := hxwn3z2; (try simp at hh); omega))))
    (try (have hlwn3_2_2 : wn1.heap.size + 1 + 1 < wn3.heap.size := (by first | omega | (have hh := hxwn3z2; (try simp at hh); omega))))
    go_wp2_with fail
    refine (EB.out 256 (1 + g2) g3 (1 + g4) g5 (by omega) _).mono ?_
    rintro e wn4 ⟨rfl, hb4⟩
    have KB4 := Lib.hid (Evo.later hb4)
    have hxwn4c := (bcell hb4).1
    have hxwn4f := (bcell hb4).2.1
    have hxwn4z := (bcell hb4).2.2
    (try (have hlewn4_4 : wn3.heap.size ≤ wn4.heap.size := (by first | omega | (have hh := hxwn4z; (try simp at hh); omega))))
    (try (have hlwn4_4_0 : wn3.heap.size < wn4.heap.size := (by first | omega | (have hh := hxwn4z; (try simp at hh); omega))))
    (try (have hlwn4_4_1 : wn3.heap.size + 1 < wn4.heap.size := (by first | omega | (have hh := hxwn4z; (try simp at hh); omega))))
    (try (have hlwn4_4_2 : wn3.heap.size + 1 + 1 < wn4.heap.size := (by first | omega | (have hh := hxwn4z; (try simp at hh); omega))))
    (try (refine Evo.laterK KB1.out wn4 ?_ (fun hxwn4c1 hxwn4f1 hxwn4z1 => ?_); (focus ((repeat (first | with_reducible exact Grow.G.refl _ | with_reducible exact Below.refl _ _ | with_reducible refine Grow.G.alloc ?_ _ | with_reducible refine Grow.G.trans ?_ hb4 | with_reducible refine Grow.G.trans ?_ hb3 | with_reducible refine Grow.G.trans ?_ hb2 | with_reducible refine Grow.G.trans ?_ hb1 | ((with_reducible refine Below.setCell ?_ ?_ _); rotate_left; (focus (first | omega | (simp; done) | (simp; omega)))))); all_goals fail))))
    (try (have hlewn4_1 : w.heap.size ≤ wn4.heap.size := (by first | omega | (have hh := hxwn4z1; (try simp at hh); omega))))
    (try (have hlwn4_1_0 : w.heap.size < wn4.heap.size := (by first | omega | (have hh := hxwn4z1; (try simp at hh); omega))))
    (try (have hlwn4_1_1 : w.heap.size + 1 < wn4.heap.size := (by first | omega | (have hh := hxwn4z1; (try simp at hh); omega))))
    (try (have hlwn4_1_2 : w.heap.size + 1 + 1 < wn4.heap.size := (by first | omega | (have hh := hxwn4z1; (try simp at hh); omega))))
    (try (refine Evo.laterK KB2.out wn4 ?_ (fun hxwn4c2 hxwn4f2 hxwn4z2 => ?_); (focus ((repeat (first | with_reducible exact Grow.G.refl _ | with_reducible exact Below.refl _ _ | with_reducible refine Grow.G.alloc ?_ _ | with_reducible refine Grow.G.trans ?_ hb4 | with_reducible refine Grow.G.trans ?_ hb3 | with_reducible refine Grow.G.trans ?_ hb2 | with_reducible refine Grow.G.trans ?_ hb1 | ((with_reducible refine Below.setCell ?_ ?_ _); rotate_left; (focus (first | omega | (simp; done) | (simp; omega)))))); all_goals fail))))
    (try (have hlewn4_2 : wn1.heap.size ≤ wn4.heap.size := (by first | omega | (have hh := hxwn4z2; (try simp at hh); omega))))
    (try (have hlwn4_2_0 : wn1.heap.size < wn4.heap.size := (by first | omega | (have hh := hxwn4z2; (try simp at hh); omega))))
    (try (have hlwn4_2_1 : wn1.heap.size + 1 < wn4.heap.size := (by first | omega | (have hh := hxwn4z2; (try simp at hh); omega))))
    (try (have hlwn4_2_2 : wn1.heap.size + 1 + 1 < wn4.heap.size := (by first | omega | (have hh := hxwn4z2; (try simp at hh); omega))))
    (try (refine Evo.laterK KB3.out wn4 ?_ (fun hxwn4c3 hxwn4f3 hxwn4z3 => ?_); (focus ((repeat (first | with_reducible exact Grow.G.refl _ | with_reducible exact Below.refl _ _ | with_reducible refine Grow.G.alloc ?_ _ | with_reducible refine Grow.G.trans ?_ hb4 | with_reducible refine Grow.G.trans ?_ hb3 | with_reducible refine Grow.G.trans ?_ hb2 | with_reducible refine Grow.G.trans ?_ hb1 | ((with_reducible refine Below.setCell ?_ ?_ _); rotate_left; (focus (first | omega | (simp; done) | (simp; omega)))))); all_goals fail))))
    (try (have hlewn4_3 : wn2.heap.size ≤ wn4.heap.size := (by first | omega | (have hh := hxwn4z3; (try simp at hh); omega))))
    (try (have hlwn4_3_0 : wn2.heap.size < wn4.heap.size := (by first | omega | (have hh := hxwn4z3; (try simp at hh); omega))))
    (try (have hlwn4_3_1 : wn2.heap.size + 1 < wn4.heap.size := (by first | omega | (have hh := hxwn4z3; (try simp at hh); omega))))
    (try (have hlwn4_3_2 : wn2.heap.size + 1 + 1 < wn4.heap.size := (by first | omega | (have hh := hxwn4z3; (try simp at hh); omega))))
    go_wp2_with fail
    go_ret
    exact ⟨rfl, by (repeat (first | with_reducible exact Grow.G.refl _ | with_reducible exact Below.refl _ _ | with_reducible refine Grow.G.alloc ?_ _ | with_reducible refine Grow.G.trans ?_ hb5 | with_reducible refine Grow.G.trans ?_ hb4 | with_reducible refine Grow.G.trans ?_ hb3 | with_reducible refine Grow.G.trans ?_ hb2 | with_reducible refine Grow.G.trans ?_ hb1 | ((with_reducible refine Below.setCell ?_ ?_ _); rotate_left; (focus (first | omega | (simp; done) | (simp; omega)))) | with_reducible assumption | with_reducible refine Grow.G.trans ?_ (by with_reducible assumption)))⟩
end Go.Proofs.Ytpmhmegjckhbmaa

/- damperlaw2's helpers: config, Config, Few, known. -/
import Derived.Test.YtpmhmegjckhbmaaSpec8
namespace Go.Proofs.Ytpmhmegjckhbmaa
set_option linter.unusedVariables false
set_option linter.unusedSimpArgs false
set_option linter.unnecessarySimpa false
open Go.RowKit

def names3 : List ByteArray := [⟨#[119, 101, 98]⟩, ⟨#[97, 112, 105]⟩, ⟨#[97, 45, 98]⟩]
def name3 (n : Int) : ByteArray := names3.getD (withinI n 3).toNat ⟨#[]⟩
def gCfg (c : Cfg) (n : Int) : Cfg := ⟨name3 n, withinI c.im 256, 1 + withinI c.co 8, withinI c.mn (1 + withinI c.mx 10 + 1), 1 + withinI c.mx 10, withinI c.gr 31⟩
def Cfg.wf (c : Cfg) : Prop := wf64 c.im ∧ wf64 c.co ∧ wf64 c.mn ∧ wf64 c.mx ∧ wf64 c.gr
theorem w3_cases (n : Int) : withinI n 3 = 0 ∨ withinI n 3 = 1 ∨ withinI n 3 = 2 := by have := withinI_range n 3 (by omega); omega

set_option maxRecDepth 100000 in
set_option maxHeartbeats 1000000 in
theorem gcfg_any (c : Cfg) (n : Int) (w : World) (hc : c.wf) (hn : wf64 n) :
    Calls Try.prog 12 #[c.v, .int .i64 n] w fun x w' => x = .returned (gCfg c n).v ∧ Below w.heap.size w w' := by
  obtain ⟨nm, im, co, mn, mx, gr⟩ := c
  obtain ⟨h1, h2, h3, h4, h5⟩ := hc
  simp only at h1 h2 h3 h4 h5
  have r1 := withinI_range im 256 (by omega)
  have r2 := withinI_range co 8 (by omega)
  have r4 := withinI_range mx 10 (by omega)
  have r5 := withinI_range gr 31 (by omega)
  have W0 := Lib.hid (fun w => within2_any n 3 w (by omega) (by omega) hn.1 hn.2)
  have W1 := Lib.hid (fun w => within2_any im 256 w (by omega) (by omega) h1.1 h1.2)
  have W2 := Lib.hid (fun w => within2_any co 8 w (by omega) (by omega) h2.1 h2.2)
  have W4 := Lib.hid (fun w => within2_any mx 10 w (by omega) (by omega) h4.1 h4.2)
  have W3 := Lib.hid (fun w => within2_any mn (1 + withinI mx 10 + 1) w (by omega) (by omega) h3.1 h3.2)
  have W5 := Lib.hid (fun w => within2_any gr 31 w (by omega) (by omega) h5.1 h5.2)
  have N3 := w3_cases n
  unfold Cfg.v gCfg name3
  simp only
  generalize withinI n 3 = q0 at *
  generalize withinI im 256 = q1 at *
  generalize withinI co 8 = q2 at *
  generalize withinI mx 10 = q4 at *
  generalize withinI mn (1 + q4 + 1) = q3 at *
  generalize withinI gr 31 = q5 at *
  clear hn h1 h2 h3 h4 h5
  rcases N3 with rfl | rfl | rfl
  all_goals
    go_enter Try.func12, Try.ntmps12
    go_wp2_with fail
    refine (W0.out _).mono ?_
    rintro e wx ⟨rfl, rfl⟩
    go_wp2_with fail
    refine (W1.out _).mono ?_
    rintro e wx ⟨rfl, rfl⟩
    go_wp2_with fail
    refine (W2.out _).mono ?_
    rintro e wx ⟨rfl, rfl⟩
    go_wp2_with fail
    refine (W4.out _).mono ?_
    rintro e wx ⟨rfl, rfl⟩
    go_wp2_with fail
    refine (W3.out _).mono ?_
    rintro e wx ⟨rfl, rfl⟩
    go_wp2_with fail
    refine (W5.out _).mono ?_
    rintro e wx ⟨rfl, rfl⟩
    go_wp2_with fail
    exact bodyPost_ret (v := .agg #[.string _, .int .i64 q1, .int .i64 (1 + q2), .int .i64 q3, .int .i64 (1 + q4), .int .i64 q5]) (by simp [results, Try.results12, go_sem, names3]) rfl ⟨rfl, by (repeat (first | with_reducible exact Grow.G.refl _ | with_reducible exact Below.refl _ _ | with_reducible refine Grow.G.alloc ?_ _ | with_reducible refine Grow.G.trans ?_ hb1 | ((with_reducible refine Below.setCell ?_ ?_ _); rotate_left; (focus (first | omega | (simp; done) | (simp; omega)))) | with_reducible assumption | with_reducible refine Grow.G.trans ?_ (by with_reducible assumption)))⟩
theorem few_any (nm cf : ByteArray) (a : Option Addr) (l c : Nat) (rl : Int) (w : World) (h1 : nm.size ≤ maxLen) (h2 : cf.size ≤ maxLen) :
    Calls Try.prog 17 #[rtV nm cf (.slice a l c) rl] w fun x w' => x = .returned (.bool (decide (l ≤ 12) && decide (nm.size ≤ 60) && decide (cf.size ≤ 60))) ∧ Below w.heap.size w w' := by
  unfold maxLen at h1 h2
  unfold rtV
  go_enter Try.func17, Try.ntmps17
  go_wp2
  all_goals
    go_ret
    refine ⟨ret_bool ?_, by (repeat (first | with_reducible exact Grow.G.refl _ | with_reducible exact Below.refl _ _ | with_reducible refine Grow.G.alloc ?_ _ | with_reducible refine Grow.G.trans ?_ hb1 | ((with_reducible refine Below.setCell ?_ ?_ _); rotate_left; (focus (first | omega | (simp; done) | (simp; omega)))) | with_reducible assumption | with_reducible refine Grow.G.trans ?_ (by with_reducible assumption)))⟩
    rw [Bool.eq_iff_iff]; simp only [Bool.and_eq_true, decide_eq_true_eq, Bool.false_eq_true, false_iff]; omega
theorem lconfig_any (a b c d : Int) (w : World) :
    Calls Try.prog 23 #[.int .i64 a, .int .i64 b, .int .i64 c, .int .i64 d] w fun x w' => x = .returned (Cfg.v ⟨⟨#[97]⟩, 0, a, c, b, d⟩) ∧ Below w.heap.size w w' := by
  unfold Cfg.v
  go_enter Try.func23, Try.ntmps23
  go_wp2
  exact bodyPost_ret (v := .agg #[.string ⟨#[97]⟩, .int .i64 0, .int .i64 a, .int .i64 c, .int .i64 b, .int .i64 d]) (by simp [results, Try.results23, go_sem]) rfl ⟨rfl, by (repeat (first | with_reducible exact Grow.G.refl _ | with_reducible exact Below.refl _ _ | with_reducible refine Grow.G.alloc ?_ _ | with_reducible refine Grow.G.trans ?_ hb1 | ((with_reducible refine Below.setCell ?_ ?_ _); rotate_left; (focus (first | omega | (simp; done) | (simp; omega)))) | with_reducible assumption | with_reducible refine Grow.G.trans ?_ (by with_reducible assumption)))⟩

theorem cfg_eq (c : Cfg) (v : Int) (w : World) (hs : c.nm.size ≤ maxLen) (h : c.err = v) : Calls Try.prog 13 #[c.v] w fun x w' => x = .returned (.int .i64 v) ∧ Below w.heap.size w w' := h ▸ config_any c w hs
theorem nil_sl (w : World) (a : Option Addr) : TgtSl w a [] := .inl rfl
theorem known2_route (w : World) : Calls Try.prog 19 #[.agg #[.string ⟨#[97]⟩, .string ⟨#[98]⟩, .slice none 0 0, .int .i64 0]] w fun x w' => x = .returned (.int .i64 3) ∧ Below w.heap.size w w' := by
  have := route_any ⟨#[97]⟩ ⟨#[98]⟩ none [] 0 0 w (by decide) (by decide) (by decide) (nil_sl w none) (fun i h => by simp at h)
  rw [show routeE ⟨#[97]⟩ ⟨#[98]⟩ [] 0 = 3 by decide +kernel] at this
  exact this
theorem known2_any (w : World) : Calls Try.prog 11 #[] w fun e w' => e = .returned (.bool true) ∧ Below w.heap.size w w' := by
  have K1 := Lib.hid (fun w => cfg_eq ⟨⟨#[97]⟩, 0, 1, 0, 1, 0⟩ 0 w (by decide) (by decide +kernel))
  have K2 := Lib.hid (fun w => cfg_eq ⟨⟨#[97]⟩, 0, 1, 0, 0, 0⟩ 2 w (by decide) (by decide +kernel))
  unfold Cfg.v at K1 K2
  go_enter Try.func11, Try.ntmps11
  go_wp2_with fail
  refine (known2_route _).mono ?_
  rintro e wn1 ⟨rfl, hbn⟩
  have C1 := Lib.hid (Grow.G.trans (Grow.G.refl w) hbn)
  clear hbn
  go_wp2_with fail
  refine (K1.out _).mono ?_
  rintro e wn2 ⟨rfl, hbn⟩
  have C2 := Lib.hid (Grow.G.trans C1.out hbn)
  clear hbn
  go_wp2_with fail
  refine (K2.out _).mono ?_
  rintro e wn3 ⟨rfl, hbn⟩
  have C3 := Lib.hid (Grow.G.trans C2.out hbn)
  clear hbn
  go_wp2_with fail
  go_ret
  exact ⟨rfl, C3.out⟩
end Go.Proofs.Ytpmhmegjckhbmaa

/- What spec.Route answers. -/
import Derived.Test.YtpmhmegjckhbmaaSpec4
namespace Go.Proofs.Ytpmhmegjckhbmaa
set_option linter.unusedVariables false
set_option linter.unusedSimpArgs false
set_option linter.unnecessarySimpa false
open Go.RowKit

theorem unl_zero {b : Bool} {e : Int} (he : e ≠ 0) (h : unl b e = 0) : b = true := by
  cases b
  · exact absurd h he
  · rfl
def routeL (nm cf : ByteArray) (ts : List Tgt) (rl : Int) : List Int :=
  [unl (nameB 16 nm && nameB 16 cf) 1, unl (inB rl 0 60) 2, unl (inB ts.length 1 6) 3, eachE ts, unl (!dupT ts) 5, unl (sumT ts == 100) 4]
def routeE (nm cf : ByteArray) (ts : List Tgt) (rl : Int) : Int := fst0 (routeL nm cf ts rl)
theorem fst0_zero : ∀ (L : List Int), fst0 L = 0 → ∀ j, j < L.length → L.getD j 0 = 0
  | [], _, j, h => by simp at h
  | a :: l, h, j, hj => by
    unfold fst0 at h
    split at h
    · rename_i ha
      cases j with
      | zero => simpa using ha
      | succ j => simpa using fst0_zero l h j (by simpa using hj)
    · rename_i ha; exact absurd h ha
theorem err_pc {t : Tgt} (h : t.err = 0) : 0 ≤ t.pc ∧ t.pc ≤ 100 := by
  unfold Tgt.err at h
  cases hn : t.nmd <;> simp [hn] at h
  by_cases hb : inB t.pc 0 100 = true
  · exact inB_iff.1 hb
  · simp [hb] at h
theorem each_pc {ts : List Tgt} (h : eachE ts = 0) : ∀ i, i < ts.length → 0 ≤ (ts.getD i tg0).pc ∧ (ts.getD i tg0).pc ≤ 100 := fun i hi => by
  have := fst0_zero _ h i (by simpa using hi)
  rw [getD_map Tgt.err ts i tg0 0 hi] at this
  exact err_pc this

set_option maxRecDepth 100000 in
set_option maxHeartbeats 1000000 in
theorem route_any (nm cf : ByteArray) (a : Option Addr) (ts : List Tgt) (c : Nat) (rl : Int) (w : World) (h1 : nm.size ≤ maxLen) (h2 : cf.size ≤ maxLen) (hl : ts.length ≤ maxLen) (ht : TgtSl w a ts) (hk : ∀ i, i < ts.length → (ts.getD i tg0).ok) :
    Calls Try.prog 19 #[rtV nm cf (.slice a ts.length c) rl] w fun x w' => x = .returned (.int .i64 (routeE nm cf ts rl)) ∧ Below w.heap.size w w' := by
  have HT := Lib.hid ht
  have C0 := Lib.hid (fun w => rnamed_any nm cf a ts.length c rl w h1 h2)
  have C1 := Lib.hid (fun w => rrolled_any nm cf a ts.length c rl w)
  have C2 := Lib.hid (fun w => rcounted_any nm cf a ts.length c rl w)
  have C3 := Lib.hid (fun w h => each_any nm cf a ts c rl w hl h hk)
  have C4 := Lib.hid (fun w hl h => tags_any nm cf a ts c rl w hl h)
  have C5 := Lib.hid (fun w hl h hk => sum_any nm cf a ts c rl w hl h hk)
  clear hk ht
  unfold rtV at *
  go_enter Try.func19, Try.ntmps19
  go_wp2_with fail
  refine (first_any _ (routeL nm cf ts rl) (fun | 0 => 29 | 1 => 30 | 2 => 31 | 3 => 32 | 4 => 33 | _ => 34) (fun _ => .agg #[.string nm, .string cf, .slice a ts.length c, .int .i64 rl]) _ (by show 6 ≤ 100; decide) ?_ ?_ ?_).mono ?_
  · intro i hi
    match i, hi with
    | 0, _ | 1, _ | 2, _ | 3, _ | 4, _ | 5, _ => go_simp
  · intro i hi args w'
    match i, hi with
    | 0, _ | 1, _ | 2, _ | 3, _ | 4, _ | 5, _ => go_simp
  · intro i hi hz w' hg
    have hg' : Grow.G w w' := Grow.G.trans (by (repeat (first | with_reducible exact Grow.G.refl _ | with_reducible exact Below.refl _ _ | with_reducible refine Grow.G.alloc ?_ _ | with_reducible refine Grow.G.trans ?_ hb1 | ((with_reducible refine Below.setCell ?_ ?_ _); rotate_left; (focus (first | omega | (simp; done) | (simp; omega)))) | with_reducible assumption | with_reducible refine Grow.G.trans ?_ (by with_reducible assumption)))) hg
    match i, hi with
    | 0, _ => exact C0.out w'
    | 1, _ => exact C1.out w'
    | 2, _ => exact C2.out w'
    | 3, _ => exact C3.out w' (HT.out.later hg')
    | 4, _ =>
      have := inB_iff.1 (unl_zero (by decide) (hz 2 (by omega)))
      exact C4.out w' (by omega) (HT.out.later hg')
    | 5, _ =>
      have := inB_iff.1 (unl_zero (by decide) (hz 2 (by omega)))
      exact C5.out w' (by omega) (HT.out.later hg') (each_pc (hz 3 (by omega)))
  rintro e w1 ⟨rfl, hb⟩
  go_wp2_with fail
  go_ret
  exact ⟨rfl, by (repeat (first | with_reducible exact Grow.G.refl _ | with_reducible exact Below.refl _ _ | with_reducible refine Grow.G.alloc ?_ _ | with_reducible refine Grow.G.trans ?_ hb1 | ((with_reducible refine Below.setCell ?_ ?_ _); rotate_left; (focus (first | omega | (simp; done) | (simp; omega)))) | with_reducible assumption | with_reducible refine Grow.G.trans ?_ (by with_reducible assumption)))⟩

theorem rcfg_any (c : Cfg) (w : World) (hs : c.nm.size ≤ maxLen) :
    Calls Try.prog 14 #[c.v] w fun x w' => x = .returned (.int .i64 c.err) ∧ Below w.heap.size w w' := by
  obtain ⟨nm, im, co, mn, mx, gr⟩ := c
  unfold Cfg.v Cfg.err Cfg.num
  simp only
  go_enter Try.func14, Try.ntmps14
  go_wp2_with (go_at_call 27; (with_reducible refine (rname_any _ _ hs).mono ?_); rintro e w' ⟨rfl, rfl⟩)
  all_goals
    go_ret
    exact ⟨ret_i64 (by simp_all [inB] <;> omega), by (repeat (first | with_reducible exact Grow.G.refl _ | with_reducible exact Below.refl _ _ | with_reducible refine Grow.G.alloc ?_ _ | with_reducible refine Grow.G.trans ?_ hb1 | ((with_reducible refine Below.setCell ?_ ?_ _); rotate_left; (focus (first | omega | (simp; done) | (simp; omega)))) | with_reducible assumption | with_reducible refine Grow.G.trans ?_ (by with_reducible assumption)))⟩
end Go.Proofs.Ytpmhmegjckhbmaa

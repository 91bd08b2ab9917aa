/- What spec's small checks answer. -/
import Derived.Test.YtpmhmegjckhbmaaParse
import Derived.Test.YtpmhmegjckhbmaaRegion
namespace Go.Proofs.Ytpmhmegjckhbmaa
set_option linter.unusedVariables false
set_option linter.unusedSimpArgs false
set_option linter.unnecessarySimpa false
open Go.RowKit

def inB (n a b : Int) : Bool := decide (a ≤ n ∧ n ≤ b)
theorem inB_iff {n a b : Int} : inB n a b = true ↔ a ≤ n ∧ n ≤ b := by simp [inB]
def unl (b : Bool) (e : Int) : Int := if b then 0 else e

theorem unless_any (b : Bool) (e : Int) (w : World) :
    Calls Try.prog 39 #[.bool b, .int .i64 e] w fun x w' => x = .returned (.int .i64 (unl b e)) ∧ w = w' := by
  cases b
  all_goals
    go_enter Try.func39, Try.ntmps39
    go_wp2
    go_ret
    exact ⟨rfl, rfl⟩
theorem swithin_any (n a b : Int) (w : World) :
    Calls Try.prog 41 #[.int .i64 n, .int .i64 a, .int .i64 b] w fun x w' => x = .returned (.bool (inB n a b)) ∧ w = w' := by
  go_enter Try.func41, Try.ntmps41
  go_wp2
  all_goals
    go_ret
    exact ⟨ret_bool (by rw [Bool.eq_iff_iff]; simp [inB] <;> omega), rfl⟩

/-- A configuration's fields. -/
structure Cfg where
  nm : ByteArray
  im : Int
  co : Int
  mn : Int
  mx : Int
  gr : Int
deriving DecidableEq
def Cfg.v (c : Cfg) : Value := .agg #[.string c.nm, .int .i64 c.im, .int .i64 c.co, .int .i64 c.mn, .int .i64 c.mx, .int .i64 c.gr]
def Cfg.num (c : Cfg) : Bool := inB c.im 0 255 && inB c.co 1 8 && inB c.mx 1 10 && inB c.mn 0 c.mx && inB c.gr 0 30
def Cfg.err (c : Cfg) : Int := if nameB 16 c.nm then (if c.num then 0 else 2) else 1

theorem cnamed_any (c : Cfg) (w : World) (hs : c.nm.size ≤ maxLen) :
    Calls Try.prog 25 #[c.v] w fun x w' => x = .returned (.int .i64 (unl (nameB 16 c.nm) 1)) ∧ Below w.heap.size w w' := by
  obtain ⟨nm, im, co, mn, mx, gr⟩ := c
  unfold Cfg.v
  go_enter Try.func25, Try.ntmps25
  go_wp2_with (first | (go_at_call 40; (with_reducible refine (name_any _ _ hs).mono ?_); rintro e w' ⟨rfl, hb⟩; have ⟨hbc, hbf, hbz⟩ := bcell hb) | (go_at_call 39; (with_reducible refine (unless_any _ _ _).mono ?_); rintro e w' ⟨rfl, rfl⟩))
  go_ret
  exact ⟨rfl, by (repeat (first | with_reducible exact Grow.G.refl _ | with_reducible exact Below.refl _ _ | with_reducible refine Grow.G.alloc ?_ _ | with_reducible refine Grow.G.trans ?_ hb1 | ((with_reducible refine Below.setCell ?_ ?_ _); rotate_left; (focus (first | omega | (simp; done) | (simp; omega)))) | with_reducible assumption | with_reducible refine Grow.G.trans ?_ (by with_reducible assumption)))⟩
theorem cnumbers_any (c : Cfg) (w : World) :
    Calls Try.prog 26 #[c.v] w fun x w' => x = .returned (.int .i64 (unl c.num 2)) ∧ Below w.heap.size w w' := by
  obtain ⟨nm, im, co, mn, mx, gr⟩ := c
  unfold Cfg.v Cfg.num
  simp only
  go_enter Try.func26, Try.ntmps26
  go_wp2_with (first | (go_at_call 41; (with_reducible refine (swithin_any _ _ _ _).mono ?_); rintro e w' ⟨rfl, rfl⟩) | (go_at_call 39; (with_reducible refine (unless_any _ _ _).mono ?_); rintro e w' ⟨rfl, rfl⟩))
  all_goals
    go_ret
    exact ⟨ret_i64 (by simp [*]), by (repeat (first | with_reducible exact Grow.G.refl _ | with_reducible exact Below.refl _ _ | with_reducible refine Grow.G.alloc ?_ _ | with_reducible refine Grow.G.trans ?_ hb1 | ((with_reducible refine Below.setCell ?_ ?_ _); rotate_left; (focus (first | omega | (simp; done) | (simp; omega)))) | with_reducible assumption | with_reducible refine Grow.G.trans ?_ (by with_reducible assumption)))⟩
/-- A target's fields. -/
structure Tgt where
  rv : ByteArray
  tg : ByteArray
  pc : Int
deriving DecidableEq
def Tgt.v (t : Tgt) : Value := .agg #[.string t.rv, .string t.tg, .int .i64 t.pc]
def revB (s : ByteArray) : Bool := (parse s).isSome
theorem splitAns.isB {s : ByteArray} {e : Ending} (h : splitAns s e) : ∃ c n, e = .returned (.tuple #[.string c, .int .i64 n, .bool (revB s)]) := by
  rcases h with ⟨c, n, hr, he⟩ | ⟨hno, he⟩
  · refine ⟨c, n, ?_⟩
    have : revB s = true := by
      unfold revB
      rcases parse_spec s with ⟨c', n', e, _⟩ | ⟨_, h⟩
      · rw [e]; rfl
      · exact absurd hr (h c n)
    rw [this]; exact he
  · refine ⟨⟨#[]⟩, 0, ?_⟩
    have : revB s = false := by
      unfold revB
      rcases parse_spec s with ⟨c', n', e, h⟩ | ⟨e, _⟩
      · exact absurd h (hno _ _)
      · rw [e]; rfl
    rw [this]; exact he
def strE (s : ByteArray) : Bool := s.toList.isEmpty
def Tgt.nmd (t : Tgt) : Bool := (strE t.rv || revB t.rv) && (strE t.tg || nameB 8 t.tg)
def Tgt.err (t : Tgt) : Int := if t.nmd then (if inB t.pc 0 100 then 0 else 2) else 1
theorem split_b (s : ByteArray) (w : World) (hs : s.size ≤ 281474976710655) :
    Calls Try.prog 48 #[.string s] w fun e w' => (∃ c n, e = .returned (.tuple #[.string c, .int .i64 n, .bool (revB s)])) ∧ Below w.heap.size w w' :=
  (split_any s w hs).mono fun e w' ⟨h, hb⟩ => ⟨h.isB, hb⟩
theorem tnamed_any (t : Tgt) (w : World) (h1 : t.rv.size ≤ 140737488351232) (h2 : t.tg.size ≤ 140737488351232) :
    Calls Try.prog 43 #[t.v] w fun x w' => x = .returned (.int .i64 (unl t.nmd 1)) ∧ Below w.heap.size w w' := by
  obtain ⟨rv, tg, pc⟩ := t
  unfold Tgt.v Tgt.nmd strE
  simp only at *
  go_enter Try.func43, Try.ntmps43
  go_wp2_with fail
  refine (split_b _ _ (by omega)).mono ?_
  rintro e w1 ⟨⟨c, n, rfl⟩, hb1⟩
  have ⟨hbc, hbf, hbz⟩ := bcell hb1
  go_wp2_with (first | (go_at_call 49; (with_reducible refine (tag_any _ _ (by unfold maxLen; omega)).mono ?_); rintro e w' ⟨rfl, hb⟩; have ⟨hbc, hbf, hbz⟩ := bcell hb) | (go_at_call 39; (with_reducible refine (unless_any _ _ _).mono ?_); rintro e w' ⟨rfl, rfl⟩))
  all_goals
    go_ret
    exact ⟨ret_i64 (by generalize rv.toList = x at *; generalize tg.toList = y at *; cases x <;> cases y <;> simp_all), by (repeat (first | with_reducible exact Grow.G.refl _ | with_reducible exact Below.refl _ _ | with_reducible refine Grow.G.alloc ?_ _ | with_reducible refine Grow.G.trans ?_ hb1 | ((with_reducible refine Below.setCell ?_ ?_ _); rotate_left; (focus (first | omega | (simp; done) | (simp; omega)))) | with_reducible assumption | with_reducible refine Grow.G.trans ?_ (by with_reducible assumption)))⟩
theorem tpart_any (t : Tgt) (w : World) :
    Calls Try.prog 44 #[t.v] w fun x w' => x = .returned (.int .i64 (unl (inB t.pc 0 100) 2)) ∧ Below w.heap.size w w' := by
  obtain ⟨rv, tg, pc⟩ := t
  unfold Tgt.v
  go_enter Try.func44, Try.ntmps44
  go_wp2_with (first | (go_at_call 41; (with_reducible refine (swithin_any _ _ _ _).mono ?_); rintro e w' ⟨rfl, rfl⟩) | (go_at_call 39; (with_reducible refine (unless_any _ _ _).mono ?_); rintro e w' ⟨rfl, rfl⟩))
  go_ret
  exact ⟨rfl, by (repeat (first | with_reducible exact Grow.G.refl _ | with_reducible exact Below.refl _ _ | with_reducible refine Grow.G.alloc ?_ _ | with_reducible refine Grow.G.trans ?_ hb1 | ((with_reducible refine Below.setCell ?_ ?_ _); rotate_left; (focus (first | omega | (simp; done) | (simp; omega)))) | with_reducible assumption | with_reducible refine Grow.G.trans ?_ (by with_reducible assumption)))⟩

/-- A route's value: its targets lie in a slice. -/
def rtV (nm cf : ByteArray) (ts : Value) (rl : Int) : Value := .agg #[.string nm, .string cf, ts, .int .i64 rl]
theorem rnamed_any (nm cf : ByteArray) (a : Option Addr) (l c : Nat) (rl : Int) (w : World) (h1 : nm.size ≤ maxLen) (h2 : cf.size ≤ maxLen) :
    Calls Try.prog 29 #[rtV nm cf (.slice a l c) rl] w fun x w' => x = .returned (.int .i64 (unl (nameB 16 nm && nameB 16 cf) 1)) ∧ Below w.heap.size w w' := by
  unfold rtV
  go_enter Try.func29, Try.ntmps29
  go_wp2_with fail
  refine (name_any _ _ h1).mono ?_
  rintro e w1 ⟨rfl, hb1⟩
  have ⟨hbc, hbf, hbz⟩ := bcell hb1
  go_wp2_with (first | (go_at_call 40; (with_reducible refine (name_any _ _ h2).mono ?_); rintro e w' ⟨rfl, hb⟩; have ⟨hbc, hbf, hbz⟩ := bcell hb) | (go_at_call 39; (with_reducible refine (unless_any _ _ _).mono ?_); rintro e w' ⟨rfl, rfl⟩))
  all_goals
    go_ret
    exact ⟨ret_i64 (by simp_all), by (repeat (first | with_reducible exact Grow.G.refl _ | with_reducible exact Below.refl _ _ | with_reducible refine Grow.G.alloc ?_ _ | with_reducible refine Grow.G.trans ?_ hb1 | ((with_reducible refine Below.setCell ?_ ?_ _); rotate_left; (focus (first | omega | (simp; done) | (simp; omega)))) | with_reducible assumption | with_reducible refine Grow.G.trans ?_ (by with_reducible assumption)))⟩
theorem rrolled_any (nm cf : ByteArray) (a : Option Addr) (l c : Nat) (rl : Int) (w : World) :
    Calls Try.prog 30 #[rtV nm cf (.slice a l c) rl] w fun x w' => x = .returned (.int .i64 (unl (inB rl 0 60) 2)) ∧ Below w.heap.size w w' := by
  unfold rtV
  go_enter Try.func30, Try.ntmps30
  go_wp2_with (first | (go_at_call 41; (with_reducible refine (swithin_any _ _ _ _).mono ?_); rintro e w' ⟨rfl, rfl⟩) | (go_at_call 39; (with_reducible refine (unless_any _ _ _).mono ?_); rintro e w' ⟨rfl, rfl⟩))
  go_ret
  exact ⟨rfl, by (repeat (first | with_reducible exact Grow.G.refl _ | with_reducible exact Below.refl _ _ | with_reducible refine Grow.G.alloc ?_ _ | with_reducible refine Grow.G.trans ?_ hb1 | ((with_reducible refine Below.setCell ?_ ?_ _); rotate_left; (focus (first | omega | (simp; done) | (simp; omega)))) | with_reducible assumption | with_reducible refine Grow.G.trans ?_ (by with_reducible assumption)))⟩
theorem rcounted_any (nm cf : ByteArray) (a : Option Addr) (l c : Nat) (rl : Int) (w : World) :
    Calls Try.prog 31 #[rtV nm cf (.slice a l c) rl] w fun x w' => x = .returned (.int .i64 (unl (inB l 1 6) 3)) ∧ Below w.heap.size w w' := by
  unfold rtV
  go_enter Try.func31, Try.ntmps31
  go_wp2_with (first | (go_at_call 41; (with_reducible refine (swithin_any _ _ _ _).mono ?_); rintro e w' ⟨rfl, rfl⟩) | (go_at_call 39; (with_reducible refine (unless_any _ _ _).mono ?_); rintro e w' ⟨rfl, rfl⟩))
  go_ret
  exact ⟨rfl, by (repeat (first | with_reducible exact Grow.G.refl _ | with_reducible exact Below.refl _ _ | with_reducible refine Grow.G.alloc ?_ _ | with_reducible refine Grow.G.trans ?_ hb1 | ((with_reducible refine Below.setCell ?_ ?_ _); rotate_left; (focus (first | omega | (simp; done) | (simp; omega)))) | with_reducible assumption | with_reducible refine Grow.G.trans ?_ (by with_reducible assumption)))⟩
end Go.Proofs.Ytpmhmegjckhbmaa

/- My own texts Spec1, Spec2, Spec3, Spec4, Spec5, Spec6, Spec7, Spec8, laid in one file. -/
import Derived.Test.YtlnffdkaleapbaaGreatZ1
import Derived.Lib.SlicesS
import Derived.Test.YtlnffdkaleapbaaGreatZ2

/- What spec's small checks answer. -/
namespace Go.Proofs.YtlnffdkaleapbaaGreat
set_option maxRecDepth 100000
set_option linter.unusedVariables false
set_option linter.unusedSimpArgs false
set_option linter.unnecessarySimpa false
open Go.RowKit

def inB (n a b : Int) : Bool := decide (a ≤ n ∧ n ≤ b)
theorem inB_iff {n a b : Int} : inB n a b = true ↔ a ≤ n ∧ n ≤ b := by simp [inB]
def unl (b : Bool) (e : Int) : Int := if b then 0 else e

theorem unless_any (b : Bool) (e : Int) (w : World) :
    Calls Tryz.prog 61 #[.bool b, .int .i64 e] w fun x w' => x = .returned (.int .i64 (unl b e)) ∧ w = w' := by
  cases b
  all_goals
    go_enter Tryz.func61, Tryz.ntmps61
    go_wp2
    go_ret
    exact ⟨rfl, rfl⟩
theorem swithin_any (n a b : Int) (w : World) :
    Calls Tryz.prog 63 #[.int .i64 n, .int .i64 a, .int .i64 b] w fun x w' => x = .returned (.bool (inB n a b)) ∧ w = w' := by
  go_enter Tryz.func63, Tryz.ntmps63
  go_wp2
  all_goals
    go_ret
    exact ⟨ret_bool (by rw [Bool.eq_iff_iff]; simp [inB] <;> omega), rfl⟩

/-- A configuration's fields. -/
structure Cfg where
  nm : ByteArray
  im : Int
  co : Int
  mn : Int
  mx : Int
  gr : Int
deriving DecidableEq
def Cfg.v (c : Cfg) : Value := .agg #[.string c.nm, .int .i64 c.im, .int .i64 c.co, .int .i64 c.mn, .int .i64 c.mx, .int .i64 c.gr]
def Cfg.num (c : Cfg) : Bool := inB c.im 0 255 && inB c.co 1 8 && inB c.mx 1 10 && inB c.mn 0 c.mx && inB c.gr 0 30
def Cfg.err (c : Cfg) : Int := if nameB 16 c.nm then (if c.num then 0 else 2) else 1

theorem cnamed_any (c : Cfg) (w : World) (hs : c.nm.size ≤ maxLen) :
    Calls Tryz.prog 41 #[c.v] w fun x w' => x = .returned (.int .i64 (unl (nameB 16 c.nm) 1)) ∧ Below w.heap.size w w' := by
  obtain ⟨nm, im, co, mn, mx, gr⟩ := c
  unfold Cfg.v
  go_enter Tryz.func41, Tryz.ntmps41
  go_wp2_with (first | (go_at_call 62; (with_reducible refine (name_any _ _ hs).mono ?_); rintro e w' ⟨rfl, hb⟩; have ⟨hbc, hbf, hbz⟩ := bcell hb) | (go_at_call 61; (with_reducible refine (unless_any _ _ _).mono ?_); rintro e w' ⟨rfl, rfl⟩))
  go_ret
  exact ⟨rfl, by (repeat (first | with_reducible exact Grow.G.refl _ | with_reducible exact Below.refl _ _ | with_reducible refine Grow.G.alloc ?_ _ | with_reducible refine Grow.G.trans ?_ hb1 | ((with_reducible refine Below.setCell ?_ ?_ _); rotate_left; (focus (first | omega | (simp; done) | (simp; omega)))) | with_reducible assumption | with_reducible refine Grow.G.trans ?_ (by with_reducible assumption)))⟩
theorem cnumbers_any (c : Cfg) (w : World) :
    Calls Tryz.prog 42 #[c.v] w fun x w' => x = .returned (.int .i64 (unl c.num 2)) ∧ Below w.heap.size w w' := by
  obtain ⟨nm, im, co, mn, mx, gr⟩ := c
  unfold Cfg.v Cfg.num
  simp only
  go_enter Tryz.func42, Tryz.ntmps42
  go_wp2_with (first | (go_at_call 63; (with_reducible refine (swithin_any _ _ _ _).mono ?_); rintro e w' ⟨rfl, rfl⟩) | (go_at_call 61; (with_reducible refine (unless_any _ _ _).mono ?_); rintro e w' ⟨rfl, rfl⟩))
  all_goals
    go_ret
    exact ⟨ret_i64 (by simp [*]), by (repeat (first | with_reducible exact Grow.G.refl _ | with_reducible exact Below.refl _ _ | with_reducible refine Grow.G.alloc ?_ _ | with_reducible refine Grow.G.trans ?_ hb1 | ((with_reducible refine Below.setCell ?_ ?_ _); rotate_left; (focus (first | omega | (simp; done) | (simp; omega)))) | with_reducible assumption | with_reducible refine Grow.G.trans ?_ (by with_reducible assumption)))⟩
/-- A target's fields. -/
structure Tgt where
  rv : ByteArray
  tg : ByteArray
  pc : Int
deriving DecidableEq
def Tgt.v (t : Tgt) : Value := .agg #[.string t.rv, .string t.tg, .int .i64 t.pc]
def revB (s : ByteArray) : Bool := (parse s).isSome
theorem splitAns.isB {s : ByteArray} {e : Ending} (h : splitAns s e) : ∃ c n, e = .returned (.tuple #[.string c, .int .i64 n, .bool (revB s)]) := by
  rcases h with ⟨c, n, hr, he⟩ | ⟨hno, he⟩
  · refine ⟨c, n, ?_⟩
    have : revB s = true := by
      unfold revB
      rcases parse_spec s with ⟨c', n', e, _⟩ | ⟨_, h⟩
      · rw [e]; rfl
      · exact absurd hr (h c n)
    rw [this]; exact he
  · refine ⟨⟨#[]⟩, 0, ?_⟩
    have : revB s = false := by
      unfold revB
      rcases parse_spec s with ⟨c', n', e, h⟩ | ⟨e, _⟩
      · exact absurd h (hno _ _)
      · rw [e]; rfl
    rw [this]; exact he
def strE (s : ByteArray) : Bool := s.toList.isEmpty
def Tgt.nmd (t : Tgt) : Bool := (strE t.rv || revB t.rv) && (strE t.tg || nameB 8 t.tg)
def Tgt.err (t : Tgt) : Int := if t.nmd then (if inB t.pc 0 100 then 0 else 2) else 1
theorem split_b (s : ByteArray) (w : World) (hs : s.size ≤ 281474976710655) :
    Calls Tryz.prog 72 #[.string s] w fun e w' => (∃ c n, e = .returned (.tuple #[.string c, .int .i64 n, .bool (revB s)])) ∧ Below w.heap.size w w' :=
  (split_any s w hs).mono fun e w' ⟨h, hb⟩ => ⟨h.isB, hb⟩
theorem tnamed_any (t : Tgt) (w : World) (h1 : t.rv.size ≤ 140737488351232) (h2 : t.tg.size ≤ 140737488351232) :
    Calls Tryz.prog 66 #[t.v] w fun x w' => x = .returned (.int .i64 (unl t.nmd 1)) ∧ Below w.heap.size w w' := by
  obtain ⟨rv, tg, pc⟩ := t
  unfold Tgt.v Tgt.nmd strE
  simp only at *
  go_enter Tryz.func66, Tryz.ntmps66
  go_wp2_with fail
  refine (split_b _ _ (by omega)).mono ?_
  rintro e w1 ⟨⟨c, n, rfl⟩, hb1⟩
  have ⟨hbc, hbf, hbz⟩ := bcell hb1
  go_wp2_with (first | (go_at_call 73; (with_reducible refine (tag_any _ _ (by unfold maxLen; omega)).mono ?_); rintro e w' ⟨rfl, hb⟩; have ⟨hbc, hbf, hbz⟩ := bcell hb) | (go_at_call 61; (with_reducible refine (unless_any _ _ _).mono ?_); rintro e w' ⟨rfl, rfl⟩))
  all_goals
    go_ret
    exact ⟨ret_i64 (by generalize rv.toList = x at *; generalize tg.toList = y at *; cases x <;> cases y <;> simp_all), by (repeat (first | with_reducible exact Grow.G.refl _ | with_reducible exact Below.refl _ _ | with_reducible refine Grow.G.alloc ?_ _ | with_reducible refine Grow.G.trans ?_ hb1 | ((with_reducible refine Below.setCell ?_ ?_ _); rotate_left; (focus (first | omega | (simp; done) | (simp; omega)))) | with_reducible assumption | with_reducible refine Grow.G.trans ?_ (by with_reducible assumption)))⟩
theorem tpart_any (t : Tgt) (w : World) :
    Calls Tryz.prog 67 #[t.v] w fun x w' => x = .returned (.int .i64 (unl (inB t.pc 0 100) 2)) ∧ Below w.heap.size w w' := by
  obtain ⟨rv, tg, pc⟩ := t
  unfold Tgt.v
  go_enter Tryz.func67, Tryz.ntmps67
  go_wp2_with (first | (go_at_call 63; (with_reducible refine (swithin_any _ _ _ _).mono ?_); rintro e w' ⟨rfl, rfl⟩) | (go_at_call 61; (with_reducible refine (unless_any _ _ _).mono ?_); rintro e w' ⟨rfl, rfl⟩))
  go_ret
  exact ⟨rfl, by (repeat (first | with_reducible exact Grow.G.refl _ | with_reducible exact Below.refl _ _ | with_reducible refine Grow.G.alloc ?_ _ | with_reducible refine Grow.G.trans ?_ hb1 | ((with_reducible refine Below.setCell ?_ ?_ _); rotate_left; (focus (first | omega | (simp; done) | (simp; omega)))) | with_reducible assumption | with_reducible refine Grow.G.trans ?_ (by with_reducible assumption)))⟩

/-- A route's value: its targets lie in a slice. -/
def rtV (nm cf : ByteArray) (ts : Value) (rl : Int) : Value := .agg #[.string nm, .string cf, ts, .int .i64 rl]
theorem rnamed_any (nm cf : ByteArray) (a : Option Addr) (l c : Nat) (rl : Int) (w : World) (h1 : nm.size ≤ maxLen) (h2 : cf.size ≤ maxLen) :
    Calls Tryz.prog 47 #[rtV nm cf (.slice a l c) rl] w fun x w' => x = .returned (.int .i64 (unl (nameB 16 nm && nameB 16 cf) 1)) ∧ Below w.heap.size w w' := by
  unfold rtV
  go_enter Tryz.func47, Tryz.ntmps47
  go_wp2_with fail
  refine (name_any _ _ h1).mono ?_
  rintro e w1 ⟨rfl, hb1⟩
  have ⟨hbc, hbf, hbz⟩ := bcell hb1
  go_wp2_with (first | (go_at_call 62; (with_reducible refine (name_any _ _ h2).mono ?_); rintro e w' ⟨rfl, hb⟩; have ⟨hbc, hbf, hbz⟩ := bcell hb) | (go_at_call 61; (with_reducible refine (unless_any _ _ _).mono ?_); rintro e w' ⟨rfl, rfl⟩))
  all_goals
    go_ret
    exact ⟨ret_i64 (by simp_all), by (repeat (first | with_reducible exact Grow.G.refl _ | with_reducible exact Below.refl _ _ | with_reducible refine Grow.G.alloc ?_ _ | with_reducible refine Grow.G.trans ?_ hb1 | ((with_reducible refine Below.setCell ?_ ?_ _); rotate_left; (focus (first | omega | (simp; done) | (simp; omega)))) | with_reducible assumption | with_reducible refine Grow.G.trans ?_ (by with_reducible assumption)))⟩
theorem rrolled_any (nm cf : ByteArray) (a : Option Addr) (l c : Nat) (rl : Int) (w : World) :
    Calls Tryz.prog 48 #[rtV nm cf (.slice a l c) rl] w fun x w' => x = .returned (.int .i64 (unl (inB rl 0 60) 2)) ∧ Below w.heap.size w w' := by
  unfold rtV
  go_enter Tryz.func48, Tryz.ntmps48
  go_wp2_with (first | (go_at_call 63; (with_reducible refine (swithin_any _ _ _ _).mono ?_); rintro e w' ⟨rfl, rfl⟩) | (go_at_call 61; (with_reducible refine (unless_any _ _ _).mono ?_); rintro e w' ⟨rfl, rfl⟩))
  go_ret
  exact ⟨rfl, by (repeat (first | with_reducible exact Grow.G.refl _ | with_reducible exact Below.refl _ _ | with_reducible refine Grow.G.alloc ?_ _ | with_reducible refine Grow.G.trans ?_ hb1 | ((with_reducible refine Below.setCell ?_ ?_ _); rotate_left; (focus (first | omega | (simp; done) | (simp; omega)))) | with_reducible assumption | with_reducible refine Grow.G.trans ?_ (by with_reducible assumption)))⟩
theorem rcounted_any (nm cf : ByteArray) (a : Option Addr) (l c : Nat) (rl : Int) (w : World) :
    Calls Tryz.prog 49 #[rtV nm cf (.slice a l c) rl] w fun x w' => x = .returned (.int .i64 (unl (inB l 1 6) 3)) ∧ Below w.heap.size w w' := by
  unfold rtV
  go_enter Tryz.func49, Tryz.ntmps49
  go_wp2_with (first | (go_at_call 63; (with_reducible refine (swithin_any _ _ _ _).mono ?_); rintro e w' ⟨rfl, rfl⟩) | (go_at_call 61; (with_reducible refine (unless_any _ _ _).mono ?_); rintro e w' ⟨rfl, rfl⟩))
  go_ret
  exact ⟨rfl, by (repeat (first | with_reducible exact Grow.G.refl _ | with_reducible exact Below.refl _ _ | with_reducible refine Grow.G.alloc ?_ _ | with_reducible refine Grow.G.trans ?_ hb1 | ((with_reducible refine Below.setCell ?_ ?_ _); rotate_left; (focus (first | omega | (simp; done) | (simp; omega)))) | with_reducible assumption | with_reducible refine Grow.G.trans ?_ (by with_reducible assumption)))⟩

def fst0 : List Int → Int
  | [] => 0
  | a :: l => if a = 0 then fst0 l else a
theorem fst0_at : ∀ (L : List Int) (k : Nat), k < L.length → (∀ j, j < k → L.getD j 0 = 0) → L.getD k 0 ≠ 0 → fst0 L = L.getD k 0
  | [], k, h, _, _ => by simp at h
  | a :: l, 0, _, _, h => by simp at h; simp [fst0, h]
  | a :: l, k + 1, h, h0, h1 => by
    have ha : a = 0 := by simpa using h0 0 (by omega)
    have := fst0_at l k (by simpa using h) (fun j hj => by simpa using h0 (j + 1) (by omega)) (by simpa using h1)
    simp only [fst0, if_pos ha]
    simpa using this
theorem fst0_none : ∀ (L : List Int), (∀ j, j < L.length → L.getD j 0 = 0) → fst0 L = 0
  | [], _ => rfl
  | a :: l, h => by
    have ha : a = 0 := by simpa using h 0 (by simp)
    simp only [fst0, if_pos ha]
    exact fst0_none l fun j hj => by simpa using h (j + 1) (by simpa using hj)

set_option maxHeartbeats 400000 in
theorem first_any (b : Nat) (L : List Int) (fs : Nat → FuncId) (av : Nat → Value) (w : World) (hn : L.length ≤ 100)
    (hc : ∀ i, i < L.length → w.cell? ⟨b, i, none⟩ = some (.func (.func (fs i)) #[av i] #[]))
    (hr : ∀ i, i < L.length → ∀ args w', (callFunc (fs i) args).run Tryz.prog w' = .ok (.enter (fs i) args) w')
    (hf : ∀ i, i < L.length → (∀ j, j < i → L.getD j 0 = 0) → ∀ w', Grow.G w w' → Calls Tryz.prog (fs i) #[av i] w' fun e w'' => e = .returned (.int .i64 (L.getD i 0)) ∧ Grow.G w' w'') :
    Calls Tryz.prog 40 #[.slice (some ⟨b, 0, none⟩) L.length L.length] w fun x w' => x = .returned (.int .i64 (fst0 L)) ∧ Below w.heap.size w w' := by
  have HC := Lib.hid hc
  have HF := Lib.hid hf
  have HR := Lib.hid hr
  clear hc hf hr
  go_enter Tryz.func40, Tryz.ntmps40
  go_wp2
  go_loopw [8] (fun i wr => ∃ k : Nat, k ≤ L.length ∧ i = .int .i64 k ∧ Grow.G w wr ∧ Hid (∀ j, j < k → L.getD j 0 = 0)) (fun i _ => L.length - (intOf i).toNat)
  case atStart => exact ⟨0, by omega, rfl, Grow.G.refl _, fun j h => by omega⟩
  case round =>
    obtain ⟨k, hk, rfl, hg, HK⟩ := hrel
    by_cases hlt : k < L.length
    · have hcell : wr.cell? ⟨b, k, none⟩ = some (.func (.func (fs k)) #[av k] #[]) := cell_later hg (HC.out k hlt)
      have C := Lib.hid (HF.out k hlt HK.out)
      have hrun := HR.out k hlt
      have G := Lib.hid hg
      have FA := Lib.hid (fst0_at L k hlt HK.out)
      generalize hv : L.getD k 0 = v at *
      have HV := Lib.hid hv
      clear hg hv
      go_wp2_with fail
      refine (C.out _ G.out).mono ?_
      rintro e w1 ⟨rfl, hb⟩
      clear hrun hcell
      have G1 := Lib.hid (Grow.G.trans G.out hb)
      clear hb
      by_cases h0 : v = 0
      · subst h0
        go_wp2_with fail
        go_roundw
        case rel => exact ⟨k + 1, by omega, by go_num, G1.out, fun j hj => by
          by_cases e : j = k
          · rw [e]; exact HV.out
          · exact HK.out j (by omega)⟩
        case measure => simp [intOf]; omega
      · have h0' : (v != 0) = true := by simpa using h0
        have FE := Lib.hid (FA.out h0)
        clear h0
        go_wp2_with fail
        go_ret
        exact ⟨ret_i64 FE.out.symm, G1.out⟩
    · have FE := Lib.hid (fst0_none L fun j hj => HK.out j (by omega))
      go_wp2
      go_ret
      exact ⟨ret_i64 FE.out.symm, hg⟩

theorem cfg_err (c : Cfg) : fst0 [unl (nameB 16 c.nm) 1, unl c.num 2] = c.err := by
  unfold Cfg.err unl
  cases nameB 16 c.nm <;> cases c.num <;> rfl
set_option maxHeartbeats 400000 in
theorem config_any (c : Cfg) (w : World) (hs : c.nm.size ≤ maxLen) :
    Calls Tryz.prog 22 #[c.v] w fun x w' => x = .returned (.int .i64 c.err) ∧ Below w.heap.size w w' := by
  have N := Lib.hid (fun w => cnamed_any c w hs)
  have M := Lib.hid (fun w => cnumbers_any c w)
  have E := Lib.hid (cfg_err c)
  obtain ⟨nm, im, co, mn, mx, gr⟩ := c
  unfold Cfg.v at *
  go_enter Tryz.func22, Tryz.ntmps22
  go_wp2_with fail
  refine (first_any _ [unl (nameB 16 nm) 1, unl (Cfg.num ⟨nm, im, co, mn, mx, gr⟩) 2] (fun | 0 => 41 | _ => 42) (fun _ => .agg #[.string nm, .int .i64 im, .int .i64 co, .int .i64 mn, .int .i64 mx, .int .i64 gr]) _ (by show 2 ≤ 100; decide) ?_ ?_ ?_).mono ?_
  · intro i hi
    match i, hi with
    | 0, _ => go_simp
    | 1, _ => go_simp
  · intro i hi args w'
    match i, hi with
    | 0, _ => go_simp
    | 1, _ => go_simp
  · intro i hi _ w' _
    match i, hi with
    | 0, _ => exact N.out w'
    | 1, _ => exact M.out w'
  rintro e w1 ⟨rfl, hb⟩
  go_wp2_with fail
  go_ret
  exact ⟨ret_i64 E.out, by (repeat (first | with_reducible exact Grow.G.refl _ | with_reducible exact Below.refl _ _ | with_reducible refine Grow.G.alloc ?_ _ | with_reducible refine Grow.G.trans ?_ hb1 | ((with_reducible refine Below.setCell ?_ ?_ _); rotate_left; (focus (first | omega | (simp; done) | (simp; omega)))) | with_reducible assumption | with_reducible refine Grow.G.trans ?_ (by with_reducible assumption)))⟩

structure TgtAt (w : World) (b o : Nat) (t : Tgt) : Prop where
  c0 : w.cell? ⟨b, o, none⟩ = some (.string t.rv)
  c1 : w.cell? ⟨b, o + 1, none⟩ = some (.string t.tg)
  c2 : w.cell? ⟨b, o + 1 + 1, none⟩ = some (.int .i64 t.pc)
def tg0 : Tgt := ⟨⟨#[]⟩, ⟨#[]⟩, 0⟩
/-- A slice's targets. -/
def TgtSl (w : World) (a : Option Addr) (ts : List Tgt) : Prop := ts = [] ∨ ∃ b off, a = some ⟨b, off, none⟩ ∧ ∀ i, i < ts.length → TgtAt w b (off + i * 3) (ts.getD i tg0)
theorem TgtAt.later {w w' : World} {b o : Nat} {t : Tgt} (h : TgtAt w b o t) (g : Grow.G w w') : TgtAt w' b o t := ⟨cell_later g h.c0, cell_later g h.c1, cell_later g h.c2⟩
theorem TgtSl.later {w w' : World} {a : Option Addr} {ts : List Tgt} (h : TgtSl w a ts) (g : Grow.G w w') : TgtSl w' a ts :=
  h.imp id fun ⟨b, off, ha, hc⟩ => ⟨b, off, ha, fun i hi => (hc i hi).later g⟩
theorem TgtSl.at {w : World} {a : Option Addr} {ts : List Tgt} (h : TgtSl w a ts) {k : Nat} (hk : k < ts.length) : ∃ b off, a = some ⟨b, off, none⟩ ∧ TgtAt w b (off + k * 3) (ts.getD k tg0) := by
  rcases h with rfl | ⟨b, off, ha, hc⟩
  · simp at hk
  · exact ⟨b, off, ha, hc k hk⟩
def Tgt.ok (t : Tgt) : Prop := t.rv.size ≤ 140737488351232 ∧ t.tg.size ≤ 140737488351232 ∧ wf64 t.pc
theorem getD_map {α β : Type} (f : α → β) (l : List α) (k : Nat) (d : α) (e : β) (h : k < l.length) : (l.map f).getD k e = f (l.getD k d) := by
  simp [List.getD, h]

theorem tgt_err (t : Tgt) : fst0 [unl t.nmd 1, unl (inB t.pc 0 100) 2] = t.err := by
  unfold Tgt.err unl
  cases t.nmd <;> cases inB t.pc 0 100 <;> rfl
def eachE (ts : List Tgt) : Int := fst0 (ts.map Tgt.err)

set_option maxHeartbeats 1000000 in
theorem each_any (nm cf : ByteArray) (a : Option Addr) (ts : List Tgt) (c : Nat) (rl : Int) (w : World) (hl : ts.length ≤ maxLen) (ht : TgtSl w a ts) (hk : ∀ i, i < ts.length → (ts.getD i tg0).ok) :
    Calls Tryz.prog 50 #[rtV nm cf (.slice a ts.length c) rl] w fun x w' => x = .returned (.int .i64 (eachE ts)) ∧ Below w.heap.size w w' := by
  have HT := Lib.hid ht
  have HK := Lib.hid hk
  clear ht hk
  unfold maxLen at hl
  unfold rtV
  go_enter Tryz.func50, Tryz.ntmps50
  go_wp2
  go_loopw [10] (fun i wr => ∃ k : Nat, k ≤ ts.length ∧ i = .int .i64 k ∧ Hid (Grow.G w wr) ∧ Hid (∀ j, j < k → (ts.map Tgt.err).getD j 0 = 0)) (fun i _ => ts.length - (intOf i).toNat)
  case atStart => exact ⟨0, by omega, rfl, (Grow.G.alloc (Grow.G.refl _) _), fun j h => by omega⟩
  case round =>
    obtain ⟨k, hk, rfl, G, H0⟩ := hrel
    by_cases hlt : k < ts.length
    · obtain ⟨b, off, rfl, hat⟩ := (HT.out.later G.out).at hlt
      have OK := HK.out k hlt
      have FA := Lib.hid (fst0_at (ts.map Tgt.err) k (by simpa using hlt) H0.out)
      have GM := Lib.hid (getD_map Tgt.err ts k tg0 0 hlt)
      generalize ts.getD k tg0 = t at *
      have N := Lib.hid (fun w => tnamed_any t w OK.1 OK.2.1)
      have M := Lib.hid (fun w => tpart_any t w)
      have E := Lib.hid (tgt_err t)
      obtain ⟨rv, tg, pc⟩ := t
      unfold Tgt.v at *
      have ⟨c0, c1, c2⟩ := hat
      simp only at c0 c1 c2
      clear hat OK
      go_wp2_with fail
      refine (first_any _ [unl (Tgt.nmd ⟨rv, tg, pc⟩) 1, unl (inB pc 0 100) 2] (fun | 0 => 66 | _ => 67) (fun _ => .agg #[.string rv, .string tg, .int .i64 pc]) _ (by show 2 ≤ 100; decide) ?_ ?_ ?_).mono ?_
      · intro i hi
        match i, hi with
        | 0, _ => go_simp
        | 1, _ => go_simp
      · intro i hi args w'
        match i, hi with
        | 0, _ => go_simp
        | 1, _ => go_simp
      · intro i hi _ w' _
        match i, hi with
        | 0, _ => exact N.out w'
        | 1, _ => exact M.out w'
      rintro e w1 ⟨he, hb⟩
      rw [E.out] at he
      subst he
      have G1 := Lib.hid (show Grow.G w w1 by have := G.out; clear c0 c1 c2; (repeat (first | with_reducible exact Grow.G.refl _ | with_reducible exact Below.refl _ _ | with_reducible refine Grow.G.alloc ?_ _ | with_reducible refine Grow.G.trans ?_ hb1 | ((with_reducible refine Below.setCell ?_ ?_ _); rotate_left; (focus (first | omega | (simp; done) | (simp; omega)))) | with_reducible assumption | with_reducible refine Grow.G.trans ?_ (by with_reducible assumption))))
      clear hb c0 c1 c2
      generalize hv : Tgt.err ⟨rv, tg, pc⟩ = v at *
      have HV := Lib.hid hv
      clear hv
      by_cases h0 : v = 0
      · subst h0
        go_wp2_with fail
        go_roundw
        case rel => exact ⟨k + 1, by omega, by go_num, G1.out, fun j hj => by
          by_cases e : j = k
          · rw [e, GM.out]
          · exact H0.out j (by omega)⟩
        case measure => simp [intOf]; omega
      · have h0' : (v != 0) = true := by simpa using h0
        have FE : Hid (eachE ts = v) := Lib.hid (by unfold eachE; rw [FA.out (by rw [GM.out]; exact h0), GM.out])
        clear h0
        go_wp2_with fail
        go_ret
        exact ⟨ret_i64 FE.out.symm, G1.out⟩
    · have FE : Hid (eachE ts = 0) := Lib.hid (fst0_none _ fun j hj => H0.out j (by rw [List.length_map] at hj; omega))
      go_wp2
      go_ret
      exact ⟨ret_i64 FE.out.symm, G.out⟩

def sumT (ts : List Tgt) : Int := (ts.map Tgt.pc).sum
theorem sumT_snoc (ts : List Tgt) (k : Nat) (h : k < ts.length) : sumT (ts.take (k + 1)) = sumT (ts.take k) + (ts.getD k tg0).pc := by
  unfold sumT
  rw [List.take_succ_eq_append_getElem h, List.map_append, List.sum_append]
  simp [List.getD, h]
theorem sumT_bd (ts : List Tgt) (h : ∀ i, i < ts.length → 0 ≤ (ts.getD i tg0).pc ∧ (ts.getD i tg0).pc ≤ 100) : ∀ k, k ≤ ts.length → 0 ≤ sumT (ts.take k) ∧ sumT (ts.take k) ≤ 100 * k
  | 0, _ => by simp [sumT]
  | k + 1, hk => by
    have := sumT_bd ts h k (by omega)
    have := h k (by omega)
    rw [sumT_snoc ts k (by omega)]; omega

set_option maxHeartbeats 1000000 in
theorem sum_any (nm cf : ByteArray) (a : Option Addr) (ts : List Tgt) (c : Nat) (rl : Int) (w : World) (hl : ts.length ≤ 100) (ht : TgtSl w a ts) (hk : ∀ i, i < ts.length → 0 ≤ (ts.getD i tg0).pc ∧ (ts.getD i tg0).pc ≤ 100) :
    Calls Tryz.prog 52 #[rtV nm cf (.slice a ts.length c) rl] w fun x w' => x = .returned (.int .i64 (unl (sumT ts == 100) 4)) ∧ Below w.heap.size w w' := by
  have HT := Lib.hid ht
  have HK := Lib.hid hk
  clear ht hk
  unfold rtV
  go_enter Tryz.func52, Tryz.ntmps52
  go_wp2
  go_loopw [3, 9] (fun s i wr => ∃ k : Nat, k ≤ ts.length ∧ i = .int .i64 k ∧ s = .int .i64 (sumT (ts.take k)) ∧ Hid (Grow.G w wr)) (fun _ i _ => ts.length - (intOf i).toNat)
  case atStart => exact ⟨0, by omega, rfl, rfl, (Grow.G.alloc (Grow.G.refl _) _)⟩
  case round =>
    obtain ⟨k, hk, rfl, rfl, G⟩ := hrel
    have bd := sumT_bd ts HK.out k hk
    by_cases hlt : k < ts.length
    · obtain ⟨b, off, rfl, hat⟩ := (HT.out.later G.out).at hlt
      have OK := HK.out k hlt
      have SN := Lib.hid (sumT_snoc ts k hlt)
      generalize ts.getD k tg0 = t at *
      generalize sumT (ts.take k) = s at *
      obtain ⟨rv, tg, pc⟩ := t
      have ⟨c0, c1, c2⟩ := hat
      simp only at c0 c1 c2 OK
      clear hat
      go_wp2_with fail
      go_roundw
      case rel => exact ⟨k + 1, by omega, by go_num, by rw [SN.out], by have := G.out; clear c0 c1 c2; show Grow.G _ _; (repeat (first | with_reducible exact Grow.G.refl _ | with_reducible exact Below.refl _ _ | with_reducible refine Grow.G.alloc ?_ _ | with_reducible refine Grow.G.trans ?_ hb1 | ((with_reducible refine Below.setCell ?_ ?_ _); rotate_left; (focus (first | omega | (simp; done) | (simp; omega)))) | with_reducible assumption | with_reducible refine Grow.G.trans ?_ (by with_reducible assumption)))⟩
      case measure => simp [intOf]; omega
    · have e : Hid (ts.take k = ts) := Lib.hid (List.take_of_length_le (by omega))
      rw [e.out] at bd ⊢
      generalize hs : sumT ts = s at *
      have HS := Lib.hid hs
      clear hs
      go_wp2_with (go_at_call 61; (with_reducible refine (unless_any _ _ _).mono ?_); rintro e w' ⟨rfl, rfl⟩)
      go_ret
      exact ⟨ret_i64 (by rw [HS.out]), G.out⟩

def dupF (seen : List ByteArray) : List ByteArray → Bool
  | [] => false
  | t :: l => (!strE t && Lib.containsS seen t) || dupF (seen ++ [t]) l
def dupT (ts : List Tgt) : Bool := dupF [] (ts.map Tgt.tg)
theorem dupF_step (L : List ByteArray) (k : Nat) (h : k < L.length) (d : ByteArray) : dupF (L.take k) (L.drop k) = ((!strE (L.getD k d) && Lib.containsS (L.take k) (L.getD k d)) || dupF (L.take (k + 1)) (L.drop (k + 1))) := by
  rw [List.drop_eq_getElem_cons h, List.take_succ_eq_append_getElem h]
  simp [dupF, List.getD, h]
theorem contains_own (w : World) (base : Nat) (v : Value) (xs : List ByteArray) (x : ByteArray) (hl : xs.length ≤ 9223372036854775807) (h : w.ownsRow base 9 1 v xs.length (xs.map Value.string)) :
    Calls Tryz.prog 68 #[v, .string x] w fun e w' => e = .returned (.bool (Lib.containsS xs x)) ∧ w = w' := by
  rcases h with ⟨hn, ⟨rfl, h0⟩ | ⟨g, cap, cur, rfl, hb, hg, h1, h2, h3, h4⟩⟩
  · have : xs = [] := List.eq_nil_of_length_eq_zero h0
    subst this
    exact (Tryz.slices_Contains_string_empty none 0 x w).mono fun e w' ⟨he, hw⟩ => ⟨by rw [he]; rfl, hw.symm⟩
  · refine (Tryz.slices_Contains_string g 0 xs.length cap xs x w (Nat.le_refl _) hl ?_).mono fun e w' ⟨he, hw⟩ => ⟨?_, hw.symm⟩
    · intro j hj
      have e1 : (cur.toList.take (xs.length * 1))[j]? = some (.string (xs.getD j ByteArray.empty)) := by rw [h4]; simp [List.getD, hj]
      rw [List.getElem?_take_of_lt (by omega)] at e1
      have e2 : cur[j]? = some (.string (xs.getD j ByteArray.empty)) := by simpa using e1
      simp [World.cell?, hg, e2]
    · rw [he, List.take_length]

theorem infoS : (Tryz.prog.info? 9).map (fun i => (i.zero, i.size, i.bytes)) = some (some (.string ⟨#[]⟩), 1, 16) := by kernel_rfl
set_option maxHeartbeats 1000000 in
theorem tags_any (nm cf : ByteArray) (a : Option Addr) (ts : List Tgt) (c : Nat) (rl : Int) (w : World) (hl : ts.length ≤ 100) (ht : TgtSl w a ts) :
    Calls Tryz.prog 51 #[rtV nm cf (.slice a ts.length c) rl] w fun x w' => x = .returned (.int .i64 (unl (!dupT ts) 5)) ∧ Below w.heap.size w w' := by
  have HT := Lib.hid ht
  clear ht
  obtain ⟨i0, hi, hz0, hz1, hz2⟩ := info_parts infoS
  obtain ⟨w₀, rfl⟩ : ∃ w₀, w₀ = w := ⟨_, rfl⟩
  have HI := Lib.hid hi; have HZ0 := Lib.hid hz0; have HZ1 := Lib.hid hz1; have HZ2 := Lib.hid hz2
  clear hi hz0 hz1 hz2
  unfold rtV
  go_enter Tryz.func51, Tryz.ntmps51
  go_wp2
  go_loopw [3, 9] (fun v i wr => ∃ k : Nat, k ≤ ts.length ∧ i = .int .i64 k ∧ Hid (wr.ownsRow (w₀.heap.size + 1) 9 1 v ((ts.map Tgt.tg).take k).length (((ts.map Tgt.tg).take k).map Value.string)) ∧ Hid (Grow.G w₀ wr) ∧ Hid (dupT ts = dupF ((ts.map Tgt.tg).take k) ((ts.map Tgt.tg).drop k))) (fun _ i _ => ts.length - (intOf i).toNat)
  case atStart => exact ⟨0, by omega, rfl, World.ownsRow_nil _ _ _ _, (Grow.G.alloc (Grow.G.refl _) _), rfl⟩
  case round =>
    obtain ⟨k, hk, rfl, OW, G, DU⟩ := hrel
    by_cases hlt : k < ts.length
    · obtain ⟨b, off, rfl, hat⟩ := (HT.out.later G.out).at hlt
      have DS := Lib.hid (dupF_step (ts.map Tgt.tg) k (by simpa using hlt) ⟨#[]⟩)
      have GM := Lib.hid (getD_map Tgt.tg ts k tg0 ⟨#[]⟩ hlt)
      generalize ts.getD k tg0 = t at *
      obtain ⟨rv, tg, pc⟩ := t
      have ⟨c0, c1, c2⟩ := hat
      simp only at c0 c1 c2
      clear hat
      have hlen : ((ts.map Tgt.tg).take k).length = k := by simp; omega
      have CT := Lib.hid (fun (w : World) (x : ByteArray) h => contains_own w (w₀.heap.size + 1) u3 ((ts.map Tgt.tg).take k) x (by omega) h)
      have HL := Lib.hid hlen
      clear hlen
      go_wp2_with (first | (go_at_call 68; (with_reducible refine (CT.out _ _ (OW.out.alloc _)).mono ?_); rintro e w' ⟨rfl, rfl⟩) | (at_builtin; refine wpList_append_own _ rfl _ _ 49 rfl (w₀.heap.size + 1) 9 i0 (.string ⟨#[]⟩) 1 16 Tryz.underlying49 HI.out HZ0.out HZ1.out HZ2.out rfl (by decide) _ _ _ rfl ((OW.out.alloc _).alloc _) ⟨wr.heap.size + 1, 0, none⟩ 1 1 [.string tg] rfl rfl (news_new _ [_] _ _ (by simp)) (one1 rfl) (by have := HL.out; unfold maxLen; omega) (by have := HL.out; omega) (by simp; have := G.out.size; omega) ?_; intro v' w1 hown hgr hnil))
      all_goals first
        | (have G1 := Lib.hid (own_grow (Grow.G.alloc (Grow.G.alloc G.out _) _) ((OW.out.alloc _).alloc _) (by omega) hgr)
           have DN : Hid (dupT ts = dupF ((ts.map Tgt.tg).take (k + 1)) ((ts.map Tgt.tg).drop (k + 1))) := Lib.hid (by rw [DU.out, DS.out, GM.out]; simp_all [strE])
           clear hgr hnil
           go_wp2_with fail
           go_roundw
           case rel => exact ⟨k + 1, by omega, by go_num, own_snoc (d := ⟨#[]⟩) (by simpa using hlt) (by rw [GM.out]; exact hown), G1.out, DN.out⟩
           case measure => simp [intOf]; omega)
        | (have FE : Hid (dupT ts = true) := Lib.hid (by rw [DU.out, DS.out, GM.out]; simp_all [strE])
           go_ret
           exact ⟨ret_i64 (by rw [FE.out]; rfl), Grow.G.alloc G.out _⟩)
    · have FE : Hid (dupT ts = false) := Lib.hid (by rw [DU.out, List.drop_eq_nil_of_le (by simp; omega)]; rfl)
      go_wp2
      go_ret
      exact ⟨ret_i64 (by rw [FE.out]; rfl), G.out⟩

theorem unl_zero {b : Bool} {e : Int} (he : e ≠ 0) (h : unl b e = 0) : b = true := by
  cases b
  · exact absurd h he
  · rfl
def routeL (nm cf : ByteArray) (ts : List Tgt) (rl : Int) : List Int :=
  [unl (nameB 16 nm && nameB 16 cf) 1, unl (inB rl 0 60) 2, unl (inB ts.length 1 6) 3, eachE ts, unl (!dupT ts) 5, unl (sumT ts == 100) 4]
def routeE (nm cf : ByteArray) (ts : List Tgt) (rl : Int) : Int := fst0 (routeL nm cf ts rl)
theorem fst0_zero : ∀ (L : List Int), fst0 L = 0 → ∀ j, j < L.length → L.getD j 0 = 0
  | [], _, j, h => by simp at h
  | a :: l, h, j, hj => by
    unfold fst0 at h
    split at h
    · rename_i ha
      cases j with
      | zero => simpa using ha
      | succ j => simpa using fst0_zero l h j (by simpa using hj)
    · rename_i ha; exact absurd h ha
theorem err_pc {t : Tgt} (h : t.err = 0) : 0 ≤ t.pc ∧ t.pc ≤ 100 := by
  unfold Tgt.err at h
  cases hn : t.nmd <;> simp [hn] at h
  by_cases hb : inB t.pc 0 100 = true
  · exact inB_iff.1 hb
  · simp [hb] at h
theorem each_pc {ts : List Tgt} (h : eachE ts = 0) : ∀ i, i < ts.length → 0 ≤ (ts.getD i tg0).pc ∧ (ts.getD i tg0).pc ≤ 100 := fun i hi => by
  have := fst0_zero _ h i (by simpa using hi)
  rw [getD_map Tgt.err ts i tg0 0 hi] at this
  exact err_pc this

set_option maxRecDepth 100000 in
set_option maxHeartbeats 1000000 in
theorem route_any (nm cf : ByteArray) (a : Option Addr) (ts : List Tgt) (c : Nat) (rl : Int) (w : World) (h1 : nm.size ≤ maxLen) (h2 : cf.size ≤ maxLen) (hl : ts.length ≤ maxLen) (ht : TgtSl w a ts) (hk : ∀ i, i < ts.length → (ts.getD i tg0).ok) :
    Calls Tryz.prog 29 #[rtV nm cf (.slice a ts.length c) rl] w fun x w' => x = .returned (.int .i64 (routeE nm cf ts rl)) ∧ Below w.heap.size w w' := by
  have HT := Lib.hid ht
  have C0 := Lib.hid (fun w => rnamed_any nm cf a ts.length c rl w h1 h2)
  have C1 := Lib.hid (fun w => rrolled_any nm cf a ts.length c rl w)
  have C2 := Lib.hid (fun w => rcounted_any nm cf a ts.length c rl w)
  have C3 := Lib.hid (fun w h => each_any nm cf a ts c rl w hl h hk)
  have C4 := Lib.hid (fun w hl h => tags_any nm cf a ts c rl w hl h)
  have C5 := Lib.hid (fun w hl h hk => sum_any nm cf a ts c rl w hl h hk)
  clear hk ht
  unfold rtV at *
  go_enter Tryz.func29, Tryz.ntmps29
  go_wp2_with fail
  refine (first_any _ (routeL nm cf ts rl) (fun | 0 => 47 | 1 => 48 | 2 => 49 | 3 => 50 | 4 => 51 | _ => 52) (fun _ => .agg #[.string nm, .string cf, .slice a ts.length c, .int .i64 rl]) _ (by show 6 ≤ 100; decide) ?_ ?_ ?_).mono ?_
  · intro i hi
    match i, hi with
    | 0, _ | 1, _ | 2, _ | 3, _ | 4, _ | 5, _ => go_simp
  · intro i hi args w'
    match i, hi with
    | 0, _ | 1, _ | 2, _ | 3, _ | 4, _ | 5, _ => go_simp
  · intro i hi hz w' hg
    have hg' : Grow.G w w' := Grow.G.trans (by (repeat (first | with_reducible exact Grow.G.refl _ | with_reducible exact Below.refl _ _ | with_reducible refine Grow.G.alloc ?_ _ | with_reducible refine Grow.G.trans ?_ hb1 | ((with_reducible refine Below.setCell ?_ ?_ _); rotate_left; (focus (first | omega | (simp; done) | (simp; omega)))) | with_reducible assumption | with_reducible refine Grow.G.trans ?_ (by with_reducible assumption)))) hg
    match i, hi with
    | 0, _ => exact C0.out w'
    | 1, _ => exact C1.out w'
    | 2, _ => exact C2.out w'
    | 3, _ => exact C3.out w' (HT.out.later hg')
    | 4, _ =>
      have := inB_iff.1 (unl_zero (by decide) (hz 2 (by omega)))
      exact C4.out w' (by omega) (HT.out.later hg')
    | 5, _ =>
      have := inB_iff.1 (unl_zero (by decide) (hz 2 (by omega)))
      exact C5.out w' (by omega) (HT.out.later hg') (each_pc (hz 3 (by omega)))
  rintro e w1 ⟨rfl, hb⟩
  go_wp2_with fail
  go_ret
  exact ⟨rfl, by (repeat (first | with_reducible exact Grow.G.refl _ | with_reducible exact Below.refl _ _ | with_reducible refine Grow.G.alloc ?_ _ | with_reducible refine Grow.G.trans ?_ hb1 | ((with_reducible refine Below.setCell ?_ ?_ _); rotate_left; (focus (first | omega | (simp; done) | (simp; omega)))) | with_reducible assumption | with_reducible refine Grow.G.trans ?_ (by with_reducible assumption)))⟩

theorem rcfg_any (c : Cfg) (w : World) (hs : c.nm.size ≤ maxLen) :
    Calls Tryz.prog 27 #[c.v] w fun x w' => x = .returned (.int .i64 c.err) ∧ Below w.heap.size w w' := by
  obtain ⟨nm, im, co, mn, mx, gr⟩ := c
  unfold Cfg.v Cfg.err Cfg.num
  simp only
  go_enter Tryz.func27, Tryz.ntmps27
  go_wp2_with (go_at_call 45; (with_reducible refine (rname_any _ _ hs).mono ?_); rintro e w' ⟨rfl, rfl⟩)
  all_goals
    go_ret
    exact ⟨ret_i64 (by simp_all [inB] <;> omega), by (repeat (first | with_reducible exact Grow.G.refl _ | with_reducible exact Below.refl _ _ | with_reducible refine Grow.G.alloc ?_ _ | with_reducible refine Grow.G.trans ?_ hb1 | ((with_reducible refine Below.setCell ?_ ?_ _); rotate_left; (focus (first | omega | (simp; done) | (simp; omega)))) | with_reducible assumption | with_reducible refine Grow.G.trans ?_ (by with_reducible assumption)))⟩

theorem rrev_b (s : ByteArray) (w : World) (hs : s.size ≤ 281474976710655) :
    Calls Tryz.prog 56 #[.string s] w fun e w' => e = .returned (.bool (revB s)) ∧ w = w' := by
  go_enter Tryz.func56, Tryz.ntmps56
  go_wp2_with fail
  refine (rsplit_any s w hs).mono ?_
  rintro e w1 ⟨ha, rfl⟩
  obtain ⟨c, n, rfl⟩ := ha.isB
  go_wp2_with fail
  go_ret
  exact ⟨rfl, rfl⟩
theorem routeE_each {nm cf : ByteArray} {ts : List Tgt} {rl : Int} (h1 : nameB 16 nm = true) (h2 : nameB 16 cf = true) (h3 : inB rl 0 60 = true) (h4 : inB ts.length 1 6 = true) : routeE nm cf ts rl = if eachE ts = 0 then (if dupT ts then 5 else if sumT ts == 100 then 0 else 4) else eachE ts := by
  unfold routeE routeL
  simp only [h1, h2, h3, h4, Bool.and_self]
  cases dupT ts <;> cases (sumT ts == 100) <;> simp [fst0, unl]
theorem eachE_at {ts : List Tgt} {k : Nat} (hk : k < ts.length) (h0 : ∀ j, j < k → (ts.getD j tg0).err = 0) (h : (ts.getD k tg0).err ≠ 0) : eachE ts = (ts.getD k tg0).err := by
  unfold eachE
  have e : ∀ j, j < ts.length → (ts.map Tgt.err).getD j 0 = (ts.getD j tg0).err := fun j hj => getD_map Tgt.err ts j tg0 0 hj
  rw [fst0_at _ k (by simpa using hk) (fun j hj => by rw [e j (by omega)]; exact h0 j hj) (by rw [e k hk]; exact h), e k hk]
theorem eachE_none {ts : List Tgt} (h0 : ∀ j, j < ts.length → (ts.getD j tg0).err = 0) : eachE ts = 0 :=
  fst0_none _ fun j hj => by rw [List.length_map] at hj; rw [getD_map Tgt.err ts j tg0 0 hj]; exact h0 j hj

theorem err1a {rv tg : ByteArray} {pc : Int} (h : ¬ rv.toList = []) (h2 : revB rv = false) : Tgt.err ⟨rv, tg, pc⟩ = 1 := by
  unfold Tgt.err Tgt.nmd strE; cases e : rv.toList <;> simp_all
theorem err1b {rv tg : ByteArray} {pc : Int} (h : ¬ tg.toList = []) (h2 : nameB 8 tg = false) : Tgt.err ⟨rv, tg, pc⟩ = 1 := by
  unfold Tgt.err Tgt.nmd strE; cases e : tg.toList <;> simp_all
theorem err2 {rv tg : ByteArray} {pc : Int} (h : rv.toList = [] ∨ revB rv = true) (h2 : tg.toList = [] ∨ nameB 8 tg = true) (h3 : pc < 0 ∨ 100 < pc) : Tgt.err ⟨rv, tg, pc⟩ = 2 := by
  unfold Tgt.err Tgt.nmd strE
  have : inB pc 0 100 = false := decide_eq_false (by omega)
  rcases h with h | h <;> rcases h2 with h2 | h2 <;> simp [h, h2, this]
theorem err0 {rv tg : ByteArray} {pc : Int} (h : rv.toList = [] ∨ revB rv = true) (h2 : tg.toList = [] ∨ nameB 8 tg = true) (h3 : 0 ≤ pc ∧ pc ≤ 100) : Tgt.err ⟨rv, tg, pc⟩ = 0 := by
  unfold Tgt.err Tgt.nmd strE
  have : inB pc 0 100 = true := decide_eq_true (by omega)
  rcases h with h | h <;> rcases h2 with h2 | h2 <;> simp [h, h2, this]

set_option maxRecDepth 100000 in
set_option maxHeartbeats 1000000 in
theorem rroute_no (nm cf : ByteArray) (a : Option Addr) (ts : List Tgt) (c : Nat) (rl : Int) (w : World) (h1 : nm.size ≤ maxLen) (h2 : cf.size ≤ maxLen) (hl : ts.length ≤ maxLen)
    (h : (nameB 16 nm && nameB 16 cf && inB rl 0 60 && inB ts.length 1 6) = false) :
    Calls Tryz.prog 32 #[rtV nm cf (.slice a ts.length c) rl] w fun x w' => x = .returned (.int .i64 (routeE nm cf ts rl)) ∧ Below w.heap.size w w' := by
  have RL : Hid (routeE nm cf ts rl = if (nameB 16 nm && nameB 16 cf) = false then 1 else if inB rl 0 60 = false then 2 else 3) := Lib.hid (by
    unfold routeE routeL
    cases e1 : nameB 16 nm <;> cases e2 : nameB 16 cf <;> cases h3 : inB rl 0 60 <;> cases h4 : inB ts.length 1 6 <;> simp_all [fst0, unl])
  have HB := Lib.hid h
  clear h
  unfold rtV
  go_enter Tryz.func32, Tryz.ntmps32
  go_wp2_with fail
  refine (rname_any _ _ h1).mono ?_
  rintro e w1 ⟨rfl, rfl⟩
  go_wp2_with (go_at_call 45; (with_reducible refine (rname_any _ _ h2).mono ?_); rintro e w' ⟨rfl, rfl⟩)
  all_goals first
    | (go_ret; refine ⟨ret_i64 ?_, by (repeat (first | with_reducible exact Grow.G.refl _ | with_reducible exact Below.refl _ _ | with_reducible refine Grow.G.alloc ?_ _ | with_reducible refine Grow.G.trans ?_ hb1 | ((with_reducible refine Below.setCell ?_ ?_ _); rotate_left; (focus (first | omega | (simp; done) | (simp; omega)))) | with_reducible assumption | with_reducible refine Grow.G.trans ?_ (by with_reducible assumption)))⟩; rw [RL.out]; simp_all [inB]; done)
    | (go_ret; refine ⟨ret_i64 ?_, by (repeat (first | with_reducible exact Grow.G.refl _ | with_reducible exact Below.refl _ _ | with_reducible refine Grow.G.alloc ?_ _ | with_reducible refine Grow.G.trans ?_ hb1 | ((with_reducible refine Below.setCell ?_ ?_ _); rotate_left; (focus (first | omega | (simp; done) | (simp; omega)))) | with_reducible assumption | with_reducible refine Grow.G.trans ?_ (by with_reducible assumption)))⟩; rw [RL.out]; simp_all [inB]; omega)
    | (exfalso; have := HB.out; simp_all [inB]; done)
    | (exfalso; have := HB.out; simp_all [inB]; omega)

set_option maxRecDepth 100000 in
set_option maxHeartbeats 2000000 in
theorem rroute_yes (nm cf : ByteArray) (a : Option Addr) (ts : List Tgt) (c : Nat) (rl : Int) (w : World) (h1 : nm.size ≤ maxLen) (h2 : cf.size ≤ maxLen) (ht : TgtSl w a ts) (hk : ∀ i, i < ts.length → (ts.getD i tg0).ok)
    (hn : nameB 16 nm = true) (hc : nameB 16 cf = true) (hr : inB rl 0 60 = true) (hi : inB ts.length 1 6 = true) :
    Calls Tryz.prog 32 #[rtV nm cf (.slice a ts.length c) rl] w fun x w' => x = .returned (.int .i64 (routeE nm cf ts rl)) ∧ Below w.heap.size w w' := by
  have RL := Lib.hid (routeE_each hn hc hr hi)
  have N1 := Lib.hid (fun w => (rname_any nm w h1).mono fun e w' ⟨he, hw⟩ => (⟨by rw [he, hn], hw⟩ : e = Ending.returned (.bool true) ∧ w = w'))
  have N2 := Lib.hid (fun w => (rname_any cf w h2).mono fun e w' ⟨he, hw⟩ => (⟨by rw [he, hc], hw⟩ : e = Ending.returned (.bool true) ∧ w = w'))
  have hr' := inB_iff.1 hr
  have hi' := inB_iff.1 hi
  have hl1 : 1 ≤ ts.length := by omega
  have hl6 : ts.length ≤ 6 := by omega
  have HT := Lib.hid ht
  have HK := Lib.hid hk
  have hd1 : decide (ts.length < 1) = false := decide_eq_false (by omega)
  have hd2 : decide (6 < ts.length) = false := decide_eq_false (by omega)
  clear ht hk hn hc hr hi hi'
  unfold rtV
  go_enter Tryz.func32, Tryz.ntmps32
  go_wp2_with fail
  refine (N1.out _).mono ?_
  rintro e wx ⟨rfl, rfl⟩
  go_wp2_with (go_at_call 45; (with_reducible refine (N2.out _).mono ?_); rintro e w' ⟨rfl, rfl⟩)
  go_loopw [3] (fun i wr => ∃ k : Nat, k ≤ ts.length ∧ i = .int .i64 k ∧ Hid (Grow.G w wr) ∧ wr.cell? ⟨w.heap.size, 2, none⟩ = some (.slice a ts.length c) ∧ Hid (∀ j, j < k → (ts.getD j tg0).err = 0)) (fun i _ => ts.length - (intOf i).toNat)
  case atStart => exact ⟨0, by omega, rfl, (Grow.G.alloc (Grow.G.refl _) _), by go_simp, fun j h => by omega⟩
  case round =>
    obtain ⟨k, hk, rfl, G, hcs, H0⟩ := hrel
    by_cases hlt : k < ts.length
    · obtain ⟨b, off, rfl, hat⟩ := (HT.out.later G.out).at hlt
      have OK := HK.out k hlt
      have EA := Lib.hid (fun h => eachE_at hlt H0.out h)
      have HX := Lib.hid (show ∀ j, j < k + 1 → j ≠ k → (ts.getD j tg0).err = 0 from fun j hj hne => H0.out j (by omega))
      generalize hT : ts.getD k tg0 = t at *
      have HT' := Lib.hid hT
      clear hT
      have ⟨c0, c1, c2⟩ := hat
      clear hat
      have RV := Lib.hid (fun w => rrev_b t.rv w (by have := OK.1; omega))
      have TG := Lib.hid (fun w => rtag_any t.tg w (by have := OK.2.1; unfold maxLen; omega))
      obtain ⟨rv, tg, pc⟩ := t
      simp only at c0 c1 c2 RV TG
      clear OK
      go_wp2_with (first | (go_at_call 56; (with_reducible refine (RV.out _).mono ?_); rintro e w' ⟨rfl, rfl⟩) | (go_at_call 57; (with_reducible refine (TG.out _).mono ?_); rintro e w' ⟨rfl, rfl⟩))
      all_goals first
        | (have EE : Hid (Tgt.err ⟨rv, tg, pc⟩ = 1) := by first | (refine Lib.hid (err1a ?_ ?_) <;> (first | assumption | (simp_all; done))) | (refine Lib.hid (err1b ?_ ?_) <;> (first | assumption | (simp_all; done)))
           have RE : Hid (routeE nm cf ts rl = 1) := Lib.hid (by rw [RL.out, EA.out (by rw [EE.out]; decide), EE.out]; rfl)
           clear c0 c1 c2
           go_ret
           exact ⟨ret_i64 RE.out.symm, Grow.G.alloc G.out _⟩)
        | (have EE : Hid (Tgt.err ⟨rv, tg, pc⟩ = 2) := Lib.hid (err2 (by simp_all; done) (by simp_all; done) (by omega))
           have RE : Hid (routeE nm cf ts rl = 2) := Lib.hid (by rw [RL.out, EA.out (by rw [EE.out]; decide), EE.out]; rfl)
           clear c0 c1 c2
           go_ret
           exact ⟨ret_i64 RE.out.symm, Grow.G.alloc G.out _⟩)
        | (have EE : Hid (Tgt.err ⟨rv, tg, pc⟩ = 0) := Lib.hid (err0 (by simp_all; done) (by simp_all; done) (by omega))
           clear c0 c1 c2
           go_roundw
           case rel => exact ⟨k + 1, by omega, by go_num, Grow.G.alloc G.out _, cell_old hcs, fun j hj => by
             by_cases e : j = k
             · rw [e, HT'.out]; exact EE.out
             · exact HX.out j hj e⟩
           case measure => simp [intOf]; omega)
    · obtain rfl : k = ts.length := by omega
      have E0 := Lib.hid (eachE_none H0.out)
      have RL2 := Lib.hid (RL.out.trans (if_pos E0.out))
      have PC := Lib.hid (each_pc E0.out)
      have HTr := Lib.hid (HT.out.later G.out)
      clear HT HK H0 E0 RL N1 N2
      go_wp2_with fail
      obtain ⟨wo, rfl⟩ : ∃ wo : World, wo = wr := ⟨_, rfl⟩
      go_loopw [5, 6] (fun s i wr => ∃ k : Nat, k ≤ ts.length ∧ i = .int .i64 k ∧ s = .int .i64 (sumT (ts.take k)) ∧ Hid (Grow.G wo wr) ∧ wr.cell? ⟨w.heap.size, 2, none⟩ = some (.slice a ts.length c) ∧ Hid (dupT ts = dupF ((ts.map Tgt.tg).take k) ((ts.map Tgt.tg).drop k))) (fun _ i _ => ts.length - (intOf i).toNat)
      case atStart => exact ⟨0, by omega, rfl, rfl, Grow.G.refl _, hcs, rfl⟩
      case round =>
        obtain ⟨k, hk, rfl, rfl, G2, hcs2, DU⟩ := hrel
        by_cases hlt2 : k < ts.length
        · have bd := sumT_bd ts PC.out k hk
          have SN := Lib.hid (sumT_snoc ts k hlt2)
          have PK := PC.out k hlt2
          obtain ⟨b, off, rfl, hat⟩ := (HTr.out.later G2.out).at hlt2
          have DS := Lib.hid (dupF_step (ts.map Tgt.tg) k (by simpa using hlt2) ⟨#[]⟩)
          have GM := Lib.hid (getD_map Tgt.tg ts k tg0 ⟨#[]⟩ hlt2)
          generalize hT : ts.getD k tg0 = t at *
          have HT' := Lib.hid hT
          clear hT
          generalize hS : sumT (ts.take k) = sm at *
          have HS := Lib.hid hS
          clear hS
          have c1 := hat.c1
          have c2 := hat.c2
          clear hat
          obtain ⟨rv, tg, pc⟩ := t
          simp only at c1 c2 PK
          go_wp2_with fail
          obtain ⟨wm, rfl⟩ : ∃ wm : World, wm = wr := ⟨_, rfl⟩
          go_loopw [7] (fun i wr => ∃ q : Nat, q ≤ k ∧ i = .int .i64 q ∧ Hid (Grow.G wm wr) ∧ Hid (strE tg = false → ∀ j, j < q → (ts.getD j tg0).tg ≠ tg)) (fun i _ => k - (intOf i).toNat)
          case atStart => exact ⟨0, by omega, rfl, Grow.G.refl _, fun _ j h => by omega⟩
          case round =>
            obtain ⟨q, hq, rfl, G3, HN⟩ := hrel
            have hcs3 : ∀ w', Grow.G wr w' → w'.cell? ⟨w.heap.size, 2, none⟩ = some (.slice (some ⟨b, off, none⟩) ts.length c) := fun w' g => cell_later (Grow.G.trans G3.out g) hcs2
            have c13 : ∀ w', Grow.G wr w' → w'.cell? ⟨b, off + k * 3 + 1, none⟩ = some (.string tg) := fun w' g => cell_later (Grow.G.trans G3.out g) c1
            have c23 : ∀ w', Grow.G wr w' → w'.cell? ⟨b, off + k * 3 + 1 + 1, none⟩ = some (.int .i64 pc) := fun w' g => cell_later (Grow.G.trans G3.out g) c2
            by_cases hlt3 : q < k
            · obtain ⟨b', off', hbo, hat⟩ := (HTr.out.later (Grow.G.trans G2.out G3.out)).at (show q < ts.length by omega)
              obtain ⟨rfl, rfl⟩ : b = b' ∧ off = off' := by cases hbo; exact ⟨rfl, rfl⟩
              generalize hT : ts.getD q tg0 = t at *
              have HTq := Lib.hid hT
              clear hT hbo
              have d1 : ∀ w', Grow.G wr w' → w'.cell? ⟨b, off + q * 3 + 1, none⟩ = some (.string t.tg) := fun w' g => cell_later g hat.c1
              clear hat
              have k1 : (0 : Int) ≤ (k : Int) := by omega
              have k2 : (k : Int) < (ts.length : Int) := by omega
              have q1 : (0 : Int) ≤ (q : Int) := by omega
              have q2 : (q : Int) < (ts.length : Int) := by omega
              clear c1 c2
              by_cases he : strE tg = true
              · have hne : tg.toList = [] := by unfold strE at he; simpa using he
                go_wp2_with fail
                refine Grow.region_seqT (by kernel_rfl) (by kernel_rfl) (by intro c a d v w h; cases d <;> exact h) (by kernel_rfl) ?_
                repeat (first
                  | (refine Grow.seqT.value ?_ (by rfl) ?_ ?_; rotate_left; (intro w' hg; go_simp <;> with_reducible rfl); simp only [Act.put, L0, L1, L2])
                  | (refine Grow.seqT.value ?_ (by rfl) ?_ ?_; rotate_left; (intro w' hg; have ⟨hgc, hgf, hgz⟩ := bcell hg; go_simp <;> with_reducible rfl); simp only [Act.put, L0, L1, L2])
                  | (refine Grow.seqT.value ?_ (by rfl) ?_ ?_; rotate_left; (intro w' hg; go_simp; rw [if_neg (by omega)]); simp only [Act.put, L0, L1, L2])
                  | (refine Grow.seqT.idle (by rfl) ?_; simp only [Act.put, L0, L1, L2])
                  )
                refine Grow.seqT.done (fun w4 g4 => ?_)
                go_wp2_with fail
                go_roundw
                case rel => exact ⟨q + 1, by omega, by go_num, Grow.G.trans G3.out g4, fun h => by rw [he] at h; cases h⟩
                case measure => simp [intOf]; omega
              · have hne : ¬ tg.toList = [] := by unfold strE at he; simpa using he
                have hne2 : tg.toList.isEmpty = false := by unfold strE at he; simpa using he
                go_wp2_with fail
                refine Grow.region_seqT (by kernel_rfl) (by kernel_rfl) (by intro c a d v w h; cases d <;> exact h) (by kernel_rfl) ?_
                repeat (first
                  | (refine Grow.seqT.value ?_ (by rfl) ?_ ?_; rotate_left; (intro w' hg; go_simp <;> with_reducible rfl); simp only [Act.put, L0, L1, L2])
                  | (refine Grow.seqT.value ?_ (by rfl) ?_ ?_; rotate_left; (intro w' hg; have ⟨hgc, hgf, hgz⟩ := bcell hg; go_simp <;> with_reducible rfl); simp only [Act.put, L0, L1, L2])
                  | (refine Grow.seqT.value ?_ (by rfl) ?_ ?_; rotate_left; (intro w' hg; go_simp; rw [if_neg (by omega)]); simp only [Act.put, L0, L1, L2])
                  | (refine Grow.seqT.idle (by rfl) ?_; simp only [Act.put, L0, L1, L2])
                  )
                refine Grow.seqT.done (fun w4 g4 => ?_)
                go_wp2_with fail
                · rename_i heq
                  have RE : Hid (routeE nm cf ts rl = 5) := Lib.hid (by
                    have e1 : strE tg = false := by simpa using he
                    have e2 : dupT ts = true := by
                      rw [DU.out, DS.out, GM.out]
                      show (!strE tg && Lib.containsS _ tg || _) = true
                      rw [e1, Bool.not_false, Bool.true_and, Bool.or_eq_true, Lib.containsS_iff]
                      refine .inl ?_
                      rw [eqS_iff.1 heq, ← HTq.out]
                      refine List.mem_of_getElem? (i := q) ?_
                      rw [List.getElem?_take_of_lt hlt3]
                      simp [List.getD, show q < ts.length by omega]
                    rw [RL2.out, if_pos e2])
                  clear c13 c23 hcs3 d1
                  go_ret
                  exact ⟨ret_i64 RE.out.symm, Grow.G.trans G.out (Grow.G.trans G2.out (Grow.G.trans G3.out g4))⟩
                · rename_i hnq
                  go_roundw
                  case rel => exact ⟨q + 1, by omega, by go_num, Grow.G.trans G3.out g4, fun h j hj => by
                    by_cases e : j = q
                    · rw [e, HTq.out]; exact fun h => neS_iff.1 hnq h.symm
                    · exact HN.out h j (by omega)⟩
                  case measure => simp [intOf]; omega
            · obtain rfl : q = k := by omega
              have NC : Hid ((!strE tg && Lib.containsS ((ts.map Tgt.tg).take q) tg) = false) := Lib.hid (by
                cases he : strE tg with
                | true => rfl
                | false =>
                  rw [Bool.not_false, Bool.true_and, Bool.eq_false_iff]
                  intro hc
                  rw [Lib.containsS_iff] at hc
                  obtain ⟨j, hj, e⟩ := List.getElem_of_mem hc
                  have hj' : j < q := by simp at hj; omega
                  refine HN.out he j hj' ?_
                  rw [← getD_map Tgt.tg ts j tg0 ⟨#[]⟩ (by omega), ← e]
                  simp [List.getD, show j < ts.length by omega])
              have DN : Hid (dupT ts = dupF ((ts.map Tgt.tg).take (q + 1)) ((ts.map Tgt.tg).drop (q + 1))) := Lib.hid (by
                rw [DU.out, DS.out, GM.out]; show (!strE tg && _ || _) = _; rw [NC.out, Bool.false_or])
              clear c1 c2 hcs3 c13 c23
              go_wp2_with fail
              go_roundw
              case rel => exact ⟨q + 1, by omega, by go_num, by rw [SN.out], Grow.G.trans G2.out G3.out, cell_later G3.out hcs2, DN.out⟩
              case measure => simp [intOf]; omega
        · have e : Hid (ts.take k = ts) := Lib.hid (List.take_of_length_le (by omega))
          rw [e.out]
          have FE : Hid (dupT ts = false) := Lib.hid (by rw [DU.out, List.drop_eq_nil_of_le (by simp; omega)]; rfl)
          by_cases h100 : sumT ts = 100
          · have RE : Hid (routeE nm cf ts rl = 0) := Lib.hid (by rw [RL2.out, FE.out]; simp [h100])
            have h100' : (sumT ts != 100) = false := by simp [h100]
            generalize sumT ts = sm at *
            clear h100
            go_wp2_with fail
            go_ret
            exact ⟨ret_i64 RE.out.symm, Grow.G.trans G.out G2.out⟩
          · have RE : Hid (routeE nm cf ts rl = 4) := Lib.hid (by rw [RL2.out, FE.out]; simp [h100])
            have h100' : (sumT ts != 100) = true := by simp [h100]
            generalize sumT ts = sm at *
            clear h100
            go_wp2_with fail
            go_ret
            exact ⟨ret_i64 RE.out.symm, Grow.G.trans G.out G2.out⟩

theorem rroute_any (nm cf : ByteArray) (a : Option Addr) (ts : List Tgt) (c : Nat) (rl : Int) (w : World) (h1 : nm.size ≤ maxLen) (h2 : cf.size ≤ maxLen) (hl : ts.length ≤ maxLen) (ht : TgtSl w a ts) (hk : ∀ i, i < ts.length → (ts.getD i tg0).ok) :
    Calls Tryz.prog 32 #[rtV nm cf (.slice a ts.length c) rl] w fun x w' => x = .returned (.int .i64 (routeE nm cf ts rl)) ∧ Below w.heap.size w w' := by
  cases h : (nameB 16 nm && nameB 16 cf && inB rl 0 60 && inB ts.length 1 6) with
  | false => exact rroute_no nm cf a ts c rl w h1 h2 hl h
  | true =>
    simp only [Bool.and_eq_true] at h
    exact rroute_yes nm cf a ts c rl w h1 h2 ht hk h.1.1.1 h.1.1.2 h.1.2 h.2

def tgtB (s t : Tgt) : Bool := (s.rv.toList == t.rv.toList) && (s.tg.toList == t.tg.toList) && (s.pc == t.pc)
theorem tgtB_iff {s t : Tgt} : tgtB s t = true ↔ s = t := by
  obtain ⟨a, b, c⟩ := s
  obtain ⟨a', b', c'⟩ := t
  unfold tgtB
  rw [Bool.and_eq_true, Bool.and_eq_true, eqS_iff, eqS_iff, beq_iff_eq, Tgt.mk.injEq, and_assoc]
theorem run_neq_tgt (rv tg rv' tg' : ByteArray) (pc pc' : Int) (t : TypeId) (w : World) :
    (binOp .neq 84 (.agg #[.string rv, .string tg, .int .i64 pc]) (.agg #[.string rv', .string tg', .int .i64 pc'])).run Tryz.prog w = .ok (.bool (!tgtB ⟨rv, tg, pc⟩ ⟨rv', tg', pc'⟩)) w := by
  go_simp
  unfold tgtB
  by_cases h1 : rv.toList = rv'.toList <;> by_cases h2 : tg.toList = tg'.toList <;> by_cases h3 : pc = pc' <;> simp [h1, h2, h3]
def sameTs (xs ys : List Tgt) : Bool := decide (xs.length = ys.length) && (List.range xs.length).all fun i => tgtB (xs.getD i tg0) (ys.getD i tg0)
theorem sameTs_iff {xs ys : List Tgt} : sameTs xs ys = true ↔ xs = ys := by
  unfold sameTs
  rw [Bool.and_eq_true, decide_eq_true_iff, List.all_eq_true]
  constructor
  · rintro ⟨hl, ha⟩
    refine List.ext_getElem hl fun i h1 h2 => ?_
    have := tgtB_iff.1 (ha i (List.mem_range.2 h1))
    simpa [List.getD, h1, h2] using this
  · rintro rfl
    exact ⟨rfl, fun i _ => tgtB_iff.2 rfl⟩
theorem sameTs_no {xs ys : List Tgt} {k : Nat} (hk : k < xs.length) (h : tgtB (xs.getD k tg0) (ys.getD k tg0) = false) : sameTs xs ys = false := by
  rw [Bool.eq_false_iff]; intro e
  have := sameTs_iff.1 e
  subst this
  rw [tgtB_iff.2 rfl] at h; cases h
theorem sameTs_yes {xs ys : List Tgt} (hl : xs.length = ys.length) (h : ∀ i, i < xs.length → tgtB (xs.getD i tg0) (ys.getD i tg0) = true) : sameTs xs ys = true := by
  unfold sameTs; rw [decide_eq_true hl, Bool.true_and, List.all_eq_true]
  exact fun i hi => h i (List.mem_range.1 hi)

def sameR (nm cf : ByteArray) (ts : List Tgt) (rl : Int) (nm' cf' : ByteArray) (ts' : List Tgt) (rl' : Int) : Bool :=
  (nm.toList == nm'.toList) && (cf.toList == cf'.toList) && (rl == rl') && sameTs ts ts'
theorem sameR_iff {nm cf nm' cf' : ByteArray} {ts ts' : List Tgt} {rl rl' : Int} : sameR nm cf ts rl nm' cf' ts' rl' = true ↔ nm = nm' ∧ cf = cf' ∧ rl = rl' ∧ ts = ts' := by
  unfold sameR
  rw [Bool.and_eq_true, Bool.and_eq_true, Bool.and_eq_true, eqS_iff, eqS_iff, beq_iff_eq, sameTs_iff, and_assoc, and_assoc]

set_option maxRecDepth 100000 in
set_option maxHeartbeats 1000000 in
theorem rsame_any (nm cf : ByteArray) (a : Option Addr) (ts : List Tgt) (c : Nat) (rl : Int) (nm' cf' : ByteArray) (a' : Option Addr) (ts' : List Tgt) (c' : Nat) (rl' : Int) (w : World) (hl : ts.length ≤ maxLen) (ht : TgtSl w a ts) (ht' : TgtSl w a' ts') :
    Calls Tryz.prog 36 #[rtV nm cf (.slice a ts.length c) rl, rtV nm' cf' (.slice a' ts'.length c') rl'] w fun x w' => x = .returned (.bool (sameR nm cf ts rl nm' cf' ts' rl')) ∧ Below w.heap.size w w' := by
  have HT := Lib.hid ht
  have HT' := Lib.hid ht'
  clear ht ht'
  unfold maxLen at hl
  unfold rtV
  by_cases hh : ((nm.toList == nm'.toList) && (cf.toList == cf'.toList) && (rl == rl') && decide (ts.length = ts'.length)) = true
  · have SR : Hid (sameR nm cf ts rl nm' cf' ts' rl' = sameTs ts ts') := Lib.hid (by
      simp only [Bool.and_eq_true] at hh
      unfold sameR; rw [hh.1.1.1, hh.1.1.2, hh.1.2]; rfl)
    simp only [Bool.and_eq_true, decide_eq_true_iff] at hh
    obtain ⟨⟨⟨e1, e2⟩, e3⟩, hn⟩ := hh
    have e1' := eqS_iff.1 e1
    have e2' := eqS_iff.1 e2
    have e3' : rl = rl' := by simpa using e3
    subst e1' e2' e3'
    have HN := Lib.hid hn
    have hn1 : (ts.length != ts'.length) = false := by simpa using hn
    clear e1 e2 e3 hn
    go_enter Tryz.func36, Tryz.ntmps36
    go_wp2
    go_loopw [5] (fun i wr => ∃ k : Nat, k ≤ ts.length ∧ i = .int .i64 k ∧ Hid (wr.cell? ⟨w.heap.size, 2, none⟩ = some (.slice a ts.length c)) ∧ Hid (wr.cell? ⟨w.heap.size + 1, 2, none⟩ = some (.slice a' ts'.length c')) ∧ Hid (Grow.G w wr) ∧ Hid (∀ j, j < k → tgtB (ts.getD j tg0) (ts'.getD j tg0) = true)) (fun i _ => ts.length - (intOf i).toNat)
    case atStart => exact ⟨0, by omega, rfl, Lib.hid (by go_simp), Lib.hid (by go_simp), (Grow.G.alloc (Grow.G.alloc (Grow.G.refl _) _) _), fun j h => by omega⟩
    case round =>
      obtain ⟨k, hk, rfl, X1, X2, G, H0⟩ := hrel
      have x1 : ∀ w', Grow.G wr w' → w'.cell? ⟨w.heap.size, 2, none⟩ = some (.slice a ts.length c) := fun w' g => cell_later g X1.out
      have x2 : ∀ w', Grow.G wr w' → w'.cell? ⟨w.heap.size + 1, 2, none⟩ = some (.slice a' ts'.length c') := fun w' g => cell_later g X2.out
      have x1' := x1 wr (Grow.G.refl _)
      by_cases hlt : k < ts.length
      · obtain ⟨b, off, rfl, hat⟩ := (HT.out.later G.out).at hlt
        obtain ⟨b', off', rfl, hat'⟩ := (HT'.out.later G.out).at (show k < ts'.length by have := HN.out; omega)
        have NO := Lib.hid (fun h => sameTs_no (ys := ts') hlt h)
        have H1 : Hid (∀ j, j < k + 1 → j ≠ k → tgtB (ts.getD j tg0) (ts'.getD j tg0) = true) := Lib.hid (fun j h1 h2 => H0.out j (by omega))
        generalize hT : ts.getD k tg0 = t at *
        generalize hT' : ts'.getD k tg0 = t' at *
        have E1 := Lib.hid hT
        have E2 := Lib.hid hT'
        clear hT hT'
        have c0 : ∀ w', Grow.G wr w' → w'.cell? ⟨b, off + k * 3, none⟩ = some (.string t.rv) := fun w' g => cell_later g hat.c0
        have c1 : ∀ w', Grow.G wr w' → w'.cell? ⟨b, off + k * 3 + 1, none⟩ = some (.string t.tg) := fun w' g => cell_later g hat.c1
        have c2 : ∀ w', Grow.G wr w' → w'.cell? ⟨b, off + k * 3 + 1 + 1, none⟩ = some (.int .i64 t.pc) := fun w' g => cell_later g hat.c2
        have d0 : ∀ w', Grow.G wr w' → w'.cell? ⟨b', off' + k * 3, none⟩ = some (.string t'.rv) := fun w' g => cell_later g hat'.c0
        have d1 : ∀ w', Grow.G wr w' → w'.cell? ⟨b', off' + k * 3 + 1, none⟩ = some (.string t'.tg) := fun w' g => cell_later g hat'.c1
        have d2 : ∀ w', Grow.G wr w' → w'.cell? ⟨b', off' + k * 3 + 1 + 1, none⟩ = some (.int .i64 t'.pc) := fun w' g => cell_later g hat'.c2
        have k1 : (0 : Int) ≤ (k : Int) := by omega
        have k2 : (k : Int) < (ts.length : Int) := by omega
        have k3 : (k : Int) < (ts'.length : Int) := by have := HN.out; omega
        obtain ⟨rv, tg, pc⟩ := t
        obtain ⟨rv', tg', pc'⟩ := t'
        simp only at c0 c1 c2 d0 d1 d2
        have RN := run_neq_tgt rv tg rv' tg' pc pc' 84
        clear hat hat'
        go_wp2_with fail
        refine Grow.region_seqT (by kernel_rfl) (by kernel_rfl) (by intro c a d v w h; cases d <;> exact h) (by kernel_rfl) ?_
        repeat (first
          | (refine Grow.seqT.value ?_ (by rfl) ?_ ?_; rotate_left; (intro w' hg; go_simp <;> with_reducible rfl); simp only [Act.put, L0, L1, L2])
          | (refine Grow.seqT.value ?_ (by rfl) ?_ ?_; rotate_left; (intro w' hg; have ⟨hgc, hgf, hgz⟩ := bcell hg; go_simp <;> with_reducible rfl); simp only [Act.put, L0, L1, L2])
          | (refine Grow.seqT.value ?_ (by rfl) ?_ ?_; rotate_left; (intro w' hg; go_simp; rw [if_neg (by omega)]); simp only [Act.put, L0, L1, L2])
          | (refine Grow.seqT.idle (by rfl) ?_; simp only [Act.put, L0, L1, L2])
          )
        refine Grow.seqT.done (fun w4 g4 => ?_)
        clear c0 c1 c2 d0 d1 d2 RN x1 x2 x1'
        generalize hq : tgtB ⟨rv, tg, pc⟩ ⟨rv', tg', pc'⟩ = q at *
        have HQ := Lib.hid hq
        clear hq
        cases q with
        | true =>
          go_wp2_with fail
          go_roundw
          case rel => exact ⟨k + 1, by omega, by go_num, cell_later g4 X1.out, cell_later g4 X2.out, Grow.G.trans G.out g4, fun j hj => by
            by_cases e : j = k
            · rw [e, E1.out, E2.out]; exact HQ.out
            · exact H1.out j hj e⟩
          case measure => simp [intOf]; omega
        | false =>
          go_wp2_with fail
          go_ret
          exact ⟨ret_bool (by rw [SR.out]; exact (NO.out trivial).symm), Grow.G.trans G.out g4⟩
      · have Y := Lib.hid (sameTs_yes HN.out (fun i hi => H0.out i (by omega)))
        clear x1 x2
        go_wp2
        go_ret
        exact ⟨ret_bool (by rw [SR.out]; exact Y.out.symm), G.out⟩
  · have SR : Hid (sameR nm cf ts rl nm' cf' ts' rl' = false) := Lib.hid (by
      rw [Bool.eq_false_iff]; intro h
      obtain ⟨rfl, rfl, rfl, rfl⟩ := sameR_iff.1 h
      exact hh (by simp))
    have HH := Lib.hid hh
    clear hh
    go_enter Tryz.func36, Tryz.ntmps36
    go_wp2
    all_goals first
      | (go_ret; exact ⟨ret_bool SR.out.symm, Grow.G.alloc (Grow.G.alloc (Grow.G.refl _) _) _⟩)
      | (exfalso; have hq : ((ts.length : Int) != (ts'.length : Int)) = false := by assumption
         have hq : ts.length = ts'.length := by simp at hq; omega
         have := HH.out; simp_all; done)
end Go.Proofs.YtlnffdkaleapbaaGreat

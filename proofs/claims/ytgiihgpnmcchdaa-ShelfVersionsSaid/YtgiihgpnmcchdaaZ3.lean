/- My own texts Spec1, Spec2, Spec3, Spec4, Spec5, Spec6, Spec7, Spec8, laid in one file. -/
import Derived.Test.YtgiihgpnmcchdaaZ1
import Derived.Lib.SlicesS
import Derived.Test.YtgiihgpnmcchdaaZ2

/- What spec's small checks answer. -/
namespace Go.Proofs.Ytgiihgpnmcchdaa
set_option maxRecDepth 100000
set_option linter.unusedVariables false
set_option linter.unusedSimpArgs false
set_option linter.unnecessarySimpa false
open Go.RowKit

def inB (n a b : Int) : Bool := decide (a ≤ n ∧ n ≤ b)
theorem inB_iff {n a b : Int} : inB n a b = true ↔ a ≤ n ∧ n ≤ b := by simp [inB]
def unl (b : Bool) (e : Int) : Int := if b then 0 else e

theorem unless_any (b : Bool) (e : Int) (w : World) :
    Calls Try.prog 41 #[.bool b, .int .i64 e] w fun x w' => x = .returned (.int .i64 (unl b e)) ∧ w = w' := by
  cases b
  all_goals
    go_enter Try.func41, Try.ntmps41
    go_wp2
    go_ret
    exact ⟨rfl, rfl⟩
theorem swithin_any (n a b : Int) (w : World) :
    Calls Try.prog 43 #[.int .i64 n, .int .i64 a, .int .i64 b] w fun x w' => x = .returned (.bool (inB n a b)) ∧ w = w' := by
  go_enter Try.func43, Try.ntmps43
  go_wp2
  all_goals
    go_ret
    exact ⟨ret_bool (by rw [Bool.eq_iff_iff]; simp [inB] <;> omega), rfl⟩

/-- A configuration's fields. -/
structure Cfg where
  nm : ByteArray
  im : Int
  co : Int
  mn : Int
  mx : Int
  gr : Int
deriving DecidableEq
def Cfg.v (c : Cfg) : Value := .agg #[.string c.nm, .int .i64 c.im, .int .i64 c.co, .int .i64 c.mn, .int .i64 c.mx, .int .i64 c.gr]
def Cfg.num (c : Cfg) : Bool := inB c.im 0 255 && inB c.co 1 8 && inB c.mx 1 10 && inB c.mn 0 c.mx && inB c.gr 0 30
def Cfg.err (c : Cfg) : Int := if nameB 16 c.nm then (if c.num then 0 else 2) else 1

theorem cnamed_any (c : Cfg) (w : World) (hs : c.nm.size ≤ maxLen) :
    Calls Try.prog 27 #[c.v] w fun x w' => x = .returned (.int .i64 (unl (nameB 16 c.nm) 1)) ∧ Below w.heap.size w w' := by
  obtain ⟨nm, im, co, mn, mx, gr⟩ := c
  unfold Cfg.v
  go_enter Try.func27, Try.ntmps27
  go_wp2_with (first | (go_at_call 42; (with_reducible refine (name_any _ _ hs).mono ?_); rintro e w' ⟨rfl, hb⟩; have ⟨hbc, hbf, hbz⟩ := bcell hb) | (go_at_call 41; (with_reducible refine (unless_any _ _ _).mono ?_); rintro e w' ⟨rfl, rfl⟩))
  go_ret
  exact ⟨rfl, by (repeat (first | with_reducible exact Grow.G.refl _ | with_reducible exact Below.refl _ _ | with_reducible refine Grow.G.alloc ?_ _ | with_reducible refine Grow.G.trans ?_ hb1 | ((with_reducible refine Below.setCell ?_ ?_ _); rotate_left; (focus (first | omega | (simp; done) | (simp; omega)))) | with_reducible assumption | with_reducible refine Grow.G.trans ?_ (by with_reducible assumption)))⟩
theorem cnumbers_any (c : Cfg) (w : World) :
    Calls Try.prog 28 #[c.v] w fun x w' => x = .returned (.int .i64 (unl c.num 2)) ∧ Below w.heap.size w w' := by
  obtain ⟨nm, im, co, mn, mx, gr⟩ := c
  unfold Cfg.v Cfg.num
  simp only
  go_enter Try.func28, Try.ntmps28
  go_wp2_with (first | (go_at_call 43; (with_reducible refine (swithin_any _ _ _ _).mono ?_); rintro e w' ⟨rfl, rfl⟩) | (go_at_call 41; (with_reducible refine (unless_any _ _ _).mono ?_); rintro e w' ⟨rfl, rfl⟩))
  all_goals
    go_ret
    exact ⟨ret_i64 (by simp [*]), by (repeat (first | with_reducible exact Grow.G.refl _ | with_reducible exact Below.refl _ _ | with_reducible refine Grow.G.alloc ?_ _ | with_reducible refine Grow.G.trans ?_ hb1 | ((with_reducible refine Below.setCell ?_ ?_ _); rotate_left; (focus (first | omega | (simp; done) | (simp; omega)))) | with_reducible assumption | with_reducible refine Grow.G.trans ?_ (by with_reducible assumption)))⟩
/-- A target's fields. -/
structure Tgt where
  rv : ByteArray
  tg : ByteArray
  pc : Int
deriving DecidableEq
def Tgt.v (t : Tgt) : Value := .agg #[.string t.rv, .string t.tg, .int .i64 t.pc]
def revB (s : ByteArray) : Bool := (parse s).isSome
theorem splitAns.isB {s : ByteArray} {e : Ending} (h : splitAns s e) : ∃ c n, e = .returned (.tuple #[.string c, .int .i64 n, .bool (revB s)]) := by
  rcases h with ⟨c, n, hr, he⟩ | ⟨hno, he⟩
  · refine ⟨c, n, ?_⟩
    have : revB s = true := by
      unfold revB
      rcases parse_spec s with ⟨c', n', e, _⟩ | ⟨_, h⟩
      · rw [e]; rfl
      · exact absurd hr (h c n)
    rw [this]; exact he
  · refine ⟨⟨#[]⟩, 0, ?_⟩
    have : revB s = false := by
      unfold revB
      rcases parse_spec s with ⟨c', n', e, h⟩ | ⟨e, _⟩
      · exact absurd h (hno _ _)
      · rw [e]; rfl
    rw [this]; exact he
def strE (s : ByteArray) : Bool := s.toList.isEmpty
def Tgt.nmd (t : Tgt) : Bool := (strE t.rv || revB t.rv) && (strE t.tg || nameB 8 t.tg)
def Tgt.err (t : Tgt) : Int := if t.nmd then (if inB t.pc 0 100 then 0 else 2) else 1
theorem split_b (s : ByteArray) (w : World) (hs : s.size ≤ 281474976710655) :
    Calls Try.prog 50 #[.string s] w fun e w' => (∃ c n, e = .returned (.tuple #[.string c, .int .i64 n, .bool (revB s)])) ∧ Below w.heap.size w w' :=
  (split_any s w hs).mono fun e w' ⟨h, hb⟩ => ⟨h.isB, hb⟩
theorem tnamed_any (t : Tgt) (w : World) (h1 : t.rv.size ≤ 140737488351232) (h2 : t.tg.size ≤ 140737488351232) :
    Calls Try.prog 45 #[t.v] w fun x w' => x = .returned (.int .i64 (unl t.nmd 1)) ∧ Below w.heap.size w w' := by
  obtain ⟨rv, tg, pc⟩ := t
  unfold Tgt.v Tgt.nmd strE
  simp only at *
  go_enter Try.func45, Try.ntmps45
  go_wp2_with fail
  refine (split_b _ _ (by omega)).mono ?_
  rintro e w1 ⟨⟨c, n, rfl⟩, hb1⟩
  have ⟨hbc, hbf, hbz⟩ := bcell hb1
  go_wp2_with (first | (go_at_call 51; (with_reducible refine (tag_any _ _ (by unfold maxLen; omega)).mono ?_); rintro e w' ⟨rfl, hb⟩; have ⟨hbc, hbf, hbz⟩ := bcell hb) | (go_at_call 41; (with_reducible refine (unless_any _ _ _).mono ?_); rintro e w' ⟨rfl, rfl⟩))
  all_goals
    go_ret
    exact ⟨ret_i64 (by generalize rv.toList = x at *; generalize tg.toList = y at *; cases x <;> cases y <;> simp_all), by (repeat (first | with_reducible exact Grow.G.refl _ | with_reducible exact Below.refl _ _ | with_reducible refine Grow.G.alloc ?_ _ | with_reducible refine Grow.G.trans ?_ hb1 | ((with_reducible refine Below.setCell ?_ ?_ _); rotate_left; (focus (first | omega | (simp; done) | (simp; omega)))) | with_reducible assumption | with_reducible refine Grow.G.trans ?_ (by with_reducible assumption)))⟩
theorem tpart_any (t : Tgt) (w : World) :
    Calls Try.prog 46 #[t.v] w fun x w' => x = .returned (.int .i64 (unl (inB t.pc 0 100) 2)) ∧ Below w.heap.size w w' := by
  obtain ⟨rv, tg, pc⟩ := t
  unfold Tgt.v
  go_enter Try.func46, Try.ntmps46
  go_wp2_with (first | (go_at_call 43; (with_reducible refine (swithin_any _ _ _ _).mono ?_); rintro e w' ⟨rfl, rfl⟩) | (go_at_call 41; (with_reducible refine (unless_any _ _ _).mono ?_); rintro e w' ⟨rfl, rfl⟩))
  go_ret
  exact ⟨rfl, by (repeat (first | with_reducible exact Grow.G.refl _ | with_reducible exact Below.refl _ _ | with_reducible refine Grow.G.alloc ?_ _ | with_reducible refine Grow.G.trans ?_ hb1 | ((with_reducible refine Below.setCell ?_ ?_ _); rotate_left; (focus (first | omega | (simp; done) | (simp; omega)))) | with_reducible assumption | with_reducible refine Grow.G.trans ?_ (by with_reducible assumption)))⟩

/-- A route's value: its targets lie in a slice. -/
def rtV (nm cf : ByteArray) (ts : Value) (rl : Int) : Value := .agg #[.string nm, .string cf, ts, .int .i64 rl]
theorem rnamed_any (nm cf : ByteArray) (a : Option Addr) (l c : Nat) (rl : Int) (w : World) (h1 : nm.size ≤ maxLen) (h2 : cf.size ≤ maxLen) :
    Calls Try.prog 31 #[rtV nm cf (.slice a l c) rl] w fun x w' => x = .returned (.int .i64 (unl (nameB 16 nm && nameB 16 cf) 1)) ∧ Below w.heap.size w w' := by
  unfold rtV
  go_enter Try.func31, Try.ntmps31
  go_wp2_with fail
  refine (name_any _ _ h1).mono ?_
  rintro e w1 ⟨rfl, hb1⟩
  have ⟨hbc, hbf, hbz⟩ := bcell hb1
  go_wp2_with (first | (go_at_call 42; (with_reducible refine (name_any _ _ h2).mono ?_); rintro e w' ⟨rfl, hb⟩; have ⟨hbc, hbf, hbz⟩ := bcell hb) | (go_at_call 41; (with_reducible refine (unless_any _ _ _).mono ?_); rintro e w' ⟨rfl, rfl⟩))
  all_goals
    go_ret
    exact ⟨ret_i64 (by simp_all), by (repeat (first | with_reducible exact Grow.G.refl _ | with_reducible exact Below.refl _ _ | with_reducible refine Grow.G.alloc ?_ _ | with_reducible refine Grow.G.trans ?_ hb1 | ((with_reducible refine Below.setCell ?_ ?_ _); rotate_left; (focus (first | omega | (simp; done) | (simp; omega)))) | with_reducible assumption | with_reducible refine Grow.G.trans ?_ (by with_reducible assumption)))⟩
theorem rrolled_any (nm cf : ByteArray) (a : Option Addr) (l c : Nat) (rl : Int) (w : World) :
    Calls Try.prog 32 #[rtV nm cf (.slice a l c) rl] w fun x w' => x = .returned (.int .i64 (unl (inB rl 0 60) 2)) ∧ Below w.heap.size w w' := by
  unfold rtV
  go_enter Try.func32, Try.ntmps32
  go_wp2_with (first | (go_at_call 43; (with_reducible refine (swithin_any _ _ _ _).mono ?_); rintro e w' ⟨rfl, rfl⟩) | (go_at_call 41; (with_reducible refine (unless_any _ _ _).mono ?_); rintro e w' ⟨rfl, rfl⟩))
  go_ret
  exact ⟨rfl, by (repeat (first | with_reducible exact Grow.G.refl _ | with_reducible exact Below.refl _ _ | with_reducible refine Grow.G.alloc ?_ _ | with_reducible refine Grow.G.trans ?_ hb1 | ((with_reducible refine Below.setCell ?_ ?_ _); rotate_left; (focus (first | omega | (simp; done) | (simp; omega)))) | with_reducible assumption | with_reducible refine Grow.G.trans ?_ (by with_reducible assumption)))⟩
theorem rcounted_any (nm cf : ByteArray) (a : Option Addr) (l c : Nat) (rl : Int) (w : World) :
    Calls Try.prog 33 #[rtV nm cf (.slice a l c) rl] w fun x w' => x = .returned (.int .i64 (unl (inB l 1 6) 3)) ∧ Below w.heap.size w w' := by
  unfold rtV
  go_enter Try.func33, Try.ntmps33
  go_wp2_with (first | (go_at_call 43; (with_reducible refine (swithin_any _ _ _ _).mono ?_); rintro e w' ⟨rfl, rfl⟩) | (go_at_call 41; (with_reducible refine (unless_any _ _ _).mono ?_); rintro e w' ⟨rfl, rfl⟩))
  go_ret
  exact ⟨rfl, by (repeat (first | with_reducible exact Grow.G.refl _ | with_reducible exact Below.refl _ _ | with_reducible refine Grow.G.alloc ?_ _ | with_reducible refine Grow.G.trans ?_ hb1 | ((with_reducible refine Below.setCell ?_ ?_ _); rotate_left; (focus (first | omega | (simp; done) | (simp; omega)))) | with_reducible assumption | with_reducible refine Grow.G.trans ?_ (by with_reducible assumption)))⟩

def fst0 : List Int → Int
  | [] => 0
  | a :: l => if a = 0 then fst0 l else a
theorem fst0_at : ∀ (L : List Int) (k : Nat), k < L.length → (∀ j, j < k → L.getD j 0 = 0) → L.getD k 0 ≠ 0 → fst0 L = L.getD k 0
  | [], k, h, _, _ => by simp at h
  | a :: l, 0, _, _, h => by simp at h; simp [fst0, h]
  | a :: l, k + 1, h, h0, h1 => by
    have ha : a = 0 := by simpa using h0 0 (by omega)
    have := fst0_at l k (by simpa using h) (fun j hj => by simpa using h0 (j + 1) (by omega)) (by simpa using h1)
    simp only [fst0, if_pos ha]
    simpa using this
theorem fst0_none : ∀ (L : List Int), (∀ j, j < L.length → L.getD j 0 = 0) → fst0 L = 0
  | [], _ => rfl
  | a :: l, h => by
    have ha : a = 0 := by simpa using h 0 (by simp)
    simp only [fst0, if_pos ha]
    exact fst0_none l fun j hj => by simpa using h (j + 1) (by simpa using hj)

set_option maxHeartbeats 400000 in
theorem first_any (b : Nat) (L : List Int) (fs : Nat → FuncId) (av : Nat → Value) (w : World) (hn : L.length ≤ 100)
    (hc : ∀ i, i < L.length → w.cell? ⟨b, i, none⟩ = some (.func (.func (fs i)) #[av i] #[]))
    (hr : ∀ i, i < L.length → ∀ args w', (callFunc (fs i) args).run Try.prog w' = .ok (.enter (fs i) args) w')
    (hf : ∀ i, i < L.length → (∀ j, j < i → L.getD j 0 = 0) → ∀ w', Grow.G w w' → Calls Try.prog (fs i) #[av i] w' fun e w'' => e = .returned (.int .i64 (L.getD i 0)) ∧ Grow.G w' w'') :
    Calls Try.prog 26 #[.slice (some ⟨b, 0, none⟩) L.length L.length] w fun x w' => x = .returned (.int .i64 (fst0 L)) ∧ Below w.heap.size w w' := by
  have HC := Lib.hid hc
  have HF := Lib.hid hf
  have HR := Lib.hid hr
  clear hc hf hr
  go_enter Try.func26, Try.ntmps26
  go_wp2
  go_loopw [8] (fun i wr => ∃ k : Nat, k ≤ L.length ∧ i = .int .i64 k ∧ Grow.G w wr ∧ Hid (∀ j, j < k → L.getD j 0 = 0)) (fun i _ => L.length - (intOf i).toNat)
  case atStart => exact ⟨0, by omega, rfl, Grow.G.refl _, fun j h => by omega⟩
  case round =>
    obtain ⟨k, hk, rfl, hg, HK⟩ := hrel
    by_cases hlt : k < L.length
    · have hcell : wr.cell? ⟨b, k, none⟩ = some (.func (.func (fs k)) #[av k] #[]) := cell_later hg (HC.out k hlt)
      have C := Lib.hid (HF.out k hlt HK.out)
      have hrun := HR.out k hlt
      have G := Lib.hid hg
      have FA := Lib.hid (fst0_at L k hlt HK.out)
      generalize hv : L.getD k 0 = v at *
      have HV := Lib.hid hv
      clear hg hv
      go_wp2_with fail
      refine (C.out _ G.out).mono ?_
      rintro e w1 ⟨rfl, hb⟩
      clear hrun hcell
      have G1 := Lib.hid (Grow.G.trans G.out hb)
      clear hb
      by_cases h0 : v = 0
      · subst h0
        go_wp2_with fail
        go_roundw
        case rel => exact ⟨k + 1, by omega, by go_num, G1.out, fun j hj => by
          by_cases e : j = k
          · rw [e]; exact HV.out
          · exact HK.out j (by omega)⟩
        case measure => simp [intOf]; omega
      · have h0' : (v != 0) = true := by simpa using h0
        have FE := Lib.hid (FA.out h0)
        clear h0
        go_wp2_with fail
        go_ret
        exact ⟨ret_i64 FE.out.symm, G1.out⟩
    · have FE := Lib.hid (fst0_none L fun j hj => HK.out j (by omega))
      go_wp2
      go_ret
      exact ⟨ret_i64 FE.out.symm, hg⟩

theorem cfg_err (c : Cfg) : fst0 [unl (nameB 16 c.nm) 1, unl c.num 2] = c.err := by
  unfold Cfg.err unl
  cases nameB 16 c.nm <;> cases c.num <;> rfl
set_option maxHeartbeats 400000 in
theorem config_any (c : Cfg) (w : World) (hs : c.nm.size ≤ maxLen) :
    Calls Try.prog 16 #[c.v] w fun x w' => x = .returned (.int .i64 c.err) ∧ Below w.heap.size w w' := by
  have N := Lib.hid (fun w => cnamed_any c w hs)
  have M := Lib.hid (fun w => cnumbers_any c w)
  have E := Lib.hid (cfg_err c)
  obtain ⟨nm, im, co, mn, mx, gr⟩ := c
  unfold Cfg.v at *
  go_enter Try.func16, Try.ntmps16
  go_wp2_with fail
  refine (first_any _ [unl (nameB 16 nm) 1, unl (Cfg.num ⟨nm, im, co, mn, mx, gr⟩) 2] (fun | 0 => 27 | _ => 28) (fun _ => .agg #[.string nm, .int .i64 im, .int .i64 co, .int .i64 mn, .int .i64 mx, .int .i64 gr]) _ (by show 2 ≤ 100; decide) ?_ ?_ ?_).mono ?_
  · intro i hi
    match i, hi with
    | 0, _ => go_simp
    | 1, _ => go_simp
  · intro i hi args w'
    match i, hi with
    | 0, _ => go_simp
    | 1, _ => go_simp
  · intro i hi _ w' _
    match i, hi with
    | 0, _ => exact N.out w'
    | 1, _ => exact M.out w'
  rintro e w1 ⟨rfl, hb⟩
  go_wp2_with fail
  go_ret
  exact ⟨ret_i64 E.out, by (repeat (first | with_reducible exact Grow.G.refl _ | with_reducible exact Below.refl _ _ | with_reducible refine Grow.G.alloc ?_ _ | with_reducible refine Grow.G.trans ?_ hb1 | ((with_reducible refine Below.setCell ?_ ?_ _); rotate_left; (focus (first | omega | (simp; done) | (simp; omega)))) | with_reducible assumption | with_reducible refine Grow.G.trans ?_ (by with_reducible assumption)))⟩

structure TgtAt (w : World) (b o : Nat) (t : Tgt) : Prop where
  c0 : w.cell? ⟨b, o, none⟩ = some (.string t.rv)
  c1 : w.cell? ⟨b, o + 1, none⟩ = some (.string t.tg)
  c2 : w.cell? ⟨b, o + 1 + 1, none⟩ = some (.int .i64 t.pc)
def tg0 : Tgt := ⟨⟨#[]⟩, ⟨#[]⟩, 0⟩
/-- A slice's targets. -/
def TgtSl (w : World) (a : Option Addr) (ts : List Tgt) : Prop := ts = [] ∨ ∃ b off, a = some ⟨b, off, none⟩ ∧ ∀ i, i < ts.length → TgtAt w b (off + i * 3) (ts.getD i tg0)
theorem TgtAt.later {w w' : World} {b o : Nat} {t : Tgt} (h : TgtAt w b o t) (g : Grow.G w w') : TgtAt w' b o t := ⟨cell_later g h.c0, cell_later g h.c1, cell_later g h.c2⟩
theorem TgtSl.later {w w' : World} {a : Option Addr} {ts : List Tgt} (h : TgtSl w a ts) (g : Grow.G w w') : TgtSl w' a ts :=
  h.imp id fun ⟨b, off, ha, hc⟩ => ⟨b, off, ha, fun i hi => (hc i hi).later g⟩
theorem TgtSl.at {w : World} {a : Option Addr} {ts : List Tgt} (h : TgtSl w a ts) {k : Nat} (hk : k < ts.length) : ∃ b off, a = some ⟨b, off, none⟩ ∧ TgtAt w b (off + k * 3) (ts.getD k tg0) := by
  rcases h with rfl | ⟨b, off, ha, hc⟩
  · simp at hk
  · exact ⟨b, off, ha, hc k hk⟩
def Tgt.ok (t : Tgt) : Prop := t.rv.size ≤ 140737488351232 ∧ t.tg.size ≤ 140737488351232 ∧ wf64 t.pc
theorem getD_map {α β : Type} (f : α → β) (l : List α) (k : Nat) (d : α) (e : β) (h : k < l.length) : (l.map f).getD k e = f (l.getD k d) := by
  simp [List.getD, h]

theorem tgt_err (t : Tgt) : fst0 [unl t.nmd 1, unl (inB t.pc 0 100) 2] = t.err := by
  unfold Tgt.err unl
  cases t.nmd <;> cases inB t.pc 0 100 <;> rfl
def eachE (ts : List Tgt) : Int := fst0 (ts.map Tgt.err)

set_option maxHeartbeats 1000000 in
theorem each_any (nm cf : ByteArray) (a : Option Addr) (ts : List Tgt) (c : Nat) (rl : Int) (w : World) (hl : ts.length ≤ maxLen) (ht : TgtSl w a ts) (hk : ∀ i, i < ts.length → (ts.getD i tg0).ok) :
    Calls Try.prog 34 #[rtV nm cf (.slice a ts.length c) rl] w fun x w' => x = .returned (.int .i64 (eachE ts)) ∧ Below w.heap.size w w' := by
  have HT := Lib.hid ht
  have HK := Lib.hid hk
  clear ht hk
  unfold maxLen at hl
  unfold rtV
  go_enter Try.func34, Try.ntmps34
  go_wp2
  go_loopw [10] (fun i wr => ∃ k : Nat, k ≤ ts.length ∧ i = .int .i64 k ∧ Hid (Grow.G w wr) ∧ Hid (∀ j, j < k → (ts.map Tgt.err).getD j 0 = 0)) (fun i _ => ts.length - (intOf i).toNat)
  case atStart => exact ⟨0, by omega, rfl, (Grow.G.alloc (Grow.G.refl _) _), fun j h => by omega⟩
  case round =>
    obtain ⟨k, hk, rfl, G, H0⟩ := hrel
    by_cases hlt : k < ts.length
    · obtain ⟨b, off, rfl, hat⟩ := (HT.out.later G.out).at hlt
      have OK := HK.out k hlt
      have FA := Lib.hid (fst0_at (ts.map Tgt.err) k (by simpa using hlt) H0.out)
      have GM := Lib.hid (getD_map Tgt.err ts k tg0 0 hlt)
      generalize ts.getD k tg0 = t at *
      have N := Lib.hid (fun w => tnamed_any t w OK.1 OK.2.1)
      have M := Lib.hid (fun w => tpart_any t w)
      have E := Lib.hid (tgt_err t)
      obtain ⟨rv, tg, pc⟩ := t
      unfold Tgt.v at *
      have ⟨c0, c1, c2⟩ := hat
      simp only at c0 c1 c2
      clear hat OK
      go_wp2_with fail
      refine (first_any _ [unl (Tgt.nmd ⟨rv, tg, pc⟩) 1, unl (inB pc 0 100) 2] (fun | 0 => 45 | _ => 46) (fun _ => .agg #[.string rv, .string tg, .int .i64 pc]) _ (by show 2 ≤ 100; decide) ?_ ?_ ?_).mono ?_
      · intro i hi
        match i, hi with
        | 0, _ => go_simp
        | 1, _ => go_simp
      · intro i hi args w'
        match i, hi with
        | 0, _ => go_simp
        | 1, _ => go_simp
      · intro i hi _ w' _
        match i, hi with
        | 0, _ => exact N.out w'
        | 1, _ => exact M.out w'
      rintro e w1 ⟨he, hb⟩
      rw [E.out] at he
      subst he
      have G1 := Lib.hid (show Grow.G w w1 by have := G.out; clear c0 c1 c2; (repeat (first | with_reducible exact Grow.G.refl _ | with_reducible exact Below.refl _ _ | with_reducible refine Grow.G.alloc ?_ _ | with_reducible refine Grow.G.trans ?_ hb1 | ((with_reducible refine Below.setCell ?_ ?_ _); rotate_left; (focus (first | omega | (simp; done) | (simp; omega)))) | with_reducible assumption | with_reducible refine Grow.G.trans ?_ (by with_reducible assumption))))
      clear hb c0 c1 c2
      generalize hv : Tgt.err ⟨rv, tg, pc⟩ = v at *
      have HV := Lib.hid hv
      clear hv
      by_cases h0 : v = 0
      · subst h0
        go_wp2_with fail
        go_roundw
        case rel => exact ⟨k + 1, by omega, by go_num, G1.out, fun j hj => by
          by_cases e : j = k
          · rw [e, GM.out]
          · exact H0.out j (by omega)⟩
        case measure => simp [intOf]; omega
      · have h0' : (v != 0) = true := by simpa using h0
        have FE : Hid (eachE ts = v) := Lib.hid (by unfold eachE; rw [FA.out (by rw [GM.out]; exact h0), GM.out])
        clear h0
        go_wp2_with fail
        go_ret
        exact ⟨ret_i64 FE.out.symm, G1.out⟩
    · have FE : Hid (eachE ts = 0) := Lib.hid (fst0_none _ fun j hj => H0.out j (by rw [List.length_map] at hj; omega))
      go_wp2
      go_ret
      exact ⟨ret_i64 FE.out.symm, G.out⟩

def sumT (ts : List Tgt) : Int := (ts.map Tgt.pc).sum
theorem sumT_snoc (ts : List Tgt) (k : Nat) (h : k < ts.length) : sumT (ts.take (k + 1)) = sumT (ts.take k) + (ts.getD k tg0).pc := by
  unfold sumT
  rw [List.take_succ_eq_append_getElem h, List.map_append, List.sum_append]
  simp [List.getD, h]
theorem sumT_bd (ts : List Tgt) (h : ∀ i, i < ts.length → 0 ≤ (ts.getD i tg0).pc ∧ (ts.getD i tg0).pc ≤ 100) : ∀ k, k ≤ ts.length → 0 ≤ sumT (ts.take k) ∧ sumT (ts.take k) ≤ 100 * k
  | 0, _ => by simp [sumT]
  | k + 1, hk => by
    have := sumT_bd ts h k (by omega)
    have := h k (by omega)
    rw [sumT_snoc ts k (by omega)]; omega

set_option maxHeartbeats 1000000 in
theorem sum_any (nm cf : ByteArray) (a : Option Addr) (ts : List Tgt) (c : Nat) (rl : Int) (w : World) (hl : ts.length ≤ 100) (ht : TgtSl w a ts) (hk : ∀ i, i < ts.length → 0 ≤ (ts.getD i tg0).pc ∧ (ts.getD i tg0).pc ≤ 100) :
    Calls Try.prog 36 #[rtV nm cf (.slice a ts.length c) rl] w fun x w' => x = .returned (.int .i64 (unl (sumT ts == 100) 4)) ∧ Below w.heap.size w w' := by
  have HT := Lib.hid ht
  have HK := Lib.hid hk
  clear ht hk
  unfold rtV
  go_enter Try.func36, Try.ntmps36
  go_wp2
  go_loopw [3, 9] (fun s i wr => ∃ k : Nat, k ≤ ts.length ∧ i = .int .i64 k ∧ s = .int .i64 (sumT (ts.take k)) ∧ Hid (Grow.G w wr)) (fun _ i _ => ts.length - (intOf i).toNat)
  case atStart => exact ⟨0, by omega, rfl, rfl, (Grow.G.alloc (Grow.G.refl _) _)⟩
  case round =>
    obtain ⟨k, hk, rfl, rfl, G⟩ := hrel
    have bd := sumT_bd ts HK.out k hk
    by_cases hlt : k < ts.length
    · obtain ⟨b, off, rfl, hat⟩ := (HT.out.later G.out).at hlt
      have OK := HK.out k hlt
      have SN := Lib.hid (sumT_snoc ts k hlt)
      generalize ts.getD k tg0 = t at *
      generalize sumT (ts.take k) = s at *
      obtain ⟨rv, tg, pc⟩ := t
      have ⟨c0, c1, c2⟩ := hat
      simp only at c0 c1 c2 OK
      clear hat
      go_wp2_with fail
      go_roundw
      case rel => exact ⟨k + 1, by omega, by go_num, by rw [SN.out], by have := G.out; clear c0 c1 c2; show Grow.G _ _; (repeat (first | with_reducible exact Grow.G.refl _ | with_reducible exact Below.refl _ _ | with_reducible refine Grow.G.alloc ?_ _ | with_reducible refine Grow.G.trans ?_ hb1 | ((with_reducible refine Below.setCell ?_ ?_ _); rotate_left; (focus (first | omega | (simp; done) | (simp; omega)))) | with_reducible assumption | with_reducible refine Grow.G.trans ?_ (by with_reducible assumption)))⟩
      case measure => simp [intOf]; omega
    · have e : Hid (ts.take k = ts) := Lib.hid (List.take_of_length_le (by omega))
      rw [e.out] at bd ⊢
      generalize hs : sumT ts = s at *
      have HS := Lib.hid hs
      clear hs
      go_wp2_with (go_at_call 41; (with_reducible refine (unless_any _ _ _).mono ?_); rintro e w' ⟨rfl, rfl⟩)
      go_ret
      exact ⟨ret_i64 (by rw [HS.out]), G.out⟩

def dupF (seen : List ByteArray) : List ByteArray → Bool
  | [] => false
  | t :: l => (!strE t && Lib.containsS seen t) || dupF (seen ++ [t]) l
def dupT (ts : List Tgt) : Bool := dupF [] (ts.map Tgt.tg)
theorem dupF_step (L : List ByteArray) (k : Nat) (h : k < L.length) (d : ByteArray) : dupF (L.take k) (L.drop k) = ((!strE (L.getD k d) && Lib.containsS (L.take k) (L.getD k d)) || dupF (L.take (k + 1)) (L.drop (k + 1))) := by
  rw [List.drop_eq_getElem_cons h, List.take_succ_eq_append_getElem h]
  simp [dupF, List.getD, h]
theorem contains_own (w : World) (base : Nat) (v : Value) (xs : List ByteArray) (x : ByteArray) (hl : xs.length ≤ 9223372036854775807) (h : w.ownsRow base 9 1 v xs.length (xs.map Value.string)) :
    Calls Try.prog 47 #[v, .string x] w fun e w' => e = .returned (.bool (Lib.containsS xs x)) ∧ w = w' := by
  rcases h with ⟨hn, ⟨rfl, h0⟩ | ⟨g, cap, cur, rfl, hb, hg, h1, h2, h3, h4⟩⟩
  · have : xs = [] := List.eq_nil_of_length_eq_zero h0
    subst this
    exact (Try.slices_Contains_string_empty none 0 x w).mono fun e w' ⟨he, hw⟩ => ⟨by rw [he]; rfl, hw.symm⟩
  · refine (Try.slices_Contains_string g 0 xs.length cap xs x w (Nat.le_refl _) hl ?_).mono fun e w' ⟨he, hw⟩ => ⟨?_, hw.symm⟩
    · intro j hj
      have e1 : (cur.toList.take (xs.length * 1))[j]? = some (.string (xs.getD j ByteArray.empty)) := by rw [h4]; simp [List.getD, hj]
      rw [List.getElem?_take_of_lt (by omega)] at e1
      have e2 : cur[j]? = some (.string (xs.getD j ByteArray.empty)) := by simpa using e1
      simp [World.cell?, hg, e2]
    · rw [he, List.take_length]

theorem infoS : (Try.prog.info? 9).map (fun i => (i.zero, i.size, i.bytes)) = some (some (.string ⟨#[]⟩), 1, 16) := by kernel_rfl
set_option maxHeartbeats 1000000 in
theorem tags_any (nm cf : ByteArray) (a : Option Addr) (ts : List Tgt) (c : Nat) (rl : Int) (w : World) (hl : ts.length ≤ 100) (ht : TgtSl w a ts) :
    Calls Try.prog 35 #[rtV nm cf (.slice a ts.length c) rl] w fun x w' => x = .returned (.int .i64 (unl (!dupT ts) 5)) ∧ Below w.heap.size w w' := by
  have HT := Lib.hid ht
  clear ht
  obtain ⟨i0, hi, hz0, hz1, hz2⟩ := info_parts infoS
  obtain ⟨w₀, rfl⟩ : ∃ w₀, w₀ = w := ⟨_, rfl⟩
  have HI := Lib.hid hi; have HZ0 := Lib.hid hz0; have HZ1 := Lib.hid hz1; have HZ2 := Lib.hid hz2
  clear hi hz0 hz1 hz2
  unfold rtV
  go_enter Try.func35, Try.ntmps35
  go_wp2
  go_loopw [3, 9] (fun v i wr => ∃ k : Nat, k ≤ ts.length ∧ i = .int .i64 k ∧ Hid (wr.ownsRow (w₀.heap.size + 1) 9 1 v ((ts.map Tgt.tg).take k).length (((ts.map Tgt.tg).take k).map Value.string)) ∧ Hid (Grow.G w₀ wr) ∧ Hid (dupT ts = dupF ((ts.map Tgt.tg).take k) ((ts.map Tgt.tg).drop k))) (fun _ i _ => ts.length - (intOf i).toNat)
  case atStart => exact ⟨0, by omega, rfl, World.ownsRow_nil _ _ _ _, (Grow.G.alloc (Grow.G.refl _) _), rfl⟩
  case round =>
    obtain ⟨k, hk, rfl, OW, G, DU⟩ := hrel
    by_cases hlt : k < ts.length
    · obtain ⟨b, off, rfl, hat⟩ := (HT.out.later G.out).at hlt
      have DS := Lib.hid (dupF_step (ts.map Tgt.tg) k (by simpa using hlt) ⟨#[]⟩)
      have GM := Lib.hid (getD_map Tgt.tg ts k tg0 ⟨#[]⟩ hlt)
      generalize ts.getD k tg0 = t at *
      obtain ⟨rv, tg, pc⟩ := t
      have ⟨c0, c1, c2⟩ := hat
      simp only at c0 c1 c2
      clear hat
      have hlen : ((ts.map Tgt.tg).take k).length = k := by simp; omega
      have CT := Lib.hid (fun (w : World) (x : ByteArray) h => contains_own w (w₀.heap.size + 1) u3 ((ts.map Tgt.tg).take k) x (by omega) h)
      have HL := Lib.hid hlen
      clear hlen
      go_wp2_with (first | (go_at_call 47; (with_reducible refine (CT.out _ _ (OW.out.alloc _)).mono ?_); rintro e w' ⟨rfl, rfl⟩) | (at_builtin; refine wpList_append_own _ rfl _ _ 39 rfl (w₀.heap.size + 1) 9 i0 (.string ⟨#[]⟩) 1 16 Try.underlying39 HI.out HZ0.out HZ1.out HZ2.out rfl (by decide) _ _ _ rfl ((OW.out.alloc _).alloc _) ⟨wr.heap.size + 1, 0, none⟩ 1 1 [.string tg] rfl rfl (news_new _ [_] _ _ (by simp)) (one1 rfl) (by have := HL.out; unfold maxLen; omega) (by have := HL.out; omega) (by simp; have := G.out.size; omega) ?_; intro v' w1 hown hgr hnil))
      all_goals first
        | (have G1 := Lib.hid (own_grow (Grow.G.alloc (Grow.G.alloc G.out _) _) ((OW.out.alloc _).alloc _) (by omega) hgr)
           have DN : Hid (dupT ts = dupF ((ts.map Tgt.tg).take (k + 1)) ((ts.map Tgt.tg).drop (k + 1))) := Lib.hid (by rw [DU.out, DS.out, GM.out]; simp_all [strE])
           clear hgr hnil
           go_wp2_with fail
           go_roundw
           case rel => exact ⟨k + 1, by omega, by go_num, own_snoc (d := ⟨#[]⟩) (by simpa using hlt) (by rw [GM.out]; exact hown), G1.out, DN.out⟩
           case measure => simp [intOf]; omega)
        | (have FE : Hid (dupT ts = true) := Lib.hid (by rw [DU.out, DS.out, GM.out]; simp_all [strE])
           go_ret
           exact ⟨ret_i64 (by rw [FE.out]; rfl), Grow.G.alloc G.out _⟩)
    · have FE : Hid (dupT ts = false) := Lib.hid (by rw [DU.out, List.drop_eq_nil_of_le (by simp; omega)]; rfl)
      go_wp2
      go_ret
      exact ⟨ret_i64 (by rw [FE.out]; rfl), G.out⟩

theorem unl_zero {b : Bool} {e : Int} (he : e ≠ 0) (h : unl b e = 0) : b = true := by
  cases b
  · exact absurd h he
  · rfl
def routeL (nm cf : ByteArray) (ts : List Tgt) (rl : Int) : List Int :=
  [unl (nameB 16 nm && nameB 16 cf) 1, unl (inB rl 0 60) 2, unl (inB ts.length 1 6) 3, eachE ts, unl (!dupT ts) 5, unl (sumT ts == 100) 4]
def routeE (nm cf : ByteArray) (ts : List Tgt) (rl : Int) : Int := fst0 (routeL nm cf ts rl)
theorem fst0_zero : ∀ (L : List Int), fst0 L = 0 → ∀ j, j < L.length → L.getD j 0 = 0
  | [], _, j, h => by simp at h
  | a :: l, h, j, hj => by
    unfold fst0 at h
    split at h
    · rename_i ha
      cases j with
      | zero => simpa using ha
      | succ j => simpa using fst0_zero l h j (by simpa using hj)
    · rename_i ha; exact absurd h ha
theorem err_pc {t : Tgt} (h : t.err = 0) : 0 ≤ t.pc ∧ t.pc ≤ 100 := by
  unfold Tgt.err at h
  cases hn : t.nmd <;> simp [hn] at h
  by_cases hb : inB t.pc 0 100 = true
  · exact inB_iff.1 hb
  · simp [hb] at h
theorem each_pc {ts : List Tgt} (h : eachE ts = 0) : ∀ i, i < ts.length → 0 ≤ (ts.getD i tg0).pc ∧ (ts.getD i tg0).pc ≤ 100 := fun i hi => by
  have := fst0_zero _ h i (by simpa using hi)
  rw [getD_map Tgt.err ts i tg0 0 hi] at this
  exact err_pc this

set_option maxRecDepth 100000 in
set_option maxHeartbeats 1000000 in
theorem route_any (nm cf : ByteArray) (a : Option Addr) (ts : List Tgt) (c : Nat) (rl : Int) (w : World) (h1 : nm.size ≤ maxLen) (h2 : cf.size ≤ maxLen) (hl : ts.length ≤ maxLen) (ht : TgtSl w a ts) (hk : ∀ i, i < ts.length → (ts.getD i tg0).ok) :
    Calls Try.prog 22 #[rtV nm cf (.slice a ts.length c) rl] w fun x w' => x = .returned (.int .i64 (routeE nm cf ts rl)) ∧ Below w.heap.size w w' := by
  have HT := Lib.hid ht
  have C0 := Lib.hid (fun w => rnamed_any nm cf a ts.length c rl w h1 h2)
  have C1 := Lib.hid (fun w => rrolled_any nm cf a ts.length c rl w)
  have C2 := Lib.hid (fun w => rcounted_any nm cf a ts.length c rl w)
  have C3 := Lib.hid (fun w h => each_any nm cf a ts c rl w hl h hk)
  have C4 := Lib.hid (fun w hl h => tags_any nm cf a ts c rl w hl h)
  have C5 := Lib.hid (fun w hl h hk => sum_any nm cf a ts c rl w hl h hk)
  clear hk ht
  unfold rtV at *
  go_enter Try.func22, Try.ntmps22
  go_wp2_with fail
  refine (first_any _ (routeL nm cf ts rl) (fun | 0 => 31 | 1 => 32 | 2 => 33 | 3 => 34 | 4 => 35 | _ => 36) (fun _ => .agg #[.string nm, .string cf, .slice a ts.length c, .int .i64 rl]) _ (by show 6 ≤ 100; decide) ?_ ?_ ?_).mono ?_
  · intro i hi
    match i, hi with
    | 0, _ | 1, _ | 2, _ | 3, _ | 4, _ | 5, _ => go_simp
  · intro i hi args w'
    match i, hi with
    | 0, _ | 1, _ | 2, _ | 3, _ | 4, _ | 5, _ => go_simp
  · intro i hi hz w' hg
    have hg' : Grow.G w w' := Grow.G.trans (by (repeat (first | with_reducible exact Grow.G.refl _ | with_reducible exact Below.refl _ _ | with_reducible refine Grow.G.alloc ?_ _ | with_reducible refine Grow.G.trans ?_ hb1 | ((with_reducible refine Below.setCell ?_ ?_ _); rotate_left; (focus (first | omega | (simp; done) | (simp; omega)))) | with_reducible assumption | with_reducible refine Grow.G.trans ?_ (by with_reducible assumption)))) hg
    match i, hi with
    | 0, _ => exact C0.out w'
    | 1, _ => exact C1.out w'
    | 2, _ => exact C2.out w'
    | 3, _ => exact C3.out w' (HT.out.later hg')
    | 4, _ =>
      have := inB_iff.1 (unl_zero (by decide) (hz 2 (by omega)))
      exact C4.out w' (by omega) (HT.out.later hg')
    | 5, _ =>
      have := inB_iff.1 (unl_zero (by decide) (hz 2 (by omega)))
      exact C5.out w' (by omega) (HT.out.later hg') (each_pc (hz 3 (by omega)))
  rintro e w1 ⟨rfl, hb⟩
  go_wp2_with fail
  go_ret
  exact ⟨rfl, by (repeat (first | with_reducible exact Grow.G.refl _ | with_reducible exact Below.refl _ _ | with_reducible refine Grow.G.alloc ?_ _ | with_reducible refine Grow.G.trans ?_ hb1 | ((with_reducible refine Below.setCell ?_ ?_ _); rotate_left; (focus (first | omega | (simp; done) | (simp; omega)))) | with_reducible assumption | with_reducible refine Grow.G.trans ?_ (by with_reducible assumption)))⟩


theorem routeE_each {nm cf : ByteArray} {ts : List Tgt} {rl : Int} (h1 : nameB 16 nm = true) (h2 : nameB 16 cf = true) (h3 : inB rl 0 60 = true) (h4 : inB ts.length 1 6 = true) : routeE nm cf ts rl = if eachE ts = 0 then (if dupT ts then 5 else if sumT ts == 100 then 0 else 4) else eachE ts := by
  unfold routeE routeL
  simp only [h1, h2, h3, h4, Bool.and_self]
  cases dupT ts <;> cases (sumT ts == 100) <;> simp [fst0, unl]
theorem eachE_none {ts : List Tgt} (h0 : ∀ j, j < ts.length → (ts.getD j tg0).err = 0) : eachE ts = 0 :=
  fst0_none _ fun j hj => by rw [List.length_map] at hj; rw [getD_map Tgt.err ts j tg0 0 hj]; exact h0 j hj



end Go.Proofs.Ytgiihgpnmcchdaa

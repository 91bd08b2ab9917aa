/- My own texts Spec1, Spec2, Spec3, Spec4, Spec5, Spec6, Spec7, Spec8, laid in one file. -/
import Derived.Test.YtjcdmnogmpjkkaaDoorZ1
import Derived.Lib.SlicesS
import Derived.Test.YtjcdmnogmpjkkaaDoorZ2

/- What spec's small checks answer. -/
namespace Go.Proofs.YtjcdmnogmpjkkaaDoor
set_option maxRecDepth 100000
set_option linter.unusedVariables false
set_option linter.unusedSimpArgs false
set_option linter.unnecessarySimpa false
open Go.RowKit

def inB (n a b : Int) : Bool := decide (a ≤ n ∧ n ≤ b)
theorem inB_iff {n a b : Int} : inB n a b = true ↔ a ≤ n ∧ n ≤ b := by simp [inB]
def unl (b : Bool) (e : Int) : Int := if b then 0 else e

theorem unless_any (b : Bool) (e : Int) (w : World) :
    Calls Tryd.prog 61 #[.bool b, .int .i64 e] w fun x w' => x = .returned (.int .i64 (unl b e)) ∧ w = w' := by
  cases b
  all_goals
    go_enter Tryd.func61, Tryd.ntmps61
    go_wp2
    go_ret
    exact ⟨rfl, rfl⟩
theorem swithin_any (n a b : Int) (w : World) :
    Calls Tryd.prog 62 #[.int .i64 n, .int .i64 a, .int .i64 b] w fun x w' => x = .returned (.bool (inB n a b)) ∧ w = w' := by
  go_enter Tryd.func62, Tryd.ntmps62
  go_wp2
  all_goals
    go_ret
    exact ⟨ret_bool (by rw [Bool.eq_iff_iff]; simp [inB] <;> omega), rfl⟩

/-- A configuration's fields. -/
structure Cfg where
  nm : ByteArray
  im : Int
  co : Int
  mn : Int
  mx : Int
  gr : Int
deriving DecidableEq
def Cfg.v (c : Cfg) : Value := .agg #[.string c.nm, .int .i64 c.im, .int .i64 c.co, .int .i64 c.mn, .int .i64 c.mx, .int .i64 c.gr]
def Cfg.num (c : Cfg) : Bool := inB c.im 0 255 && inB c.co 1 8 && inB c.mx 1 10 && inB c.mn 0 c.mx && inB c.gr 0 30
def Cfg.err (c : Cfg) : Int := if nameB 16 c.nm then (if c.num then 0 else 2) else 1

theorem cnamed_any (c : Cfg) (w : World) (hs : c.nm.size ≤ maxLen) :
    Calls Tryd.prog 51 #[c.v] w fun x w' => x = .returned (.int .i64 (unl (nameB 16 c.nm) 1)) ∧ Below w.heap.size w w' := by
  obtain ⟨nm, im, co, mn, mx, gr⟩ := c
  unfold Cfg.v
  go_enter Tryd.func51, Tryd.ntmps51
  go_wp2_with (first | (go_at_call 48; (with_reducible refine (name_any _ _ hs).mono ?_); rintro e w' ⟨rfl, hb⟩; have ⟨hbc, hbf, hbz⟩ := bcell hb) | (go_at_call 61; (with_reducible refine (unless_any _ _ _).mono ?_); rintro e w' ⟨rfl, rfl⟩))
  go_ret
  exact ⟨rfl, by (repeat (first | with_reducible exact Grow.G.refl _ | with_reducible exact Below.refl _ _ | with_reducible refine Grow.G.alloc ?_ _ | with_reducible refine Grow.G.trans ?_ hb1 | ((with_reducible refine Below.setCell ?_ ?_ _); rotate_left; (focus (first | omega | (simp; done) | (simp; omega)))) | with_reducible assumption | with_reducible refine Grow.G.trans ?_ (by with_reducible assumption)))⟩
theorem cnumbers_any (c : Cfg) (w : World) :
    Calls Tryd.prog 52 #[c.v] w fun x w' => x = .returned (.int .i64 (unl c.num 2)) ∧ Below w.heap.size w w' := by
  obtain ⟨nm, im, co, mn, mx, gr⟩ := c
  unfold Cfg.v Cfg.num
  simp only
  go_enter Tryd.func52, Tryd.ntmps52
  go_wp2_with (first | (go_at_call 62; (with_reducible refine (swithin_any _ _ _ _).mono ?_); rintro e w' ⟨rfl, rfl⟩) | (go_at_call 61; (with_reducible refine (unless_any _ _ _).mono ?_); rintro e w' ⟨rfl, rfl⟩))
  all_goals
    go_ret
    exact ⟨ret_i64 (by simp [*]), by (repeat (first | with_reducible exact Grow.G.refl _ | with_reducible exact Below.refl _ _ | with_reducible refine Grow.G.alloc ?_ _ | with_reducible refine Grow.G.trans ?_ hb1 | ((with_reducible refine Below.setCell ?_ ?_ _); rotate_left; (focus (first | omega | (simp; done) | (simp; omega)))) | with_reducible assumption | with_reducible refine Grow.G.trans ?_ (by with_reducible assumption)))⟩
/-- A target's fields. -/
structure Tgt where
  rv : ByteArray
  tg : ByteArray
  pc : Int
deriving DecidableEq
def Tgt.v (t : Tgt) : Value := .agg #[.string t.rv, .string t.tg, .int .i64 t.pc]
def revB (s : ByteArray) : Bool := (parse s).isSome
def strE (s : ByteArray) : Bool := s.toList.isEmpty
def Tgt.nmd (t : Tgt) : Bool := (strE t.rv || revB t.rv) && (strE t.tg || nameB 8 t.tg)
def Tgt.err (t : Tgt) : Int := if t.nmd then (if inB t.pc 0 100 then 0 else 2) else 1

def fst0 : List Int → Int
  | [] => 0
  | a :: l => if a = 0 then fst0 l else a
theorem fst0_at : ∀ (L : List Int) (k : Nat), k < L.length → (∀ j, j < k → L.getD j 0 = 0) → L.getD k 0 ≠ 0 → fst0 L = L.getD k 0
  | [], k, h, _, _ => by simp at h
  | a :: l, 0, _, _, h => by simp at h; simp [fst0, h]
  | a :: l, k + 1, h, h0, h1 => by
    have ha : a = 0 := by simpa using h0 0 (by omega)
    have := fst0_at l k (by simpa using h) (fun j hj => by simpa using h0 (j + 1) (by omega)) (by simpa using h1)
    simp only [fst0, if_pos ha]
    simpa using this
theorem fst0_none : ∀ (L : List Int), (∀ j, j < L.length → L.getD j 0 = 0) → fst0 L = 0
  | [], _ => rfl
  | a :: l, h => by
    have ha : a = 0 := by simpa using h 0 (by simp)
    simp only [fst0, if_pos ha]
    exact fst0_none l fun j hj => by simpa using h (j + 1) (by simpa using hj)

set_option maxHeartbeats 400000 in
theorem first_any (b : Nat) (L : List Int) (fs : Nat → FuncId) (av : Nat → Value) (w : World) (hn : L.length ≤ 100)
    (hc : ∀ i, i < L.length → w.cell? ⟨b, i, none⟩ = some (.func (.func (fs i)) #[av i] #[]))
    (hr : ∀ i, i < L.length → ∀ args w', (callFunc (fs i) args).run Tryd.prog w' = .ok (.enter (fs i) args) w')
    (hf : ∀ i, i < L.length → (∀ j, j < i → L.getD j 0 = 0) → ∀ w', Grow.G w w' → Calls Tryd.prog (fs i) #[av i] w' fun e w'' => e = .returned (.int .i64 (L.getD i 0)) ∧ Grow.G w' w'') :
    Calls Tryd.prog 50 #[.slice (some ⟨b, 0, none⟩) L.length L.length] w fun x w' => x = .returned (.int .i64 (fst0 L)) ∧ Below w.heap.size w w' := by
  have HC := Lib.hid hc
  have HF := Lib.hid hf
  have HR := Lib.hid hr
  clear hc hf hr
  go_enter Tryd.func50, Tryd.ntmps50
  go_wp2
  go_loopw [8] (fun i wr => ∃ k : Nat, k ≤ L.length ∧ i = .int .i64 k ∧ Grow.G w wr ∧ Hid (∀ j, j < k → L.getD j 0 = 0)) (fun i _ => L.length - (intOf i).toNat)
  case atStart => exact ⟨0, by omega, rfl, Grow.G.refl _, fun j h => by omega⟩
  case round =>
    obtain ⟨k, hk, rfl, hg, HK⟩ := hrel
    by_cases hlt : k < L.length
    · have hcell : wr.cell? ⟨b, k, none⟩ = some (.func (.func (fs k)) #[av k] #[]) := cell_later hg (HC.out k hlt)
      have C := Lib.hid (HF.out k hlt HK.out)
      have hrun := HR.out k hlt
      have G := Lib.hid hg
      have FA := Lib.hid (fst0_at L k hlt HK.out)
      generalize hv : L.getD k 0 = v at *
      have HV := Lib.hid hv
      clear hg hv
      go_wp2_with fail
      refine (C.out _ G.out).mono ?_
      rintro e w1 ⟨rfl, hb⟩
      clear hrun hcell
      have G1 := Lib.hid (Grow.G.trans G.out hb)
      clear hb
      by_cases h0 : v = 0
      · subst h0
        go_wp2_with fail
        go_roundw
        case rel => exact ⟨k + 1, by omega, by go_num, G1.out, fun j hj => by
          by_cases e : j = k
          · rw [e]; exact HV.out
          · exact HK.out j (by omega)⟩
        case measure => simp [intOf]; omega
      · have h0' : (v != 0) = true := by simpa using h0
        have FE := Lib.hid (FA.out h0)
        clear h0
        go_wp2_with fail
        go_ret
        exact ⟨ret_i64 FE.out.symm, G1.out⟩
    · have FE := Lib.hid (fst0_none L fun j hj => HK.out j (by omega))
      go_wp2
      go_ret
      exact ⟨ret_i64 FE.out.symm, hg⟩

theorem cfg_err (c : Cfg) : fst0 [unl (nameB 16 c.nm) 1, unl c.num 2] = c.err := by
  unfold Cfg.err unl
  cases nameB 16 c.nm <;> cases c.num <;> rfl
set_option maxHeartbeats 400000 in
theorem config_any (c : Cfg) (w : World) (hs : c.nm.size ≤ maxLen) :
    Calls Tryd.prog 29 #[c.v] w fun x w' => x = .returned (.int .i64 c.err) ∧ Below w.heap.size w w' := by
  have N := Lib.hid (fun w => cnamed_any c w hs)
  have M := Lib.hid (fun w => cnumbers_any c w)
  have E := Lib.hid (cfg_err c)
  obtain ⟨nm, im, co, mn, mx, gr⟩ := c
  unfold Cfg.v at *
  go_enter Tryd.func29, Tryd.ntmps29
  go_wp2_with fail
  refine (first_any _ [unl (nameB 16 nm) 1, unl (Cfg.num ⟨nm, im, co, mn, mx, gr⟩) 2] (fun | 0 => 51 | _ => 52) (fun _ => .agg #[.string nm, .int .i64 im, .int .i64 co, .int .i64 mn, .int .i64 mx, .int .i64 gr]) _ (by show 2 ≤ 100; decide) ?_ ?_ ?_).mono ?_
  · intro i hi
    match i, hi with
    | 0, _ => go_simp
    | 1, _ => go_simp
  · intro i hi args w'
    match i, hi with
    | 0, _ => go_simp
    | 1, _ => go_simp
  · intro i hi _ w' _
    match i, hi with
    | 0, _ => exact N.out w'
    | 1, _ => exact M.out w'
  rintro e w1 ⟨rfl, hb⟩
  go_wp2_with fail
  go_ret
  exact ⟨ret_i64 E.out, by (repeat (first | with_reducible exact Grow.G.refl _ | with_reducible exact Below.refl _ _ | with_reducible refine Grow.G.alloc ?_ _ | with_reducible refine Grow.G.trans ?_ hb1 | ((with_reducible refine Below.setCell ?_ ?_ _); rotate_left; (focus (first | omega | (simp; done) | (simp; omega)))) | with_reducible assumption | with_reducible refine Grow.G.trans ?_ (by with_reducible assumption)))⟩

structure TgtAt (w : World) (b o : Nat) (t : Tgt) : Prop where
  c0 : w.cell? ⟨b, o, none⟩ = some (.string t.rv)
  c1 : w.cell? ⟨b, o + 1, none⟩ = some (.string t.tg)
  c2 : w.cell? ⟨b, o + 1 + 1, none⟩ = some (.int .i64 t.pc)
def tg0 : Tgt := ⟨⟨#[]⟩, ⟨#[]⟩, 0⟩
/-- A slice's targets. -/
def TgtSl (w : World) (a : Option Addr) (ts : List Tgt) : Prop := ts = [] ∨ ∃ b off, a = some ⟨b, off, none⟩ ∧ ∀ i, i < ts.length → TgtAt w b (off + i * 3) (ts.getD i tg0)
theorem TgtAt.later {w w' : World} {b o : Nat} {t : Tgt} (h : TgtAt w b o t) (g : Grow.G w w') : TgtAt w' b o t := ⟨cell_later g h.c0, cell_later g h.c1, cell_later g h.c2⟩
theorem TgtSl.later {w w' : World} {a : Option Addr} {ts : List Tgt} (h : TgtSl w a ts) (g : Grow.G w w') : TgtSl w' a ts :=
  h.imp id fun ⟨b, off, ha, hc⟩ => ⟨b, off, ha, fun i hi => (hc i hi).later g⟩
theorem TgtSl.at {w : World} {a : Option Addr} {ts : List Tgt} (h : TgtSl w a ts) {k : Nat} (hk : k < ts.length) : ∃ b off, a = some ⟨b, off, none⟩ ∧ TgtAt w b (off + k * 3) (ts.getD k tg0) := by
  rcases h with rfl | ⟨b, off, ha, hc⟩
  · simp at hk
  · exact ⟨b, off, ha, hc k hk⟩
def Tgt.ok (t : Tgt) : Prop := t.rv.size ≤ 140737488351232 ∧ t.tg.size ≤ 140737488351232 ∧ wf64 t.pc
def eachE (ts : List Tgt) : Int := fst0 (ts.map Tgt.err)

def sumT (ts : List Tgt) : Int := (ts.map Tgt.pc).sum

def dupF (seen : List ByteArray) : List ByteArray → Bool
  | [] => false
  | t :: l => (!strE t && Lib.containsS seen t) || dupF (seen ++ [t]) l
def dupT (ts : List Tgt) : Bool := dupF [] (ts.map Tgt.tg)
theorem infoS : (Tryd.prog.info? 9).map (fun i => (i.zero, i.size, i.bytes)) = some (some (.string ⟨#[]⟩), 1, 16) := by kernel_rfl

def routeL (nm cf : ByteArray) (ts : List Tgt) (rl : Int) : List Int :=
  [unl (nameB 16 nm && nameB 16 cf) 1, unl (inB rl 0 60) 2, unl (inB ts.length 1 6) 3, eachE ts, unl (!dupT ts) 5, unl (sumT ts == 100) 4]
def routeE (nm cf : ByteArray) (ts : List Tgt) (rl : Int) : Int := fst0 (routeL nm cf ts rl)



end Go.Proofs.YtjcdmnogmpjkkaaDoor

/- My own texts ShP, ShM, RowC1, RowC2, RowC3, RowC4, laid in one file. -/
import Derived.Test.YtlnffdkaleapbaaGreatZ4
import Derived.Test.YtlnffdkaleapbaaGreatZ29
import Derived.Test.YtlnffdkaleapbaaGreatZ2
import Derived.Handy
import Derived.Test.YtlnffdkaleapbaaGreatSorted

/- What a shelf is: plain facts. -/
namespace Go.Proofs.YtlnffdkaleapbaaGreat
set_option maxRecDepth 100000
set_option linter.unusedVariables false
set_option linter.unusedSimpArgs false
open Go.RowKit Go.MapV

structure Rt where
  nm : ByteArray
  cf : ByteArray
  ts : List Tgt
  rl : Int
def Rt.err (r : Rt) : Int := routeE r.nm r.cf r.ts r.rl
/-- A shelf: how many calls were done; what there is of each kind, with its version; each generation. -/
structure Sh where
  n : Nat
  cf : ByteArray → Option (Cfg × Nat)
  rt : ByteArray → Option (Rt × Nat)
  gn : ByteArray → Nat
def upd {α : Type} (f : ByteArray → α) (s : ByteArray) (x : α) : ByteArray → α := fun y => if y = s then x else f y
theorem upd_at {α : Type} (f : ByteArray → α) (s : ByteArray) (x : α) : upd f s x s = x := if_pos rfl
theorem upd_ne {α : Type} (f : ByteArray → α) {s y : ByteArray} (x : α) (h : y ≠ s) : upd f s x y = f y := if_neg h
def heldP (o : Option Nat) (v : Int) : Int := match o with
  | none => 6
  | some k => if (k : Int) = v then 0 else 7
def mayP (o : Option Nat) (v : Int) : Int := if v = 0 then (if o.isSome then 5 else 0) else heldP o v
def verO {α : Type} (o : Option (α × Nat)) : Option Nat := o.map (·.2)
namespace Sh
def new : Sh := ⟨0, fun _ => none, fun _ => none, fun _ => 0⟩
def wasC (s : Sh) (c : Cfg) : Bool := (s.cf c.nm).map (·.1) == some c
def putC (s : Sh) (c : Cfg) (v : Int) : Int := if c.err = 0 then mayP (verO (s.cf c.nm)) v else c.err
def rawC (s : Sh) (c : Cfg) : Sh := ⟨s.n + 1, upd s.cf c.nm (some (c, s.n + 1)), s.rt, s.gn⟩
def ren (s : Sh) (nm : ByteArray) : Sh := ⟨s.n, s.cf, s.rt, upd s.gn nm (s.gn nm + 1)⟩
def setC (s : Sh) (c : Cfg) : Sh := if s.wasC c then s.rawC c else (s.rawC c).ren c.nm
def aftC (s : Sh) (c : Cfg) (v : Int) : Sh := if s.putC c v = 0 then s.setC c else s
def putR (s : Sh) (r : Rt) (v : Int) : Int := if r.err = 0 then mayP (verO (s.rt r.nm)) v else r.err
def setR (s : Sh) (r : Rt) : Sh := ⟨s.n + 1, s.cf, upd s.rt r.nm (some (r, s.n + 1)), s.gn⟩
def aftR (s : Sh) (r : Rt) (v : Int) : Sh := if s.putR r v = 0 then s.setR r else s
def numOf (s : Sh) (e : Int) : Int := if e = 0 then ((s.n + 1 : Nat) : Int) else 0
def verK (s : Sh) (k : Int) (nm : ByteArray) : Option Nat := if k = 1 then verO (s.cf nm) else verO (s.rt nm)
def drop (s : Sh) (k : Int) (nm : ByteArray) (v : Int) : Int := if k = 1 ∨ k = 2 then heldP (s.verK k nm) v else 12
def cut (s : Sh) (k : Int) (nm : ByteArray) : Sh := if k = 1 then ⟨s.n + 1, upd s.cf nm none, s.rt, s.gn⟩ else ⟨s.n + 1, s.cf, upd s.rt nm none, s.gn⟩
def aftD (s : Sh) (k : Int) (nm : ByteArray) (v : Int) : Sh := if s.drop k nm v = 0 then s.cut k nm else s
/-- What there is by name. -/
def names (s : Sh) (k : Int) (x : ByteArray) : Bool := if k = 1 then (s.cf x).isSome else if k = 2 then (s.rt x).isSome else false
/-- What is so of each shelf. -/
structure ok (s : Sh) : Prop where
  c : ∀ nm c v, s.cf nm = some (c, v) → c.nm = nm ∧ c.err = 0 ∧ 1 ≤ v ∧ v ≤ s.n
  r : ∀ nm r v, s.rt nm = some (r, v) → r.nm = nm ∧ r.err = 0 ∧ 1 ≤ v ∧ v ≤ s.n
  g : ∀ nm, s.gn nm ≤ s.n
theorem ok_new : new.ok := ⟨fun _ _ _ h => (by cases h), fun _ _ _ h => (by cases h), fun _ => Nat.le_refl _⟩
theorem ok_rawC {s : Sh} (h : s.ok) {c : Cfg} (hc : c.err = 0) : (s.rawC c).ok := by
  refine ⟨fun nm d v hd => ?_, fun nm r v hr => ?_, fun nm => Nat.le_succ_of_le (h.g nm)⟩
  · by_cases e : nm = c.nm
    · subst e
      have hd : upd s.cf c.nm (some (c, s.n + 1)) c.nm = some (d, v) := hd
      rw [upd_at] at hd
      cases hd
      exact ⟨rfl, hc, by omega, Nat.le_refl _⟩
    · have hd : upd s.cf c.nm (some (c, s.n + 1)) nm = some (d, v) := hd
      rw [upd_ne _ _ e] at hd
      obtain ⟨h1, h2, h3, h4⟩ := h.c nm d v hd
      exact ⟨h1, h2, h3, Nat.le_succ_of_le h4⟩
  · obtain ⟨h1, h2, h3, h4⟩ := h.r nm r v hr
    exact ⟨h1, h2, h3, Nat.le_succ_of_le h4⟩
theorem ok_ren {s : Sh} (h : s.ok) {nm : ByteArray} (hn : s.gn nm < s.n) : (s.ren nm).ok := by
  refine ⟨h.c, h.r, fun x => ?_⟩
  show upd s.gn nm _ x ≤ s.n
  unfold upd
  split
  · omega
  · exact h.g x
theorem ok_setC {s : Sh} (h : s.ok) {c : Cfg} (hc : c.err = 0) : (s.setC c).ok := by
  unfold setC
  split
  · exact ok_rawC h hc
  · exact ok_ren (ok_rawC h hc) (Nat.lt_succ_of_le (h.g c.nm))
theorem n_setC (s : Sh) (c : Cfg) : (s.setC c).n = s.n + 1 := by unfold setC; split <;> rfl
theorem ok_setR {s : Sh} (h : s.ok) {r : Rt} (hr : r.err = 0) : (s.setR r).ok := by
  refine ⟨fun nm d v hd => ?_, fun nm d v hd => ?_, fun nm => Nat.le_succ_of_le (h.g nm)⟩
  · obtain ⟨h1, h2, h3, h4⟩ := h.c nm d v hd
    exact ⟨h1, h2, h3, Nat.le_succ_of_le h4⟩
  · by_cases e : nm = r.nm
    · subst e
      have hd : upd s.rt r.nm (some (r, s.n + 1)) r.nm = some (d, v) := hd
      rw [upd_at] at hd
      cases hd
      exact ⟨rfl, hr, by omega, Nat.le_refl _⟩
    · have hd : upd s.rt r.nm (some (r, s.n + 1)) nm = some (d, v) := hd
      rw [upd_ne _ _ e] at hd
      obtain ⟨h1, h2, h3, h4⟩ := h.r nm d v hd
      exact ⟨h1, h2, h3, Nat.le_succ_of_le h4⟩
theorem ok_cut {s : Sh} (h : s.ok) (k : Int) (nm : ByteArray) : (s.cut k nm).ok := by
  unfold cut
  split
  · refine ⟨fun x d v hd => ?_, fun x d v hd => ?_, fun x => Nat.le_succ_of_le (h.g x)⟩
    · by_cases e : x = nm
      · subst e
        have hd : upd s.cf x none x = some (d, v) := hd
        rw [upd_at] at hd; cases hd
      · have hd : upd s.cf nm none x = some (d, v) := hd
        rw [upd_ne _ _ e] at hd
        obtain ⟨h1, h2, h3, h4⟩ := h.c x d v hd
        exact ⟨h1, h2, h3, Nat.le_succ_of_le h4⟩
    · obtain ⟨h1, h2, h3, h4⟩ := h.r x d v hd
      exact ⟨h1, h2, h3, Nat.le_succ_of_le h4⟩
  · refine ⟨fun x d v hd => ?_, fun x d v hd => ?_, fun x => Nat.le_succ_of_le (h.g x)⟩
    · obtain ⟨h1, h2, h3, h4⟩ := h.c x d v hd
      exact ⟨h1, h2, h3, Nat.le_succ_of_le h4⟩
    · by_cases e : x = nm
      · subst e
        have hd : upd s.rt x none x = some (d, v) := hd
        rw [upd_at] at hd; cases hd
      · have hd : upd s.rt nm none x = some (d, v) := hd
        rw [upd_ne _ _ e] at hd
        obtain ⟨h1, h2, h3, h4⟩ := h.r x d v hd
        exact ⟨h1, h2, h3, Nat.le_succ_of_le h4⟩
end Sh
theorem cfg_small {c : Cfg} (h : c.err = 0) : c.nm.size ≤ 16 ∧ c.wf := by
  unfold Cfg.err at h
  split at h
  · rename_i h1
    split at h
    · rename_i h2
      unfold Cfg.num at h2
      simp only [Bool.and_eq_true, inB_iff] at h2
      obtain ⟨⟨⟨⟨a, b⟩, c0⟩, d⟩, e⟩ := h2
      refine ⟨?_, ?_, ?_, ?_, ?_, ?_⟩
      · exact (of_decide_eq_true h1).2.1
      all_goals unfold wf64; omega
    · cases h
  · cases h
end Go.Proofs.YtlnffdkaleapbaaGreat

/- What a shelf is in memory. -/
namespace Go.Proofs.YtlnffdkaleapbaaGreat
set_option maxRecDepth 100000
set_option linter.unusedVariables false
set_option linter.unusedSimpArgs false
set_option linter.unnecessarySimpa false
open Go.RowKit Go.MapV Go.Maps

/-- What lies in a shelf's rows. -/
structure ObC where
  c : Cfg
  v : Nat
def ObC.val (o : ObC) : Value := .agg #[.string o.c.nm, .int .i64 o.c.im, .int .i64 o.c.co, .int .i64 o.c.mn, .int .i64 o.c.mx, .int .i64 o.c.gr, .int .i64 o.v]
structure ObR where
  r : Rt
  b : Nat
  cap : Nat
  v : Nat
def ObR.sl (o : ObR) : Value := .slice (some ⟨o.b, 0, none⟩) o.r.ts.length o.cap
def ObR.val (o : ObR) : Value := .agg #[.string o.r.nm, .string o.r.cf, .slice (some ⟨o.b, 0, none⟩) o.r.ts.length o.cap, .int .i64 o.r.rl, .int .i64 o.v]
abbrev zC : Value := .agg #[.string ⟨#[]⟩, .int .i64 0, .int .i64 0, .int .i64 0, .int .i64 0, .int .i64 0, .int .i64 0]
abbrev zR : Value := .agg #[.string ⟨#[]⟩, .string ⟨#[]⟩, .slice none 0 0, .int .i64 0, .int .i64 0]
theorem zeroC (w : World) : (zeroValue 71).run Tryz.prog w = .ok zC w := by kernel_rfl
theorem zeroR (w : World) : (zeroValue 114).run Tryz.prog w = .ok zR w := by kernel_rfl
theorem zeroI (w : World) : (zeroValue 3).run Tryz.prog w = .ok (.int .i64 0) w := by kernel_rfl
theorem keyedS : Keyed Tryz.prog 9 := string_keyed Tryz.underlying9
abbrev fC (f : ByteArray → Option ObC) : Lit → Option Value := onS fun x => (f x).map ObC.val
abbrev fR (f : ByteArray → Option ObR) : Lit → Option Value := onS fun x => (f x).map ObR.val
def gVal (k : Nat) : Option Value := if k = 0 then none else some (.int .i64 k)
abbrev fG (f : ByteArray → Nat) : Lit → Option Value := onS fun x => gVal (f x)
abbrev MapS (w : World) (m : Option Nat) (n : Nat) (f : Lit → Option Value) : Prop := MapN Tryz.prog 9 w m n f
def shC (n : Nat) (mc mr mg : Option Nat) : List Value := [.int .i64 n, .map mc, .map mr, .map mg]
abbrev pt (b : Nat) : Value := .pointer (some ⟨b, 0, none⟩)
abbrev shT : TypeId := 65
theorem run_nilC (m : Option Nat) (w : World) : (binOp .eql 57 (.map m) (.map none)).run Tryz.prog w = .ok (.bool m.isNone) w := by
  cases m <;> kernel_rfl
theorem run_nilR (m : Option Nat) (w : World) : (binOp .eql 60 (.map m) (.map none)).run Tryz.prog w = .ok (.bool m.isNone) w := by
  cases m <;> kernel_rfl
theorem run_nilI (m : Option Nat) (w : World) : (binOp .eql 63 (.map m) (.map none)).run Tryz.prog w = .ok (.bool m.isNone) w := by
  cases m <;> kernel_rfl

theorem at_noneC {f : ByteArray → Option ObC} {nm : ByteArray} (h : f nm = none) : (fC f (strK nm)).getD zC = zC ∧ (fC f (strK nm)).isSome = false := by
  have e : fC f (strK nm) = none := by show (f nm).map ObC.val = _; rw [h]; rfl
  rw [e]; exact ⟨rfl, rfl⟩
theorem at_someC {f : ByteArray → Option ObC} {nm : ByteArray} {o : ObC} (h : f nm = some o) : (fC f (strK nm)).getD zC = o.val ∧ (fC f (strK nm)).isSome = true := by
  have e : fC f (strK nm) = some o.val := by show (f nm).map ObC.val = _; rw [h]; rfl
  rw [e]; exact ⟨rfl, rfl⟩
set_option maxHeartbeats 1000000 in
theorem getC_any (g off : Nat) (m : Option Nat) (n : Nat) (f : ByteArray → Option ObC) (nm : ByteArray) (w : World) (hc : w.cell? ⟨g, off, none⟩ = some (.map m)) (hg : g < w.heap.size) (hm : MapS w m n (fC f)) (hs : nm.size ≤ maxLen) :
    Calls Tryz.prog 24 #[.pointer (some ⟨g, off, none⟩), .string nm] w fun e w' => e = .returned (.tuple #[((f nm).map ObC.val).getD zC, .bool (f nm).isSome]) ∧ Grow.G w w' := by
  have hM := Lib.hid hm
  clear hm
  cases hf : f nm with
  | none =>
    obtain ⟨hv, hb⟩ := at_noneC hf
    have HV := Lib.hid hv
    have HB := Lib.hid hb
    clear hf hv hb
    go_enter Tryz.func24, Tryz.ntmps24
    go_wp2_with (at_lookup; refine look2v zC false rfl rfl keyedS Tryz.underlying57 zeroC rfl (hM.out.grow (Grow.G.alloc (Grow.G.refl _) _)) rfl (keyS Tryz.underlying9 hs) HV.out HB.out ?_)
    go_returns
    exact ⟨rfl, by (repeat (first | with_reducible exact Grow.G.refl _ | with_reducible exact Below.refl _ _ | with_reducible refine Grow.G.alloc ?_ _ | with_reducible refine Grow.G.trans ?_ hb1 | ((with_reducible refine Below.setCell ?_ ?_ _); rotate_left; (focus (first | omega | (simp; done) | (simp; omega)))) | with_reducible assumption | with_reducible refine Grow.G.trans ?_ (by with_reducible assumption)))⟩
  | some o =>
    obtain ⟨hv, hb⟩ := at_someC hf
    clear hf
    obtain ⟨⟨n1, n2, n3, n4, n5, n6⟩, v1⟩ := o
    unfold ObC.val at hv
    dsimp only at hv
    have HV := Lib.hid hv
    have HB := Lib.hid hb
    clear hv hb
    go_enter Tryz.func24, Tryz.ntmps24
    go_wp2_with (at_lookup; refine look2v _ true rfl rfl keyedS Tryz.underlying57 zeroC rfl (hM.out.grow (Grow.G.alloc (Grow.G.refl _) _)) rfl (keyS Tryz.underlying9 hs) HV.out HB.out ?_)
    go_returns
    exact ⟨rfl, by (repeat (first | with_reducible exact Grow.G.refl _ | with_reducible exact Below.refl _ _ | with_reducible refine Grow.G.alloc ?_ _ | with_reducible refine Grow.G.trans ?_ hb1 | ((with_reducible refine Below.setCell ?_ ?_ _); rotate_left; (focus (first | omega | (simp; done) | (simp; omega)))) | with_reducible assumption | with_reducible refine Grow.G.trans ?_ (by with_reducible assumption)))⟩
set_option maxHeartbeats 1000000 in
theorem heldC_any (g off : Nat) (m : Option Nat) (n : Nat) (f : ByteArray → Option ObC) (nm : ByteArray) (v : Int) (w : World) (hc : w.cell? ⟨g, off, none⟩ = some (.map m)) (hg : g < w.heap.size) (hm : MapS w m n (fC f)) (hs : nm.size ≤ maxLen) :
    Calls Tryz.prog 64 #[.pointer (some ⟨g, off, none⟩), .string nm, .int .i64 v] w fun e w' => e = .returned (.int .i64 (heldP ((f nm).map ObC.v) v)) ∧ Grow.G w w' := by
  have hM := Lib.hid hm
  clear hm
  cases hf : f nm with
  | none =>
    obtain ⟨hv, hb⟩ := at_noneC hf
    have HV := Lib.hid hv
    have HB := Lib.hid hb
    clear hf hv hb
    go_enter Tryz.func64, Tryz.ntmps64
    go_wp2_with (at_lookup; refine look2v zC false rfl rfl keyedS Tryz.underlying57 zeroC rfl hM.out rfl (keyS Tryz.underlying9 hs) HV.out HB.out ?_)
    go_ret
    exact ⟨rfl, by (repeat (first | with_reducible exact Grow.G.refl _ | with_reducible exact Below.refl _ _ | with_reducible refine Grow.G.alloc ?_ _ | with_reducible refine Grow.G.trans ?_ hb1 | ((with_reducible refine Below.setCell ?_ ?_ _); rotate_left; (focus (first | omega | (simp; done) | (simp; omega)))) | with_reducible assumption | with_reducible refine Grow.G.trans ?_ (by with_reducible assumption)))⟩
  | some o =>
    obtain ⟨hv, hb⟩ := at_someC hf
    clear hf
    obtain ⟨e, he⟩ : ∃ e, heldP ((some o).map ObC.v) v = e := ⟨_, rfl⟩
    rw [he]
    have hE : (((o.v : Int) != v) = true ∧ e = 7) ∨ (((o.v : Int) != v) = false ∧ e = 0) := by
      subst he
      unfold heldP
      by_cases h : (o.v : Int) = v
      · exact .inr ⟨by simpa using h, if_pos h⟩
      · exact .inl ⟨by simpa using h, if_neg h⟩
    clear he
    obtain ⟨⟨n1, n2, n3, n4, n5, n6⟩, v1⟩ := o
    unfold ObC.val at hv
    dsimp only at hv hE
    have HV := Lib.hid hv
    have HB := Lib.hid hb
    clear hv hb
    rcases hE with ⟨hne, rfl⟩ | ⟨hne, rfl⟩
    all_goals
      go_enter Tryz.func64, Tryz.ntmps64
      go_wp2_with (at_lookup; refine look2v _ true rfl rfl keyedS Tryz.underlying57 zeroC rfl hM.out rfl (keyS Tryz.underlying9 hs) HV.out HB.out ?_)
      go_ret
      exact ⟨rfl, by (repeat (first | with_reducible exact Grow.G.refl _ | with_reducible exact Below.refl _ _ | with_reducible refine Grow.G.alloc ?_ _ | with_reducible refine Grow.G.trans ?_ hb1 | ((with_reducible refine Below.setCell ?_ ?_ _); rotate_left; (focus (first | omega | (simp; done) | (simp; omega)))) | with_reducible assumption | with_reducible refine Grow.G.trans ?_ (by with_reducible assumption)))⟩
set_option maxHeartbeats 1000000 in
theorem freeC_any (g off : Nat) (m : Option Nat) (n : Nat) (f : ByteArray → Option ObC) (nm : ByteArray) (v : Int) (w : World) (hc : w.cell? ⟨g, off, none⟩ = some (.map m)) (hg : g < w.heap.size) (hm : MapS w m n (fC f)) (hs : nm.size ≤ maxLen) :
    Calls Tryz.prog 43 #[.pointer (some ⟨g, off, none⟩), .string nm, .int .i64 v] w fun e w' => e = .returned (.int .i64 (mayP ((f nm).map ObC.v) v)) ∧ Grow.G w w' := by
  have HL := Lib.hid (heldC_any g off m n f nm v w hc hg hm hs)
  have hM := Lib.hid hm
  clear hm
  unfold mayP
  by_cases h0 : v = 0
  · subst h0
    rw [if_pos rfl]
    cases hf : f nm with
    | none =>
      obtain ⟨hv, hb⟩ := at_noneC hf
      have HV := Lib.hid hv
      have HB := Lib.hid hb
      clear hf hv hb
      go_enter Tryz.func43, Tryz.ntmps43
      go_wp2_with (at_lookup; refine look2v zC false rfl rfl keyedS Tryz.underlying57 zeroC rfl hM.out rfl (keyS Tryz.underlying9 hs) HV.out HB.out ?_)
      go_ret
      exact ⟨rfl, by (repeat (first | with_reducible exact Grow.G.refl _ | with_reducible exact Below.refl _ _ | with_reducible refine Grow.G.alloc ?_ _ | with_reducible refine Grow.G.trans ?_ hb1 | ((with_reducible refine Below.setCell ?_ ?_ _); rotate_left; (focus (first | omega | (simp; done) | (simp; omega)))) | with_reducible assumption | with_reducible refine Grow.G.trans ?_ (by with_reducible assumption)))⟩
    | some o =>
      obtain ⟨hv, hb⟩ := at_someC hf
      clear hf
      obtain ⟨⟨n1, n2, n3, n4, n5, n6⟩, v1⟩ := o
      unfold ObC.val at hv
      dsimp only at hv
      have HV := Lib.hid hv
      have HB := Lib.hid hb
      clear hv hb
      go_enter Tryz.func43, Tryz.ntmps43
      go_wp2_with (at_lookup; refine look2v _ true rfl rfl keyedS Tryz.underlying57 zeroC rfl hM.out rfl (keyS Tryz.underlying9 hs) HV.out HB.out ?_)
      go_ret
      exact ⟨rfl, by (repeat (first | with_reducible exact Grow.G.refl _ | with_reducible exact Below.refl _ _ | with_reducible refine Grow.G.alloc ?_ _ | with_reducible refine Grow.G.trans ?_ hb1 | ((with_reducible refine Below.setCell ?_ ?_ _); rotate_left; (focus (first | omega | (simp; done) | (simp; omega)))) | with_reducible assumption | with_reducible refine Grow.G.trans ?_ (by with_reducible assumption)))⟩
  · rw [if_neg h0]
    have hn : (v != 0) = true := by simpa using h0
    clear h0
    go_enter Tryz.func43, Tryz.ntmps43
    go_wp2_with fail
    refine HL.out.mono ?_
    rintro e wn1 ⟨rfl, hb1⟩
    go_wp2_with fail
    go_ret
    exact ⟨rfl, hb1⟩
/-- What a row is behind a store into it. -/
def PutC (w w' : World) (g n : Nat) (mc mr mg : Option Nat) (k : Nat) (f : ByteArray → Option ObC) (nm : ByteArray) (ob : ObC) : Prop :=
  ∃ b, Blk w' g (shC n (some b) mr mg).toArray shT ∧ MapS w' (some b) (k + 1) (fC (upd f nm (some ob))) ∧ Chg (fun j => j = g ∨ some j = mc) w w' ∧ (mc = some b ∨ w.heap.size ≤ b)
theorem upd_keyC (f : ByteArray → Option ObC) (nm : ByteArray) (o : Option ObC) : fC (upd f nm o) (strK nm) = o.map ObC.val := by show (upd f nm o nm).map ObC.val = _; rw [upd_at]
theorem upd_otherC (f : ByteArray → Option ObC) (nm : ByteArray) (o : Option ObC) : ∀ x, x ≠ strK nm → fC (upd f nm o) x = fC f x := onS_ne fun x hx => by rw [upd_ne _ _ hx]
set_option maxHeartbeats 1000000 in
theorem setC_any (g n : Nat) (mc mr mg : Option Nat) (k : Nat) (f : ByteArray → Option ObC) (nm : ByteArray) (ob : ObC) (w : World) (hb : Blk w g (shC n mc mr mg).toArray shT) (hm : MapS w mc k (fC f)) (hk : k < maxLen) (hs : nm.size ≤ maxLen) :
    Calls Tryz.prog 44 #[.pointer (some ⟨g, 1, none⟩), .string nm, ob.val] w fun e w' => (∃ v, e = .returned v) ∧ PutC w w' g n mc mr mg k f nm ob := by
  have CE : (Tryz.prog.info? 71).map (·.size) = some 7 := by kernel_rfl
  have HU := Lib.hid (upd_keyC f nm (some ob))
  have HO := Lib.hid (upd_otherC f nm (some ob))
  have hM := Lib.hid hm
  have hB := Lib.hid hb
  have hg := hb.lt
  have c0 : w.cell? ⟨g, 1, none⟩ = some (.map mc) := (hb.cell 1).trans rfl
  have f0 := hb.free 1
  clear hm hb
  cases hmc : mc with
  | none =>
    subst hmc
    obtain ⟨wa, hwa⟩ : ∃ wa, wa = w.setCell ⟨g, 1, none⟩ (.map (some (w.heap.size + 1))) := ⟨_, rfl⟩
    obtain ⟨w1, hw1⟩ : ∃ w1, w1 = (wa.alloc (.cells ob.val.cells 71)).alloc (.map #[] 0) := ⟨_, rfl⟩
    have hsa : wa.heap.size = w.heap.size := by rw [hwa]; simp
    have hgg : Grow.G wa w1 := by rw [hw1]; exact Grow.G.alloc (Grow.G.alloc (Grow.G.refl _) _) _
    have OB : Blk w1 w.heap.size ob.val.cells 71 := by rw [hw1, ← hsa]; exact (Blk.new wa _ _).alloc _
    have MB : MapB Tryz.prog 9 w1 (w.heap.size + 1) 0 (fun _ => none) := by
      have := MapB.made (wa.alloc (.cells ob.val.cells 71)) Tryz.prog 9
      rw [World.size_alloc, hsa, ← hw1] at this; exact this
    have GB := (hB.out.set 1 (.map (some (w.heap.size + 1))))
    rw [← hwa] at GB
    have GB := GB.grow hgg
    have CH : Chg (fun j => j = g) w w1 := (show Chg (fun j => j = g) w wa from by rw [hwa]; exact Chg.setCell (G := fun j => j = g) (Chg.refl _ _) (fun _ => rfl) _ _).trans (Chg.grow hgg)
    have FN : ∀ kl, fC f kl = none := hM.out
    have hs1 : w1.heap.size = w.heap.size + 2 := by rw [hw1]; simp [hsa]
    rw [hwa] at hw1
    clear hwa hgg hsa
    have OB := Lib.hid OB
    have MB := Lib.hid (MB.same (f' := fC f) FN)
    have GB := Lib.hid GB
    have CH := Lib.hid CH
    have hW := Lib.hid hw1
    have hs1 := Lib.hid hs1
    clear hw1 FN
    obtain ⟨⟨n1, n2, n3, n4, n5, n6⟩, v1⟩ := ob
    unfold ObC.val at *
    simp only [Value.cells] at *
    have hmm := @run_makeMap Tryz.prog
    have HN := run_nilC none
    simp only [Option.isNone_none] at HN
    go_enter Tryz.func44, Tryz.ntmps44
    go_wp2_with fail
    rw [← hW.out]
    have q0 : w1.cell? ⟨g, 1, none⟩ = some (.map (some (w.heap.size + 1))) := (GB.out.cell 1).trans rfl
    have KC := Lib.hid (fun (w' : World) (h : Chg (fun _ => False) w1 w') => (⟨h.cell q0 id, trivial⟩ : w'.cell? ⟨g, 1, none⟩ = some (.map (some (w.heap.size + 1))) ∧ True))
    clear q0 c0 f0
    refine Evo2.start' (ℓ := some 6) (S := Chg (fun _ => False)) (E := Grow.G) (by kernel_rfl) ⟨Chg.pre _, by decide +kernel, (by intro c a d v w h; cases d <;> exact h), by decide +kernel⟩ (fun ok => ?_)
    refine Evo2.va ok 0 _ _ ?_
    refine Evo2.va ok 1 _ _ ?_
    refine Evo2.va ok 2 _ _ ?_
    first | (refine Evo2.val ok 3 ?_ ?_ ?_; rotate_left; (focus (intro w' hg; refine Box.exec_loadAll ?_ Tryz.underlying71 CE (OB.out.chg (Chg.trans (Chg.refl (fun _ => False) _) hg) id) ?_; (all_goals (first | exact ⟨rfl, rfl⟩ | rfl)))); simp only [Act.put, L0, L1, L2]) | (refine Evo2.vl ok 3 KC.out (Chg.refl (fun _ => False) _) _ _ ?_) | (refine Evo2.va ok 3 _ _ ?_)
    refine Evo2.va ok 4 _ _ ?_
    first | (refine Evo2.val ok 5 ?_ ?_ ?_; rotate_left; (focus (intro w' hg; refine Box.exec_loadAll ?_ Tryz.underlying71 CE (OB.out.chg (Chg.trans (Chg.refl (fun _ => False) _) hg) id) ?_; (all_goals (first | exact ⟨rfl, rfl⟩ | rfl)))); simp only [Act.put, L0, L1, L2]) | (refine Evo2.vl ok 5 KC.out (Chg.refl (fun _ => False) _) _ _ ?_) | (refine Evo2.va ok 5 _ _ ?_)
    refine Evo2.all [6] (by decide +kernel) rfl ?_
    intro wp1 gp1 iq hq
    simp only [List.mem_cons, List.mem_nil_iff, or_false] at hq
    have AP1 := Chg.trans (Chg.refl (fun _ => False) _) (Chg.grow gp1)
    subst hq
    refine MapV.up (by rfl) (by rfl) rfl (key := .string nm) keyedS Tryz.underlying57 rfl (MB.out.chg AP1 id) (by unfold maxLen; omega) rfl rfl (keyS Tryz.underlying9 hs) HU.out HO.out ?_
    intro wm OM CM
    refine ⟨.inl (by first | rfl | trivial), ?_⟩
    simp only [Act.put, L0, L1, L2]
    refine Evo2.done (by decide +kernel) (fun wz gz => ?_)
    have AZ := AP1
    go_wp2_with fail
    go_returns
    have hs1 := hs1.out
    refine ⟨⟨_, rfl⟩, w.heap.size + 1, ((GB.out.chg AZ id).chg CM (by omega)).grow gz, (MapB.mono OM (by omega)).chg (Chg.grow (G := fun _ => False) gz) id, ?_, .inr (by omega)⟩
    refine ((CH.out.mono fun j _ h => .inl h).trans (AZ.mono fun _ _ h => h.elim)).join (CM.trans (Chg.grow gz)) fun j hj e => by have e : j = w.heap.size + 1 := e; omega
  | some b =>
    rw [hmc] at c0 hM
    have MB := Lib.hid (show MapB Tryz.prog 9 w b k (fC f) from hM.out)
    have hbl := MB.out.lt
    have hbg := MB.out.ne hB.out
    have C1 := Lib.hid c0
    have OB := Lib.hid (Blk.new w ob.val.cells 71)
    have hgg : Grow.G w (w.alloc (.cells ob.val.cells 71)) := Grow.G.alloc (Grow.G.refl _) _
    obtain ⟨w1, hw1⟩ : ∃ w1, w1 = w.alloc (.cells ob.val.cells 71) := ⟨_, rfl⟩
    rw [← hw1] at OB hgg
    have HG := Lib.hid hgg
    have hW := Lib.hid hw1
    clear hw1 hgg hM
    obtain ⟨⟨n1, n2, n3, n4, n5, n6⟩, v1⟩ := ob
    unfold ObC.val at *
    simp only [Value.cells] at *
    have HN := run_nilC (some b)
    simp only [Option.isNone_some] at HN
    go_enter Tryz.func44, Tryz.ntmps44
    go_wp2_with fail
    rw [← hW.out]
    have KC := Lib.hid (fun (w' : World) (h : Chg (fun _ => False) w1 w') => (⟨h.cell (cell_later HG.out C1.out) id, trivial⟩ : w'.cell? ⟨g, 1, none⟩ = some (.map (some b)) ∧ True))
    clear c0 f0
    refine Evo2.start' (ℓ := some 6) (S := Chg (fun _ => False)) (E := Grow.G) (by kernel_rfl) ⟨Chg.pre _, by decide +kernel, (by intro c a d v w h; cases d <;> exact h), by decide +kernel⟩ (fun ok => ?_)
    refine Evo2.va ok 0 _ _ ?_
    refine Evo2.va ok 1 _ _ ?_
    refine Evo2.va ok 2 _ _ ?_
    first | (refine Evo2.val ok 3 ?_ ?_ ?_; rotate_left; (focus (intro w' hg; refine Box.exec_loadAll ?_ Tryz.underlying71 CE (OB.out.chg (Chg.trans (Chg.refl (fun _ => False) _) hg) id) ?_; (all_goals (first | exact ⟨rfl, rfl⟩ | rfl)))); simp only [Act.put, L0, L1, L2]) | (refine Evo2.vl ok 3 KC.out (Chg.refl (fun _ => False) _) _ _ ?_) | (refine Evo2.va ok 3 _ _ ?_)
    refine Evo2.va ok 4 _ _ ?_
    first | (refine Evo2.val ok 5 ?_ ?_ ?_; rotate_left; (focus (intro w' hg; refine Box.exec_loadAll ?_ Tryz.underlying71 CE (OB.out.chg (Chg.trans (Chg.refl (fun _ => False) _) hg) id) ?_; (all_goals (first | exact ⟨rfl, rfl⟩ | rfl)))); simp only [Act.put, L0, L1, L2]) | (refine Evo2.vl ok 5 KC.out (Chg.refl (fun _ => False) _) _ _ ?_) | (refine Evo2.va ok 5 _ _ ?_)
    refine Evo2.all [6] (by decide +kernel) rfl ?_
    intro wp1 gp1 iq hq
    simp only [List.mem_cons, List.mem_nil_iff, or_false] at hq
    have AP1 := Chg.trans (Chg.refl (fun _ => False) _) (Chg.grow gp1)
    subst hq
    refine MapV.up (by rfl) (by rfl) rfl (key := .string nm) keyedS Tryz.underlying57 rfl ((MB.out.chg (Chg.grow (G := fun _ => False) HG.out) id).chg AP1 id) hk rfl rfl (keyS Tryz.underlying9 hs) HU.out HO.out ?_
    intro wm OM CM
    refine ⟨.inl (by first | rfl | trivial), ?_⟩
    simp only [Act.put, L0, L1, L2]
    refine Evo2.done (by decide +kernel) (fun wz gz => ?_)
    have AZ := AP1
    go_wp2_with fail
    go_returns
    refine ⟨⟨_, rfl⟩, b, (((hB.out.grow HG.out).chg AZ id).chg CM (by omega)).grow gz |> fun h => (by rw [hmc] at h; exact h), OM.chg (Chg.grow (G := fun _ => False) gz) id, ?_, .inl rfl⟩
    exact ((Chg.grow HG.out).trans (AZ.mono fun _ _ h => h.elim)).join (CM.trans (Chg.grow gz)) fun j hj e => .inr (congrArg some e)

def ObC.base (o : ObC) : Value := .agg #[.string o.c.nm, .int .i64 o.c.im, .int .i64 o.c.co, .int .i64 o.c.mn, .int .i64 o.c.mx, .int .i64 o.c.gr]
def ObC.at (o : ObC) (n : Nat) : ObC := { o with v := n }
set_option maxHeartbeats 1000000 in
theorem putC_no (g n : Nat) (mc mr mg : Option Nat) (k : Nat) (f : ByteArray → Option ObC) (nm : ByteArray) (ob : ObC) (v : Int) (w : World) (hb : Blk w g (shC n mc mr mg).toArray shT) (hm : MapS w mc k (fC f)) (hs : nm.size ≤ maxLen) (er : Int) (he : mayP ((f nm).map ObC.v) v = er) (h0 : er ≠ 0) :
    Calls Tryz.prog 25 #[.pointer (some ⟨g, 0, none⟩), .pointer (some ⟨g, 1, none⟩), .string nm, ob.base, .int .i64 v] w fun e w' => e = .returned (.tuple #[.int .i64 0, .int .i64 er]) ∧ Grow.G w w' := by
  have FR := Lib.hid (fun w' (h : Grow.G w w') => he ▸ freeC_any g 1 mc k f nm v w' (cell_later h ((hb.cell 1).trans rfl)) (by have := hb.lt; have := h.size; omega) (hm.grow h) hs)
  have hne : (er != 0) = true := by simpa using h0
  clear hb hm he h0
  obtain ⟨⟨n1, n2, n3, n4, n5, n6⟩, v1⟩ := ob
  unfold ObC.base
  go_enter Tryz.func25, Tryz.ntmps25
  go_wp2_with fail
  refine (FR.out _ (Grow.G.alloc (Grow.G.refl _) _)).mono ?_
  rintro e wn1 ⟨rfl, hb1⟩
  have HG := Lib.hid ((Grow.G.alloc (Grow.G.refl _) _).trans hb1)
  clear hb1
  go_wp2_with fail
  go_returns
  exact ⟨rfl, HG.out⟩
set_option maxHeartbeats 1000000 in
theorem putC_yes (g n : Nat) (mc mr mg : Option Nat) (k : Nat) (f : ByteArray → Option ObC) (nm : ByteArray) (ob : ObC) (v : Int) (w : World) (hb : Blk w g (shC n mc mr mg).toArray shT) (hm : MapS w mc k (fC f)) (hs : nm.size ≤ maxLen) (he : mayP ((f nm).map ObC.v) v = 0) (hk : k < maxLen) (hn : n < 4611686018427387904) :
    Calls Tryz.prog 25 #[.pointer (some ⟨g, 0, none⟩), .pointer (some ⟨g, 1, none⟩), .string nm, ob.base, .int .i64 v] w fun e w' => e = .returned (.tuple #[.int .i64 ((n + 1 : Nat) : Int), .int .i64 0]) ∧ PutC w w' g (n + 1) mc mr mg k f nm (ob.at (n + 1)) := by
  have FR := Lib.hid (fun w' (h : Grow.G w w') => he ▸ freeC_any g 1 mc k f nm v w' (cell_later h ((hb.cell 1).trans rfl)) (by have := hb.lt; have := h.size; omega) (hm.grow h) hs)
  have SE := Lib.hid (fun w' (h : Blk w' g (shC (n + 1) mc mr mg).toArray shT) (h2 : MapS w' mc k (fC f)) => setC_any g (n + 1) mc mr mg k f nm (ob.at (n + 1)) w' h h2 hk hs)
  have CE : (Tryz.prog.info? 31).map (·.size) = some 6 := by kernel_rfl
  have HB := Lib.hid hb
  have HM := Lib.hid hm
  have hlt := hb.lt
  have hwr : IntKind.i64.wrap ((n : Int) + 1) = ((n + 1 : Nat) : Int) := by rw [IntWalk.i64_in _ ⟨by omega, by omega⟩]; omega
  clear hb hm he
  obtain ⟨⟨n1, n2, n3, n4, n5, n6⟩, v1⟩ := ob
  unfold ObC.base
  unfold ObC.at ObC.val at SE
  dsimp only at SE
  go_enter Tryz.func25, Tryz.ntmps25
  go_wp2_with fail
  refine (FR.out _ (Grow.G.alloc (Grow.G.refl _) _)).mono ?_
  rintro e wn1 ⟨rfl, hb1⟩
  have HG := Lib.hid ((Grow.G.alloc (Grow.G.refl w) _).trans hb1)
  have OB := Lib.hid ((Blk.new w _ _).grow hb1)
  have q0 := ((HB.out.grow HG.out).cell 0).trans (show _ = some (.int .i64 (n : Int)) from rfl)
  have f0 := (HB.out.grow HG.out).free 0
  have hl1 : g < wn1.heap.size := by have := HG.out.size; omega
  clear hb1
  go_wp2_with fail
  obtain ⟨w2, hw2⟩ : ∃ w2, w2 = wn1.setCell ⟨g, 0, none⟩ (.int .i64 ((n : Int) + 1)) := ⟨_, rfl⟩
  have C2 : Chg (fun j => j = g) w w2 := (Chg.grow HG.out).trans (by rw [hw2]; exact Chg.setCell (G := fun j => j = g) (Chg.refl _ _) (fun _ => rfl) _ _)
  have G2 := (HB.out.grow HG.out).set 0 (.int .i64 ((n : Int) + 1))
  have O2 := OB.out.other (b := g) (by omega) 0 (.int .i64 ((n : Int) + 1))
  have M2 : MapS w2 mc k (fC f) := HM.out.chg C2 (fun b e q => by
    subst q
    have hm := HM.out
    rw [e] at hm
    exact MapB.ne hm HB.out rfl)
  rw [← hw2] at G2 O2
  have C2 := Lib.hid C2
  have G2 := Lib.hid (show Blk w2 g (shC (n + 1) mc mr mg).toArray shT from G2)
  have O2 := Lib.hid O2
  have M2 := Lib.hid M2
  have HW := Lib.hid hw2
  clear q0 f0 OB
  rw [← hw2]
  clear hw2
  have KC := Lib.hid (fun (w' : World) (h : Chg (fun _ => False) w2 w') => (⟨h.cell ((G2.out.cell 0).trans rfl) id, trivial⟩ : w'.cell? ⟨g, 0, none⟩ = some (.int .i64 ((n : Int) + 1)) ∧ True))
  refine Evo2.start' (ℓ := some 8) (S := Chg (fun _ => False)) (E := Grow.G) (by kernel_rfl) ⟨Chg.pre _, by decide +kernel, (by intro c a d v w h; cases d <;> exact h), by decide +kernel⟩ (fun ok => ?_)
  refine Evo2.va ok 0 _ _ ?_
  refine Evo2.va ok 1 _ _ ?_
  first | (refine Evo2.val ok 2 ?_ ?_ ?_; rotate_left; (focus (intro w' hg; refine Box.exec_loadAll ?_ Tryz.underlying31 CE (O2.out.chg (Chg.trans (Chg.refl (fun _ => False) _) hg) id) ?_; (all_goals (first | exact ⟨rfl, rfl⟩ | rfl)))); simp only [Act.put, L0, L1, L2]) | (refine Evo2.vl ok 2 KC.out (Chg.refl (fun _ => False) _) _ _ ?_) | (refine Evo2.va ok 2 _ _ ?_)
  refine Evo2.va ok 3 _ _ ?_
  refine Evo2.va ok 4 _ _ ?_
  refine Evo2.va ok 5 _ _ ?_
  first | (refine Evo2.val ok 6 ?_ ?_ ?_; rotate_left; (focus (intro w' hg; refine Box.exec_loadAll ?_ Tryz.underlying31 CE (O2.out.chg (Chg.trans (Chg.refl (fun _ => False) _) hg) id) ?_; (all_goals (first | exact ⟨rfl, rfl⟩ | rfl)))); simp only [Act.put, L0, L1, L2]) | (refine Evo2.vl ok 6 KC.out (Chg.refl (fun _ => False) _) _ _ ?_) | (refine Evo2.va ok 6 _ _ ?_)
  refine Evo2.va ok 7 _ _ ?_
  refine Evo2.all [8] (by decide +kernel) rfl ?_
  intro wp1 gp1 iq hq
  simp only [List.mem_cons, List.mem_nil_iff, or_false] at hq
  have AP1 := Chg.trans (Chg.refl (fun _ => False) _) (Chg.grow gp1)
  subst hq
  refine Evo2.enters 44 _ (by rfl) (by rfl) (by go_simp; exact ⟨rfl, rfl⟩) ?_
  refine (SE.out _ (G2.out.chg AP1 id) (M2.out.chg AP1 (fun _ _ => id))).mono ?_
  rintro e wc1 ⟨⟨v9, rfl⟩, b, B9, M9, C9, o9⟩
  refine ⟨_, rfl, .inl (by first | rfl | trivial), ?_⟩
  simp only [Act.put, L0, L1, L2]
  refine Evo2.done (by decide +kernel) (fun wz gz => ?_)
  have AZ := AP1
  have q0 := ((B9.grow gz).cell 0).trans (show _ = some (.int .i64 ((n + 1 : Nat) : Int)) from rfl)
  have B9 := Lib.hid B9
  have M9 := Lib.hid M9
  go_wp2_with fail
  go_returns
  refine ⟨rfl, b, B9.out.grow gz, M9.out.chg (Chg.grow (G := fun _ => False) gz) (fun _ _ => id), ?_, ?_⟩
  · refine ((C2.out.mono fun j _ h => .inl h).trans (AZ.mono fun _ _ h => h.elim)).trans (C9.trans (Chg.grow gz))
  · refine o9.imp id fun h => ?_
    have h1 := C2.out.size
    have h2 := AZ.size
    omega

set_option maxHeartbeats 1000000 in
theorem dropC_no (g : Nat) (m : Option Nat) (k : Nat) (f : ByteArray → Option ObC) (nm : ByteArray) (v : Int) (w : World) (hc : w.cell? ⟨g, 1, none⟩ = some (.map m)) (hg : g < w.heap.size) (hm : MapS w m k (fC f)) (hs : nm.size ≤ maxLen) (er : Int) (he : heldP ((f nm).map ObC.v) v = er) (h0 : er ≠ 0) :
    Calls Tryz.prog 101 #[.pointer (some ⟨g, 1, none⟩), .string nm, .int .i64 v] w fun e w' => e = .returned (.int .i64 er) ∧ Grow.G w w' := by
  have HL := Lib.hid (he ▸ heldC_any g 1 m k f nm v w hc hg hm hs)
  have hne : (er == 0) = false := by simpa using h0
  clear hm he h0
  go_enter Tryz.func101, Tryz.ntmps101
  go_wp2_with fail
  refine HL.out.mono ?_
  rintro e wn1 ⟨rfl, hb1⟩
  go_wp2_with fail
  go_ret
  exact ⟨rfl, hb1⟩
set_option maxHeartbeats 1000000 in
theorem dropC_yes (g : Nat) (m : Option Nat) (k : Nat) (f : ByteArray → Option ObC) (nm : ByteArray) (v : Int) (w : World) (hc : w.cell? ⟨g, 1, none⟩ = some (.map m)) (hg : g < w.heap.size) (hm : MapS w m k (fC f)) (hs : nm.size ≤ maxLen) (he : heldP ((f nm).map ObC.v) v = 0) :
    Calls Tryz.prog 101 #[.pointer (some ⟨g, 1, none⟩), .string nm, .int .i64 v] w fun e w' => e = .returned (.int .i64 0) ∧ MapS w' m k (fC (upd f nm none)) ∧ Chg (fun j => some j = m) w w' := by
  have HL := Lib.hid (he ▸ heldC_any g 1 m k f nm v w hc hg hm hs)
  have HU := Lib.hid (upd_keyC f nm none)
  have HO := Lib.hid (upd_otherC f nm none)
  have HM := Lib.hid hm
  have HC := Lib.hid hc
  clear hm he hc
  go_enter Tryz.func101, Tryz.ntmps101
  go_wp2_with fail
  refine HL.out.mono ?_
  rintro e wn1 ⟨rfl, hb1⟩
  have q0 := cell_later hb1 HC.out
  have HG := Lib.hid hb1
  have hl : g < wn1.heap.size := by have := hb1.size; omega
  clear hb1
  go_wp2_with (at_delete; refine MapV.del rfl rfl keyedS Tryz.underlying57 rfl (HM.out.grow HG.out) rfl (keyS Tryz.underlying9 hs) HU.out HO.out ?_; intro w9 M9 C9; have M9 := Lib.hid M9; have C9 := Lib.hid C9)
  go_ret
  exact ⟨rfl, M9.out, (Chg.grow HG.out).trans C9.out⟩
end Go.Proofs.YtlnffdkaleapbaaGreat

/- shelf's rows: their names. -/

namespace Go.Proofs.YtlnffdkaleapbaaGreat
set_option maxRecDepth 100000
set_option linter.unusedVariables false
set_option linter.unusedSimpArgs false
set_option linter.unnecessarySimpa false
open Go.RowKit Go.MapV Go.Maps

def isOC (f : ByteArray → Option ObC) (x : ByteArray) : Bool := (f x).isSome
theorem keysC_any (m : Option Nat) (w : World) : Calls Tryz.prog 105 #[.map m] w fun e w' => e = .returned (.func (.func 108) #[] #[pt w.heap.size]) ∧ w' = w.alloc (.cells #[.map m] 57) :=
  callsIn_wide.1 (Tryz.maps_Keys_105 m w)
theorem sortedC_any (m : Option Nat) (n : Nat) (f : ByteArray → Option ObC) (w : World) (hm : MapS w m n (fC f)) (hn : n ≤ 1099511627776) :
    Calls Tryz.prog 104 #[.func (.func 108) #[] #[pt w.heap.size]] (w.alloc (.cells #[.map m] 57)) fun e w' =>
      ∃ (v : Value) (L : List ByteArray), e = .returned v ∧ NamesOf (isOC f) L ∧ L.length ≤ 1099511627776 ∧ w'.ownsRow w.heap.size 9 1 v L.length (L.map Value.string) ∧ Grow.G w w' := by
  have hg0 : Grow.G w (w.alloc (.cells #[.map m] 57)) := Grow.G.alloc (Grow.G.refl _) _
  cases m with
  | none =>
    refine (callsIn_wide.1 (Tryz.slices_Sorted_keys_nil_104_105 w)).mono ?_
    rintro e w' ⟨v, ss, rfl, rfl, hrow, hnil, hb⟩
    refine ⟨v, [], rfl, NamesOf.nil fun x => ?_, by simp, ?_, hg0.trans hb⟩
    · have h := hm (strK x)
      have h : (f x).map ObC.val = none := h
      unfold isOC
      cases hx : f x with
      | none => rfl
      | some o => rw [hx] at h; cases h
    · have := ownsRow_base_a hrow (base' := w.heap.size) (by simp)
      simpa using this
  | some b =>
    obtain ⟨D, hown, ha⟩ := hm
    have hsz := hown.size_le
    refine (callsIn_wide.1 (Tryz.slices_Sorted_keys_104_105 b n D RV w hown (by unfold maxLen; omega) (by omega))).mono ?_
    rintro e w' ⟨v, ss, rfl, hp, hrow, hnil, hb⟩
    have HN := names_of hown ha keyedS Tryz.underlying9 hp
    have hl : ss.length = Maps.size D := by
      rw [hp.length_eq]
      cases D <;> first | rfl | simp [strKeys, Maps.size]
    refine ⟨v, (ss.mergeSort leB).map toB, rfl, ?_, ?_, ?_, hg0.trans hb⟩
    · refine ⟨HN.1, fun x => (HN.2 x).trans ?_⟩
      unfold isOC
      dsimp only
      rw [Option.isSome_map]
    · rw [List.length_map, List.length_mergeSort]; omega
    · have := ownsRow_base_a hrow (base' := w.heap.size) (by simp)
      rw [List.length_map, List.length_mergeSort, List.map_map]
      exact this
set_option maxHeartbeats 1000000 in
/-- The iterator over a row's names. -/
theorem namesC_seq (kb g : Nat) (m : Option Nat) (n : Nat) (f : ByteArray → Option ObC) (w : World) (hk : Blk w kb #[.pointer (some ⟨g, 1, none⟩)] 75) (hc : w.cell? ⟨g, 1, none⟩ = some (.map m)) (hm : MapS w m n (fC f)) (hn : n ≤ 1099511627776) :
    Iter.SeqP Tryz.prog 103 #[pt kb] (fun x : ByteArray => #[.string x]) (fun pre x _ => isOC f x = true ∧ pre.length < 1099511627776) (fun xs => NamesOf (isOC f) xs) w := by
  intro ln J Jx W hG hJ hJx hY h0
  have b0 : W.cell? ⟨kb, 0, none⟩ = some (.pointer (some ⟨g, 1, none⟩)) := ((hk.grow hG).cell 0).trans rfl
  have b1 := cell_later hG hc
  have hkb := (hk.grow hG).lt
  have hgb : g < W.heap.size := by
    rcases Nat.lt_or_ge g W.heap.size with h | h
    · exact h
    · simp [World.cell?, Array.getElem?_eq_none h] at b1
  have SO := Lib.hid (sortedC_any m n f W (hm.grow hG) hn)
  have HJ := Lib.hid hJ
  have HY := Lib.hid hY
  have H0 := Lib.hid h0
  clear hk hc hm hG hJ hJx hY h0
  refine (callsIn_wide (n := 0)).1 ?_
  refine callsIn_of_wp Tryz.func103 rfl trivial ?_
  simp only [Tryz.ntmps103, List.size_toArray, List.length_cons, List.length_nil, Nat.reduceAdd, Nat.reduceSub, Array.replicate_succ, Array.replicate_zero, List.push_toArray, List.append_toArray, List.nil_append, List.cons_append]
  gi_wp2_with fail
  refine ⟨trivial, rfl, (callsIn_wide.2 (keysC_any m W)).mono ?_⟩
  rintro e w' ⟨rfl, rfl⟩
  gi_wp2_with fail
  refine ⟨trivial, rfl, (callsIn_wide.2 SO.out).mono ?_⟩
  rintro e w1 ⟨v, L, rfl, hNL, hLl, hrow, hg1⟩
  have J1 := Lib.hid (H0.out (fun k => v.ownBlock = some k) w1 hg1 (own_prv hrow))
  have HN := Lib.hid hNL
  have HR := Lib.hid hrow
  clear b0 b1 hNL
  obtain ⟨a, c, rfl, -⟩ := own_sh hrow
  clear hrow
  gi_wp2_with fail
  gi_loopw [12] (fun i wr => ∃ k : Nat, k ≤ L.length ∧ i = .int .i64 k ∧ Hid (wr.ownsRow W.heap.size 9 1 (.slice a L.length c) L.length (L.map Value.string)) ∧ Hid (J (fun k => (Value.slice a L.length c).ownBlock = some k) (L.take k) wr)) (fun i _ => L.length - (intOf i).toNat)
  case atStart => exact ⟨0, Nat.zero_le _, rfl, HR, J1⟩
  case round =>
    obtain ⟨k, hk, rfl, R, JJ⟩ := hrel
    by_cases hlt : k < L.length
    · obtain ⟨_, _, he, hcell⟩ := own_sh R.out
      cases he
      obtain ⟨r, rfl, hc⟩ := hcell k hlt
      have hmem := (HN.out.2 (L.getD k ⟨#[]⟩)).1 (by simp [List.getD, hlt])
      have htk : L.take (k + 1) = L.take k ++ [L.getD k ⟨#[]⟩] := by rw [List.take_add_one]; simp [List.getD, hlt]
      obtain ⟨x, hx⟩ : ∃ x, L.getD k ⟨#[]⟩ = x := ⟨_, rfl⟩
      rw [hx] at hc hmem htk
      have HT := Lib.hid htk
      clear hx htk
      obtain ⟨fn, tmps, assign, body, hy, hR⟩ := HY.out _ (L.take k) x wr JJ.out ⟨hmem, by rw [List.length_take]; omega⟩
      have k1 : (k : Int) < (L.length : Int) := by omega
      have k0 : (0 : Int) ≤ (k : Int) := by omega
      gi_wp2_with fail
      refine ⟨rfl, hR.mono ?_⟩
      rintro e w3 (⟨rfl, hj3, hk3⟩ | ⟨rfl, hx3⟩)
      · have R3 := Lib.hid (own_keep R.out hk3)
        have J3 := Lib.hid (HT.out ▸ hj3)
        clear hj3 hk3 hR hy hc
        gi_wp2_with fail
        go_roundw
        case rel => exact ⟨k + 1, by omega, by go_num, R3, J3⟩
        case measure => simp [intOf]; omega
      · have HX := Lib.hid hx3
        clear hx3 hR hy hc
        gi_wp2_with fail
        refine bodyPost_ret (results_none rfl _ _ _) rfl ?_
        exact ⟨⟨_, rfl⟩, _, .inr ⟨_, HX.out⟩⟩
    · obtain rfl : k = L.length := by omega
      have J2 := Lib.hid (show J (fun k => (Value.slice a L.length c).ownBlock = some k) L wr from by have := JJ.out; rwa [List.take_length] at this)
      gi_wp2_with fail
      go_end0
      exact ⟨⟨_, rfl⟩, _, .inl ⟨L, HN.out, J2.out⟩⟩
end Go.Proofs.YtlnffdkaleapbaaGreat

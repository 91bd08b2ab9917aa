/- My own texts Law2a, ArgT, Law2b, RouteM, RouteW, OwnT, RouteP, SameP, laid in one file. -/
import Derived.Test.YtnkekdmikopdgaaZ3
import Derived.Test.YtnkekdmikopdgaaZ2
import Derived.Deep.DeepCutAuto

/- damperlaw2's helpers: config, Config, Few, known. -/
namespace Go.Proofs.Ytnkekdmikopdgaa
set_option maxRecDepth 100000
set_option linter.unusedVariables false
set_option linter.unusedSimpArgs false
set_option linter.unnecessarySimpa false
open Go.RowKit

def Cfg.wf (c : Cfg) : Prop := wf64 c.im ∧ wf64 c.co ∧ wf64 c.mn ∧ wf64 c.mx ∧ wf64 c.gr
end Go.Proofs.Ytnkekdmikopdgaa

/- How a configuration, a route that came in read. -/
namespace Go.Proofs.Ytnkekdmikopdgaa
set_option maxRecDepth 100000
set_option linter.unusedVariables false
set_option linter.unusedSimpArgs false
open Go.ChangeShapes Go.WideShapes Go.ChangeAt Go.RowKit Go.Args

section
variable {H : Type} {enc : TypeId × Value → H} {W : World}
def Cfg.cells (c : Cfg) : List Value := [.string c.nm, .int .i64 c.im, .int .i64 c.co, .int .i64 c.mn, .int .i64 c.mx, .int .i64 c.gr]
def Tgt.cells (t : Tgt) : List Value := [.string t.rv, .string t.tg, .int .i64 t.pc]
theorem choose_list {α : Type} (d : α) : ∀ (n : Nat) (p : Nat → α → Prop), (∀ i, i < n → ∃ x, p i x) → ∃ l : List α, l.length = n ∧ ∀ i, i < n → p i (l.getD i d)
  | 0, _, _ => ⟨[], rfl, fun i h => by omega⟩
  | n + 1, p, h => by
    obtain ⟨x, hx⟩ := h 0 (by omega)
    obtain ⟨l, hl, hp⟩ := choose_list d n (fun i => p (i + 1)) (fun i hi => h (i + 1) (by omega))
    refine ⟨x :: l, by simp [hl], fun i hi => ?_⟩
    cases i with
    | zero => exact hx
    | succ i => simpa using hp i (by omega)
end
end Go.Proofs.Ytnkekdmikopdgaa

/- Configurations written out; the configuration that damperlaw2.Config makes may be. -/
namespace Go.Proofs.Ytnkekdmikopdgaa
set_option maxRecDepth 100000
set_option linter.unusedVariables false
set_option linter.unusedSimpArgs false
set_option linter.unnecessarySimpa false
open Go.RowKit

theorem config_at (nm : ByteArray) (im co mn mx gr : Int) (w : World) (hs : nm.size ≤ maxLen) :
    Calls Try.prog 49 #[.agg #[.string nm, .int .i64 im, .int .i64 co, .int .i64 mn, .int .i64 mx, .int .i64 gr]] w fun x w' => x = .returned (.int .i64 (Cfg.err ⟨nm, im, co, mn, mx, gr⟩)) ∧ Below w.heap.size w w' := config_any ⟨nm, im, co, mn, mx, gr⟩ w hs


def IntAt (w : World) (a : Option Addr) (zs : List Int) : Prop := zs = [] ∨ ∃ b off, a = some ⟨b, off, none⟩ ∧ IntCells w b off zs
theorem IntSlice.open {w : World} {v : Value} {zs : List Int} (h : IntSlice w v zs) : ∃ a cap, v = .slice a zs.length cap ∧ IntAt w a zs := by
  rcases h with ⟨b, off, cap, rfl, h⟩ | ⟨rfl, a, cap, rfl⟩
  · exact ⟨_, cap, rfl, .inr ⟨b, off, rfl, h⟩⟩
  · exact ⟨a, cap, rfl, .inl rfl⟩
theorem IntAt.at {w w' : World} {a : Option Addr} {zs : List Int} (h : IntAt w a zs) (g : Grow.G w w') {k : Nat} (hk : k < zs.length) : ∃ b off, a = some ⟨b, off, none⟩ ∧ w'.cell? ⟨b, off + k, none⟩ = some (.int .i64 (zs.getD k 0)) ∧ wf64 (zs.getD k 0) := by
  rcases h with rfl | ⟨b, off, ha, hc⟩
  · simp at hk
  · exact ⟨b, off, ha, cell_later g (hc.cell k hk), hc.wf k⟩
def flatT (ts : List Tgt) : List Value := ts.flatMap fun t => [.string t.rv, .string t.tg, .int .i64 t.pc]

theorem infoT : (Try.prog.info? 117).map (fun i => (i.zero, i.size, i.bytes)) = some (some (.agg #[.string ⟨#[]⟩, .string ⟨#[]⟩, .int .i64 0]), 3, 40) := by kernel_rfl
structure RtLoop (w wr : World) (g : Nat) (nm cf : ByteArray) (rl : Int) (v : Value) (i : Nat) (ts : List Tgt) : Prop where
  c0 : wr.cell? ⟨g, 0, none⟩ = some (.string nm)
  c1 : wr.cell? ⟨g, 1, none⟩ = some (.string cf)
  c2 : wr.cell? ⟨g, 2, none⟩ = some v
  c3 : wr.cell? ⟨g, 3, none⟩ = some (.int .i64 rl)
  f2 : wr.frozen? ⟨g, 2, none⟩ = false
  own : wr.ownsRow (g + 1) 117 3 v i (flatT ts)
  grow0 : Grow.G (w.alloc (.cells #[.string ⟨#[]⟩, .string ⟨#[]⟩, .slice none 0 0, .int .i64 0] 31)) wr
  lt : g < wr.heap.size
  base : w.heap.size + 1 ≤ g

theorem RtLoop.grow {w wr : World} {g : Nat} {nm cf : ByteArray} {rl : Int} {v : Value} {i : Nat} {ts : List Tgt} (h : RtLoop w wr g nm cf rl v i ts) : Grow.G w wr := Grow.G.trans (Grow.G.alloc (Grow.G.refl w) _) h.grow0


theorem flatT_cons (t : Tgt) (ts : List Tgt) : flatT (t :: ts) = .string t.rv :: .string t.tg :: .int .i64 t.pc :: flatT ts := rfl
theorem flatT_at : ∀ (ts : List Tgt) (k : Nat), k < ts.length → (flatT ts)[k * 3]? = some (.string (ts.getD k tg0).rv) ∧ (flatT ts)[k * 3 + 1]? = some (.string (ts.getD k tg0).tg) ∧ (flatT ts)[k * 3 + 1 + 1]? = some (.int .i64 (ts.getD k tg0).pc)
  | [], k, h => by simp at h
  | t :: ts, 0, _ => by rw [flatT_cons]; exact ⟨rfl, rfl, rfl⟩
  | t :: ts, k + 1, h => by
    have ih := flatT_at ts k (by simpa using h)
    rw [flatT_cons]
    have e : (k + 1) * 3 = k * 3 + 1 + 1 + 1 := by omega
    rw [e]
    simp only [List.getElem?_cons_succ, List.getD_cons_succ]
    exact ih
theorem flatT_len (ts : List Tgt) : (flatT ts).length = ts.length * 3 := by
  induction ts with
  | nil => rfl
  | cons t ts ih => rw [flatT_cons]; simp only [List.length_cons, ih]; omega
/-- What a row of targets of the call's own gives. -/
theorem own_tgts {w : World} {base b n c : Nat} {ts : List Tgt} (h : w.ownsRow base 117 3 (.slice (some ⟨b, 0, none⟩) n c) n (flatT ts)) :
    ts.length = n ∧ TgtSl w (some ⟨b, 0, none⟩) ts ∧ (∀ o, w.frozen? ⟨b, o, none⟩ = false) ∧ base ≤ b ∧ b < w.heap.size := by
  obtain ⟨hl, h2⟩ := h
  rw [flatT_len] at hl
  have hn : ts.length = n := by omega
  rcases h2 with ⟨h0, _⟩ | ⟨g, cap, cur, hv, hb, hg, h3, h4, h5, h6⟩
  · cases h0
  · cases hv
    have hlt : b < w.heap.size := by
      rcases Nat.lt_or_ge b w.heap.size with h' | h'
      · exact h'
      · rw [Array.getElem?_eq_none h'] at hg; cases hg
    have hcell : ∀ j v, (flatT ts)[j]? = some v → w.cell? ⟨b, j, none⟩ = some v := fun j v hj => by
      rw [← h6] at hj
      have hj2 : j < n * 3 := by
        rcases Nat.lt_or_ge j (n * 3) with h' | h'
        · exact h'
        · rw [List.getElem?_take, if_neg (by omega)] at hj; cases hj
      rw [List.getElem?_take_of_lt hj2] at hj
      have : cur[j]? = some v := by simpa using hj
      simp [World.cell?, hg, this]
    refine ⟨hn, .inr ⟨b, 0, rfl, fun i hi => ?_⟩, fun o => by simp [World.frozen?, hg], hb, hlt⟩
    have h7 := flatT_at ts i hi
    rw [Nat.zero_add]
    exact ⟨hcell _ _ h7.1, hcell _ _ h7.2.1, hcell _ _ h7.2.2⟩
theorem route_at (nm cf : ByteArray) (a : Option Addr) (ts : List Tgt) (l c : Nat) (rl : Int) (w : World) (x : Int) (hl : l = ts.length) (h1 : nm.size ≤ 1000) (h2 : cf.size ≤ 1000) (h3 : ts.length ≤ 1000) (ht : TgtSl w a ts) (hk : ∀ i, i < ts.length → (ts.getD i tg0).ok) (hx : routeE nm cf ts rl = x) :
    Calls Try.prog 56 #[.agg #[.string nm, .string cf, .slice a l c, .int .i64 rl]] w fun e w' => e = .returned (.int .i64 x) ∧ Below w.heap.size w w' := by
  subst hl hx
  exact route_any nm cf a ts c rl w (by unfold maxLen; omega) (by unfold maxLen; omega) (by unfold maxLen; omega) ht hk


theorem same_at (nm cf : ByteArray) (a : Option Addr) (ts : List Tgt) (l c : Nat) (rl : Int) (nm' cf' : ByteArray) (a' : Option Addr) (ts' : List Tgt) (l' c' : Nat) (rl' : Int) (w : World) (x : Bool) (hl : l = ts.length) (hl' : l' = ts'.length) (h : ts.length ≤ 1000) (ht : TgtSl w a ts) (ht' : TgtSl w a' ts') (hx : sameR nm cf ts rl nm' cf' ts' rl' = x) :
    Calls Try.prog 40 #[.agg #[.string nm, .string cf, .slice a l c, .int .i64 rl], .agg #[.string nm', .string cf', .slice a' l' c', .int .i64 rl']] w fun e w' => e = .returned (.bool x) ∧ Below w.heap.size w w' := by
  subst hl hl' hx
  exact same_any nm cf a ts c rl nm' cf' a' ts' c' rl' w (by unfold maxLen; omega) ht ht'
theorem own_empty (w : World) (e : TypeId) (sz : Nat) : (w.alloc (.cells #[] e)).ownsRow w.heap.size e sz (.slice (some ⟨w.heap.size, 0, none⟩) 0 0) 0 [] :=
  ⟨by simp, .inr ⟨w.heap.size, 0, #[], rfl, Nat.le_refl _, (MapKept.heap_alloc w _).1, Nat.le_refl _, by decide, by simp, by simp⟩⟩
end Go.Proofs.Ytnkekdmikopdgaa

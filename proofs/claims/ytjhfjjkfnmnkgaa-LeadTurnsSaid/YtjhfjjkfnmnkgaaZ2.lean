/- My own texts Args, Evo, Evo2, Evo3, Fr, Iter, Chg, Box, Own, Mem, SpecW, Exec, App, Round, IntSl, laid in one file. -/
import Derived.WalkKit
import Derived.ProofKit
import Derived.SizedLaws
import Derived.OpenShut
import Derived.ShutString
import Derived.Deep.Slices
import Derived.Test.YtjhfjjkfnmnkgaaZ1
import Derived.Laws.AppendOwn
import Derived.Lib.AppendStr
import Derived.RangeFuncOwn
import Derived.RangeFuncCalls
import Derived.RangeFuncLeaves
import Derived.ControlIn
import Derived.Laws.CopyRow
import Derived.Laws.Cells
import Derived.ChangeKeysEq
import Derived.OwnWalk
import Derived.Laws.OwnMore
import Derived.OrdersIn
import Derived.TacticsIn

/- How arguments of whatever type read: integers, strings, structs, slices, each within the reach. No program is named here. -/
namespace Go.Args
set_option linter.unusedVariables false
set_option linter.unusedSimpArgs false
open Go.ChangeShapes Go.WideShapes Go.ChangeAt Go.RowKit

section
variable {H : Type} {enc : TypeId × Value → H} {P : Program} {w : World}

/-- A datum within the reach. -/
def Sz (P : Program) (t : TypeId) (d : DataW H) : Prop := ∀ n ∈ d.weights P t, n ≤ reachBytes
theorem each_mem {fs : List TypeId} {ds : List (DataW H)} {j : Nat} {t : TypeId} {d : DataW H} (ht : fs[j]? = some t) (hd : ds[j]? = some d) : ∀ n ∈ d.weights P t, n ∈ DataW.weightsEach P fs ds := DataW.weights_mem_each ht hd
theorem all_mem {e : TypeId} : ∀ {ds : List (DataW H)} {j : Nat} {d : DataW H}, ds[j]? = some d → ∀ n ∈ d.weights P e, n ∈ DataW.weightsAll P e ds
  | d0 :: ds, 0, d, hd, n, hn => by
    simp only [List.getElem?_cons_zero, Option.some.injEq] at hd
    subst hd
    simp only [DataW.weightsAll, List.mem_append]
    exact .inl hn
  | d0 :: ds, j + 1, d, hd, n, hn => by
    simp only [List.getElem?_cons_succ] at hd
    simp only [DataW.weightsAll, List.mem_append]
    exact .inr (all_mem hd n hn)
  | [], _, _, hd, _, _ => by simp at hd
theorem sz_arg {ts : List TypeId} {ds : List (DataW H)} (h : (DataW.weightsEach P ts ds).all (· ≤ reachBytes) = true) {j : Nat} {t : TypeId} {d : DataW H} (ht : ts[j]? = some t) (hd : ds[j]? = some d) : Sz P t d := fun n hn => by
  have := List.all_eq_true.1 h n (DataW.weights_mem_each ht hd n hn)
  simpa using this
theorem Sz.part {t : TypeId} {fs : Array Field} {parts : List (DataW H)} (h : Sz P t (.agg parts)) (hu : P.underlying t = some (.struct fs)) {j : Nat} {f : Field} {d : DataW H} (hf : fs[j]? = some f) (hd : parts[j]? = some d) : Sz P f.type d := fun n hn => by
  refine h n ?_
  simp only [DataW.weights, hu]
  exact each_mem (by simp [hf]) hd n hn
theorem Sz.elem {t e : TypeId} {elems spare : List (DataW H)} (h : Sz P t (.slice elems spare)) (hu : P.underlying t = some (.slice e)) {j : Nat} {d : DataW H} (hd : elems[j]? = some d) : Sz P e d := fun n hn => by
  refine h n ?_
  simp only [DataW.weights, hu]
  exact List.mem_cons_of_mem _ (List.mem_append.2 (.inl (all_mem hd n hn)))
theorem Sz.slice {t e : TypeId} {elems spare : List (DataW H)} (h : Sz P t (.slice elems spare)) (hu : P.underlying t = some (.slice e)) : (elems.length + spare.length) * P.bytesOf e ≤ reachBytes :=
  h _ (by simp [DataW.weights, hu])
theorem Sz.string {t : TypeId} {bytes : List UInt8} (h : Sz P t (.lit (.string bytes) : DataW H)) : bytes.length ≤ reachBytes := h _ (by simp [DataW.weights])

/-- The cells cs read as d at type t. -/
def Rd (enc : TypeId × Value → H) (P : Program) (w : World) (t : TypeId) (cs : List Value) (d : DataW H) : Prop := ∃ fuel ps, DataW.trod enc P w 0 (fun _ => true) true fuel t cs = some (d, ps)
theorem rd_of {t : TypeId} {v : Value} {d : DataW H} {ps : List MemPlace} (h : DataW.Trod enc P w 0 (fun _ => true) true t v d ps) : Rd enc P w t v.cells.toList d := by
  obtain ⟨fuel, h⟩ := h
  exact ⟨fuel, ps, h⟩
theorem Rd.int {t : TypeId} {k : IntKind} {cs : List Value} {d : DataW H} (h : Rd enc P w t cs d) (ht : P.underlying t = some (.int k)) : ∃ n, cs = [.int k n] ∧ (Lit.int k n).wf = true := by
  obtain ⟨fuel, ps, h⟩ := h
  obtain ⟨n, h1, _, h3⟩ := DataW.trod_int ht h
  exact ⟨n, h1, h3⟩
theorem Rd.bool {t : TypeId} {cs : List Value} {d : DataW H} (h : Rd enc P w t cs d) (ht : P.underlying t = some .bool) : ∃ b, cs = [.bool b] := by
  obtain ⟨fuel, ps, h⟩ := h
  obtain ⟨b, h1, _⟩ := DataW.trod_bool ht h
  exact ⟨b, h1⟩
theorem Rd.string {t : TypeId} {cs : List Value} {d : DataW H} (h : Rd enc P w t cs d) (ht : P.underlying t = some .string) (hs : Sz P t d) : ∃ s : ByteArray, cs = [.string s] ∧ s.size ≤ reachBytes := by
  obtain ⟨fuel, ps, h⟩ := h
  obtain ⟨s, h1, h2, _⟩ := DataW.trod_string ht h
  simp only [Prod.mk.injEq] at h2
  obtain ⟨rfl, _⟩ := h2
  have := hs.string
  exact ⟨s, h1, by simpa using this⟩
theorem Rd.struct {t : TypeId} {fs : Array Field} {cs : List Value} {d : DataW H} (h : Rd enc P w t cs d) (ht : P.underlying t = some (.struct fs)) (hs : Sz P t d) :
    cs.length = P.cellsOf t ∧ ∀ (j : Nat) (f : Field), fs[j]? = some f → ∃ dj, Rd enc P w f.type ((cs.drop f.offset).take (P.cellsOf f.type)) dj ∧ Sz P f.type dj := by
  obtain ⟨fuel, ps, h⟩ := h
  obtain ⟨xs, n, _, hx, hl, hlen, hf⟩ := DataW.trod_struct ht h
  simp only [Prod.mk.injEq] at hx
  obtain ⟨rfl, _⟩ := hx
  refine ⟨hl, fun j f hj => ?_⟩
  have h1 := hf j f hj
  have hjl : j < fs.size := (Array.getElem?_eq_some_iff.1 hj).1
  have hx : xs[j]? = some (xs[j]'(by omega)) := List.getElem?_eq_getElem (by omega)
  rw [hx] at h1
  exact ⟨(xs[j]'(by omega)).1, ⟨n, _, h1⟩, hs.part ht hj (by simp [hx])⟩
theorem Rd.slice {t e : TypeId} {cs : List Value} {d : DataW H} (h : Rd enc P w t cs d) (ht : P.underlying t = some (.slice e)) (hs : Sz P t d) :
    (cs = [.slice none 0 0]) ∨ ∃ (a : Addr) (len cap : Nat), cs = [.slice (some a) len cap] ∧ len ≤ cap ∧ cap ≤ maxLen ∧ len * P.bytesOf e ≤ reachBytes ∧
      ∀ i, i < len → ∃ cs' di, cs'.length = P.cellsOf e ∧ (∀ j, j < P.cellsOf e → w.cell? (a.add (i * P.cellsOf e + j)) = cs'[j]?) ∧ Rd enc P w e cs' di ∧ Sz P e di := by
  obtain ⟨fuel, ps, h⟩ := h
  rcases DataW.trod_slice ht h with ⟨h0, _⟩ | ⟨a, len, cap, elems, rest, n, _, rfl, hx, _, hl, hm, hlen, hel, _, _⟩
  · exact .inl h0
  · simp only [Prod.mk.injEq] at hx
    obtain ⟨rfl, _⟩ := hx
    refine .inr ⟨a, len, cap, rfl, hl, hm, ?_, fun i hi => ?_⟩
    · have := hs.slice ht
      rw [List.length_map, hlen] at this
      exact Nat.le_trans (Nat.mul_le_mul_right _ (Nat.le_add_right _ _)) this
    · have h1 := hel i hi
      have hx : elems[i]? = some (elems[i]'(by omega)) := List.getElem?_eq_getElem (by omega)
      rw [hx] at h1
      obtain ⟨cs', hc, ht'⟩ := Option.bind_eq_some_iff.1 h1
      obtain ⟨_, hcl, hat⟩ := World.cells?_some hc
      refine ⟨cs', (elems[i]'(by omega)).1, hcl, fun j hj => ?_, ⟨n, _, ht'⟩, hs.elem ht (j := i) (by simp [hx])⟩
      rw [← Go.Deep.add_add]; exact hat j hj
end
theorem addr_add0 (b o j : Nat) : (⟨b, o, none⟩ : Addr).add j = ⟨b, o + j, none⟩ := by
  unfold Addr.add
  split <;> simp_all
theorem addr_spot {w : World} {a : Addr} {v : Value} {j : Nat} (h : w.cell? (a.add j) = some v) (hj : j = 0) : a = ⟨a.block, a.off, none⟩ := by
  subst hj
  obtain ⟨b, o, s⟩ := a
  have : s = none := by simpa [Addr.add] using World.cell?_spot h
  rw [this]
end Go.Args

/- Regions whose order is open: operations whose values stand while worlds evolve are taken first, the others in each order that is left. No program is named here. -/
namespace Go.Evo
set_option linter.unusedVariables false
open Go.RowKit

theorem later {W w1 : World} (hb : Below W.heap.size W w1) : ∀ wx, Grow.G w1 wx → (∀ b o, b < W.heap.size → wx.cell? ⟨b, o, none⟩ = W.cell? ⟨b, o, none⟩) ∧ (∀ b o, b < W.heap.size → wx.frozen? ⟨b, o, none⟩ = W.frozen? ⟨b, o, none⟩) ∧ W.heap.size ≤ wx.heap.size :=
  fun wx gx => have h := Grow.G.trans (show Grow.G W w1 from hb) gx
    ⟨fun b o hl => Below.cell (p := ⟨b, o, none⟩) h hl, fun b o hl => Below.frozen (p := ⟨b, o, none⟩) h hl, Below.size h⟩
theorem same {P : Program} {f : FuncId} {args : Array Value} {w : World} {r : Ending} (h : Calls P f args w fun e w' => e = r ∧ w = w') : Calls P f args w fun e w' => e = r ∧ Grow.G w w' :=
  h.mono fun e w' ⟨he, hw⟩ => ⟨he, hw ▸ Grow.G.refl w⟩
structure Pre (T : World → World → Prop) : Prop where
  refl : ∀ w, T w w
  trans : ∀ {a b c}, T a b → T b c → T a c
  drawn : ∀ w n, T w { w with drawn := n }
def RunsT (P : Program) (T : World → World → Prop) (s : Sem Next) (w : World) (v : Value) : Prop :=
  (∃ w2, s.run P w = .ok (.value v) w2 ∧ T w w2) ∨
  ∃ f args w2, s.run P w = .ok (.enter f args) w2 ∧ T w w2 ∧ Calls P f args w2 fun e w' => e = .returned v ∧ T w2 w'
def YieldsT (P : Program) (T : World → World → Prop) (ops : Array Oper) (o : Oper) (v : Value) (a : Act) (w : World) : Prop :=
  (Region.wanted o (yielded ops a.tmps) = true ∧ ∀ w1, T w w1 → RunsT P T (execOp a.eval o) w1 v) ∨
  (Region.wanted o (yielded ops a.tmps) = false ∧ v = undef)

def deps (md : Region.Mode) (ops : Array Oper) (i : Nat) : List Nat :=
  match ops[i]? with
  | some o => (o.after.toList.filter (Region.binds md)).map (·.on)
  | none => []
def clos (md : Region.Mode) (ops : Array Oper) : Nat → List Nat → List Nat
  | 0, s => s
  | k + 1, s => clos md ops k (s ++ s.flatMap (deps md ops)).eraseDups
def Closed (md : Region.Mode) (ops : Array Oper) (listed : Array Bool) : Prop := ∀ j, listed.getD j false = true → ∀ k ∈ deps md ops j, listed.getD k false = true
def closedB (md : Region.Mode) (ops : Array Oper) (listed : Array Bool) : Bool :=
  (List.range listed.size).all fun j => !listed.getD j false || (deps md ops j).all fun k => listed.getD k false
theorem closed_of {md : Region.Mode} {ops : Array Oper} {listed : Array Bool} (h : closedB md ops listed = true) : Closed md ops listed := by
  intro j hj k hk
  have hlt : j < listed.size := by
    rcases Nat.lt_or_ge j listed.size with h' | h'
    · exact h'
    · simp [h'] at hj
  have := List.all_eq_true.1 h j (List.mem_range.2 hlt)
  rw [hj, Bool.not_true, Bool.false_or] at this
  exact List.all_eq_true.1 this k hk
theorem clos_listed {md : Region.Mode} {ops : Array Oper} {listed : Array Bool} (hc : Closed md ops listed) : ∀ (n : Nat) (s : List Nat), (∀ j ∈ s, listed.getD j false = true) → ∀ j ∈ clos md ops n s, listed.getD j false = true
  | 0, s, h => h
  | n + 1, s, h => clos_listed hc n _ fun j hj => by
    rw [List.mem_eraseDups, List.mem_append] at hj
    rcases hj with hj | hj
    · exact h j hj
    · obtain ⟨i, hi, hk⟩ := List.mem_flatMap.1 hj
      exact hc i (h i hi) j hk
def lastB (md : Region.Mode) (ops : Array Oper) : Option Nat → Bool
  | none => true
  | some l => (List.range ops.size).all fun j => j == l || (clos md ops 10 (deps md ops l)).contains j
theorem mem_deps {md : Region.Mode} {ops : Array Oper} {listed : Array Bool} {i : Nat} (h : i ∈ Region.ready md ops listed) : ∀ k ∈ deps md ops i, listed.getD k false = true := by
  obtain ⟨_, o, ho, hall⟩ := mem_ready.1 h
  intro k hk
  unfold deps at hk
  rw [ho] at hk
  obtain ⟨e, he, rfl⟩ := List.mem_map.1 hk
  rw [List.mem_filter] at he
  exact hall e (by simpa using he.1) he.2
theorem closed_set {md : Region.Mode} {ops : Array Oper} {listed : Array Bool} {i : Nat} (hc : Closed md ops listed) (h : i ∈ Region.ready md ops listed) : Closed md ops (listed.setIfInBounds i true) := by
  intro j hj k hk
  refine getD_set_true ?_
  by_cases e : i = j
  · subst e; exact mem_deps h k hk
  · rw [getD_set_ne false e] at hj; exact hc j hj k hk
theorem getD_two {listed : Array Bool} {i : Nat} (h : listed.getD i false = true) : listed.getD i true = true := by
  rcases Nat.lt_or_ge i listed.size with h' | h'
  · simpa [h'] using h
  · simp [h'] at h
theorem last_of {md : Region.Mode} {ops : Array Oper} {ℓ : Option Nat} (h : lastB md ops ℓ = true) {l : Nat} (hl : ℓ = some l) {listed : Array Bool} (hc : Closed md ops listed) (hr : l ∈ Region.ready md ops listed) {k : Nat} (hk : k < ops.size) (hne : k ≠ l) : listed.getD k true = true := by
  subst hl
  have := List.all_eq_true.1 h k (List.mem_range.2 hk)
  simp only [Bool.or_eq_true, beq_iff_eq, hne, false_or, List.contains_iff_mem] at this
  exact getD_two (clos_listed hc 10 _ (mem_deps hr) k this)

section
variable {P : Program} {T : World → World → Prop} {md : Region.Mode} {ops : Array Oper} {Q : Exit → Act → World → Prop} {ℓ : Option Nat}

theorem YieldsT.mono (hT : Pre T) {o : Oper} {v : Value} {a : Act} {w w1 : World} (h : YieldsT P T ops o v a w) (g : T w w1) : YieldsT P T ops o v a w1 :=
  h.imp (fun ⟨hw, hv⟩ => ⟨hw, fun w2 g2 => hv w2 (hT.trans g g2)⟩) id
theorem YieldsT.same {o : Oper} {v : Value} {a a' : Act} {w : World} (h : YieldsT P T ops o v a w) (he : execOp a'.eval o = execOp a.eval o)
    (hw : Region.wanted o (yielded ops a'.tmps) = Region.wanted o (yielded ops a.tmps)) : YieldsT P T ops o v a' w := by
  unfold YieldsT at *
  rw [he, hw]; exact h
theorem YieldsT.op (hT : Pre T) {i : Nat} {o : Oper} {v : Value} {a : Act} {w : World} (hi : ops[i]? = some o) (hy : YieldsT P T ops o v a w)
    {K : Act → World → Prop} (h : ∀ w1, T w w1 → K (a.put o.dst v) w1) : wpOp P ops Q i K a w := by
  unfold wpOp
  simp only [hi]
  rcases hy with ⟨hw, hv⟩ | ⟨hw, rfl⟩
  · simp only [hw, if_true]
    refine .inl ?_
    unfold Oper.wp
    rcases hv w (hT.refl w) with ⟨w2, hr, g⟩ | ⟨f, args, w2, hr, g, hc⟩
    · rw [hr]; exact h w2 g
    · rw [hr]
      exact Calls.mono hc fun e w' ⟨he, g'⟩ => by subst he; exact h w' (hT.trans g g')
  · simp only [hw, Bool.false_eq_true, if_false]
    exact h w (hT.refl w)

def wpX (P : Program) (T : World → World → Prop) (md : Region.Mode) (ops : Array Oper) (Q : Exit → Act → World → Prop) (ℓ : Option Nat) : Nat → Array Bool → Act → World → Prop
  | 0, listed, a, w => Region.ready md ops listed = [] ∧ ∀ w1, T w w1 → Q .normal a w1
  | fuel + 1, listed, a, w => ∀ w1, T w w1 → (Region.ready md ops listed = [] → Q .normal a w1) ∧
    ∀ i ∈ Region.ready md ops listed, wpOp P ops Q i (fun a' w' => (ℓ = some i ∨ T w1 w') ∧ wpX P T md ops Q ℓ fuel (listed.setIfInBounds i true) a' w') a w1

theorem wpX.any (hT : Pre T) : ∀ (fuel : Nat) (listed : Array Bool) (a : Act) (w : World), wpX P T md ops Q ℓ fuel listed a w → wpAny P md ops Q fuel listed a w
  | 0, _, _, w, h => ⟨h.1, h.2 w (hT.refl w)⟩
  | fuel + 1, _, _, w, h => ⟨(h w (hT.refl w)).1, fun i hi => wpOp_mono (fun a' w' h' => wpX.any hT fuel _ a' w' h'.2) ((h w (hT.refl w)).2 i hi)⟩
theorem wpX.mono (hT : Pre T) {listed : Array Bool} {a : Act} {w w1 : World} : ∀ {fuel : Nat}, wpX P T md ops Q ℓ fuel listed a w → T w w1 → wpX P T md ops Q ℓ fuel listed a w1
  | 0, h, g => ⟨h.1, fun w2 g2 => h.2 w2 (hT.trans g g2)⟩
  | _ + 1, h, g => fun w2 g2 => h w2 (hT.trans g g2)

/-- What holds of a region, whatever has been done of it. -/
structure Okay (P : Program) (T : World → World → Prop) (md : Region.Mode) (ops : Array Oper) (Q : Exit → Act → World → Prop) (ℓ : Option Nat) : Prop where
  pre : Pre T
  sel : Region.noSelect ops = true
  pan : ∀ c a d v w, Q (.panic c) (a.put d v) w → Q (.panic c) a w
  last : lastB md ops ℓ = true

theorem take (ok : Okay P T md ops Q ℓ) {i : Nat} {oi : Oper} {v : Value} (hi : ops[i]? = some oi) (hil : ℓ ≠ some i) :
    ∀ (fuel : Nat) (listed : Array Bool) (a : Act) (w : World), Closed md ops listed →
      (∀ j oj, ops[j]? = some oj → j ≠ i → listed.getD j true = false → (∀ e ∈ oj.after, Region.binds md e = true → e.on ≠ i) → oi.apart ops oj = true) →
      i ∈ Region.ready md ops listed → YieldsT P T ops oi v a w →
      wpX P T md ops Q ℓ fuel (listed.setIfInBounds i true) (a.put oi.dst v) w → wpX P T md ops Q ℓ (fuel + 1) listed a w := by
  have hT := ok.pre
  intro fuel
  induction fuel with
  | zero =>
    intro listed a w hcl hfree hr hy H w1 g
    refine ⟨fun h => absurd hr (by rw [h]; simp), fun j hj => ?_⟩
    by_cases hji : j = i
    · subst hji
      exact (hy.mono hT g).op hT hi fun w2 g2 => ⟨.inr g2, H.mono hT (hT.trans g g2)⟩
    · have h1 := ready_mono hj hji
      rw [H.1] at h1; cases h1
  | succ fuel ih =>
    intro listed a w hcl hfree hr hy H w1 g
    refine ⟨fun h => absurd hr (by rw [h]; simp), fun j hj => ?_⟩
    by_cases hji : j = i
    · subst hji
      exact (hy.mono hT g).op hT hi fun w2 g2 => ⟨.inr g2, H.mono hT (hT.trans g g2)⟩
    · have h1 := (H w1 g).2 j (ready_mono hj hji)
      obtain ⟨hjun, oj, hoj, hall⟩ := mem_ready.1 hj
      have hnot : ∀ e ∈ oj.after, Region.binds md e = true → e.on ≠ i := fun e he hb heq => by
        have h2 := hall e he hb
        have h0 := (mem_ready.1 hr).1
        rw [heq] at h2
        rw [getD_two h2] at h0; cases h0
      have hjl : ℓ ≠ some j := fun e => by
        have := last_of ok.last e hcl hj (k := i) (Array.getElem?_eq_some_iff.1 hi).1 (Ne.symm hji)
        rw [(mem_ready.1 hr).1] at this; cases this
      have h2 := Grow.commute hoj (hfree j oj hoj hji hjun hnot) (fun cs b => Region.noSelect_spec ok.sel i oi cs b hi) (fun cs b => Region.noSelect_spec ok.sel j oj cs b hoj) (fun c a w => ok.pan c a oi.dst v w) h1
      refine wpOp_mono (fun a' w' h3 => ?_) h2
      obtain ⟨⟨he, hw⟩, g3, h4⟩ := h3
      have g3 : T w1 w' := g3.resolve_left hjl
      refine ⟨.inr g3, ih (listed.setIfInBounds j true) a' w' (closed_set hcl hj) (fun k ok' hk hki hun hno => ?_) (ready_mono hr (Ne.symm hji)) (((hy.mono hT g).mono hT g3).same he hw) ?_⟩
      · refine hfree k ok' hk hki ?_ hno
        by_cases hjk : j = k
        · subst hjk; exact hjun
        · rw [getD_set_ne true hjk] at hun; exact hun
      · rw [Array.setIfInBounds_comm _ _ hji]; exact h4

/-- THE BEGINNING. -/
theorem start {id : Nat} {a : Act} {w : World} (hm : P.follows .mixedOrders = true) (ok : Okay P T .any ops Q ℓ)
    (h : wpX P T .any ops Q ℓ ops.size (Array.replicate ops.size false) a w) : (Code.region id ops true).wp P Q a w :=
  wp_region_any hm (wpX.any ok.pre _ _ _ _ (h.mono ok.pre (ok.pre.drawn w (w.drawn + 1))))

theorem start' {id : Nat} {a : Act} {w : World} (hm : P.follows .mixedOrders = true) (ok : Okay P T .any ops Q ℓ)
    (h : Okay P T .any ops Q ℓ → wpX P T .any ops Q ℓ ops.size (Array.replicate ops.size false) a w) : (Code.region id ops true).wp P Q a w := start hm ok (h ok)

def chk (md : Region.Mode) (ops : Array Oper) (listed : Array Bool) (ℓ : Option Nat) (i : Nat) : Bool :=
  Region.free md ops listed i && (Region.ready md ops listed).contains i && closedB md ops listed && (ℓ != some i)
theorem chk_take (ok : Okay P T md ops Q ℓ) {i : Nat} {oi : Oper} {v : Value} {fuel : Nat} {listed : Array Bool} {a : Act} {w : World} (hi : ops[i]? = some oi) (hc : chk md ops listed ℓ i = true)
    (hy : YieldsT P T ops oi v a w) (h : wpX P T md ops Q ℓ fuel (listed.setIfInBounds i true) (a.put oi.dst v) w) : wpX P T md ops Q ℓ (fuel + 1) listed a w := by
  simp only [chk, Bool.and_eq_true] at hc
  exact take ok hi (by simpa using hc.2) fuel listed a w (closed_of hc.1.2) (Region.free_spec hi hc.1.1.1) (by simpa using hc.1.1.2) hy h

theorem at_drop {ops : Array Oper} {i : Nat} {o : Oper} {rest : List Oper} (h : ops.toList.drop i = o :: rest) : ops[i]? = some o := by
  have h1 : (ops.toList.drop i)[0]? = some o := by rw [h]; rfl
  rw [List.getElem?_drop] at h1
  simpa using h1
theorem value (ok : Okay P T md ops Q ℓ) (i : Nat) {o : Oper} {rest : List Oper} {fuel : Nat} {listed : Array Bool} {a : Act} {w : World} (v : Value) (hi : ops.toList.drop i = o :: rest) (hc : chk md ops listed ℓ i = true)
    (hw : Region.wanted o (yielded ops a.tmps) = true) (hv : ∀ w1, T w w1 → (execOp a.eval o).run P w1 = .ok (.value v) w1)
    (h : wpX P T md ops Q ℓ fuel (listed.setIfInBounds i true) (a.put o.dst v) w) : wpX P T md ops Q ℓ (fuel + 1) listed a w :=
  chk_take ok (at_drop hi) hc (.inl ⟨hw, fun w1 g => .inl ⟨w1, hv w1 g, ok.pre.refl w1⟩⟩) h
theorem idle (ok : Okay P T md ops Q ℓ) (i : Nat) {o : Oper} {rest : List Oper} {fuel : Nat} {listed : Array Bool} {a : Act} {w : World} (hi : ops.toList.drop i = o :: rest) (hc : chk md ops listed ℓ i = true)
    (hw : Region.wanted o (yielded ops a.tmps) = false) (h : wpX P T md ops Q ℓ fuel (listed.setIfInBounds i true) (a.put o.dst undef) w) : wpX P T md ops Q ℓ (fuel + 1) listed a w :=
  chk_take ok (at_drop hi) hc (.inr ⟨hw, rfl⟩) h
theorem call (ok : Okay P T md ops Q ℓ) (i : Nat) {o : Oper} {rest : List Oper} {fuel : Nat} {listed : Array Bool} {a : Act} {w : World} (v : Value) (f : FuncId) (args : Array Value) (hi : ops.toList.drop i = o :: rest) (hc : chk md ops listed ℓ i = true)
    (hw : Region.wanted o (yielded ops a.tmps) = true) (hv : ∀ w1, (execOp a.eval o).run P w1 = .ok (.enter f args) w1)
    (hcall : ∀ w1, T w w1 → Calls P f args w1 fun e w' => e = .returned v ∧ T w1 w')
    (h : wpX P T md ops Q ℓ fuel (listed.setIfInBounds i true) (a.put o.dst v) w) : wpX P T md ops Q ℓ (fuel + 1) listed a w :=
  chk_take ok (at_drop hi) hc (.inl ⟨hw, fun w1 g => .inr ⟨f, args, w1, hv w1, ok.pre.refl w1, hcall w1 g⟩⟩) h
/-- The operations that are left to choose from, each as it runs. -/
theorem all (rs : List Nat) {fuel : Nat} {listed : Array Bool} {a : Act} {w : World} (hr : (Region.ready md ops listed == rs) = true) (hne : rs.isEmpty = false)
    (h : ∀ w1, T w w1 → ∀ i ∈ rs, wpOp P ops Q i (fun a' w' => (ℓ = some i ∨ T w1 w') ∧ wpX P T md ops Q ℓ fuel (listed.setIfInBounds i true) a' w') a w1) : wpX P T md ops Q ℓ (fuel + 1) listed a w := by
  have hr' := eq_of_beq hr
  intro w1 g
  rw [hr']
  exact ⟨(fun e => by subst e; cases hne), h w1 g⟩
def After (r : Result Next) (K : Value → World → Prop) : Prop :=
  match r with
  | .ok (.value v) w => K v w
  | .ok .skip w => K undef w
  | _ => False
theorem after_value (v : Value) (w : World) (K : Value → World → Prop) : After (.ok (.value v) w) K = K v w := rfl
theorem after_skip (w : World) (K : Value → World → Prop) : After (.ok .skip w) K = K undef w := rfl
theorem runs {i : Nat} {o : Oper} {rest : List Oper} {a : Act} {w : World} {K : Act → World → Prop} (hi : ops.toList.drop i = o :: rest) (hw : Region.wanted o (yielded ops a.tmps) = true)
    (h : ∀ K' : Value → World → Prop, Hid (∀ v w2, K (a.put o.dst v) w2 → K' v w2) → After ((execOp a.eval o).run P w) K') : wpOp P ops Q i K a w := by
  have h1 := h (fun v w2 => K (a.put o.dst v) w2) (fun v w2 hk => hk)
  unfold wpOp
  simp only [at_drop hi, hw, if_true]
  refine .inl ?_
  unfold Oper.wp
  generalize (execOp a.eval o).run P w = r at h1 ⊢
  match r, h1 with
  | .ok (.value v) w2, h1 => exact h1
  | .ok .skip w2, h1 => exact h1
theorem enters {i : Nat} {o : Oper} {rest : List Oper} {a : Act} {w w2 : World} {K : Act → World → Prop} (f : FuncId) (args : Array Value) (hi : ops.toList.drop i = o :: rest) (hw : Region.wanted o (yielded ops a.tmps) = true) (hv : (execOp a.eval o).run P w = .ok (.enter f args) w2)
    (h : Calls P f args w2 fun e w' => ∃ v, e = .returned v ∧ K (a.put o.dst v) w') : wpOp P ops Q i K a w := by
  unfold wpOp
  simp only [at_drop hi, hw, if_true]
  exact .inl (by unfold Oper.wp; rw [hv]; exact Calls.mono h fun e w' ⟨v, he, hk⟩ => by subst he; exact hk)
theorem done {listed : Array Bool} {a : Act} {w : World} (hr : (Region.ready md ops listed).isEmpty = true) (h : ∀ w1, T w w1 → Q .normal a w1) : wpX P T md ops Q ℓ 0 listed a w :=
  ⟨by simpa using hr, h⟩
theorem val (ok : Okay P T md ops Q ℓ) (i : Nat) {o : Oper} {rest : List Oper} {fuel : Nat} {listed : Array Bool} {a : Act} {w : World} (v : Value) (hv : ∀ w1, T w w1 → (execOp a.eval o).run P w1 = .ok (.value v) w1)
    (h : wpX P T md ops Q ℓ fuel (listed.setIfInBounds i true) (a.put o.dst v) w) (hi : ops.toList.drop i = o :: rest := by rfl) (hc : chk md ops listed ℓ i = true := by decide +kernel) (hw : Region.wanted o (yielded ops a.tmps) = true := by rfl) : wpX P T md ops Q ℓ (fuel + 1) listed a w :=
  value ok i v hi hc hw hv h
theorem cal (ok : Okay P T md ops Q ℓ) (i : Nat) {o : Oper} {rest : List Oper} {fuel : Nat} {listed : Array Bool} {a : Act} {w : World} (v : Value) (f : FuncId) (args : Array Value) (hv : ∀ w1, (execOp a.eval o).run P w1 = .ok (.enter f args) w1)
    (hcall : ∀ w1, T w w1 → Calls P f args w1 fun e w' => e = .returned v ∧ T w1 w')
    (h : wpX P T md ops Q ℓ fuel (listed.setIfInBounds i true) (a.put o.dst v) w) (hi : ops.toList.drop i = o :: rest := by rfl) (hc : chk md ops listed ℓ i = true := by decide +kernel) (hw : Region.wanted o (yielded ops a.tmps) = true := by rfl) : wpX P T md ops Q ℓ (fuel + 1) listed a w :=
  call ok i v f args hi hc hw hv hcall h
end
end Go.Evo
namespace Go
theorem L0 {α : Type} {l : List α} {i : Nat} {a : α} : l.toArray.setIfInBounds i a = (l.set i a).toArray := List.setIfInBounds_toArray ..
theorem L1 {α : Type} {x : α} {xs : List α} {a : α} : (x :: xs).set 0 a = a :: xs := List.set_cons_zero
theorem L2 {α : Type} {x : α} {xs : List α} {n : Nat} {a : α} : (x :: xs).set (n + 1) a = x :: xs.set n a := List.set_cons_succ
end Go

/- As Evo: but what is done last of all, or one by one in the text's order, may change memory of its own: S: what the values that are taken first are sure of; E: what they themselves do. No program is named here. -/
namespace Go.Evo2
set_option linter.unusedVariables false
open Go.RowKit
open Go.Evo (deps clos Closed closedB closed_of clos_listed lastB mem_deps closed_set getD_two last_of at_drop After after_value after_skip)

structure Pre (S E : World → World → Prop) : Prop where
  refl : ∀ w, E w w
  trans : ∀ {a b c}, E a b → E b c → E a c
  strans : ∀ {a b c}, S a b → S b c → S a c
  sub : ∀ {a b}, E a b → S a b
  drawn : ∀ w : World, E w { w with drawn := w.drawn + 1 }
/-- A block whose head is no byte. -/
def NB (w : World) (k : Nat) : Prop := ∃ x, w.cell? ⟨k, 0, none⟩ = some x ∧ ∀ z, x ≠ .int .u8 z
theorem NB.lt {w : World} {k : Nat} (h : NB w k) : k < w.heap.size := by
  obtain ⟨x, hx, _⟩ := h
  rcases Nat.lt_or_ge k w.heap.size with h' | h'
  · exact h'
  · simp [World.cell?, Array.getElem?_eq_none h'] at hx
/-- Blocks below B stand, and all those whose head is no byte; all else only grows while values are taken. -/
def SK (B : Nat) (w w' : World) : Prop := Below B w w' ∧ ∀ k, NB w k → w'.heap[k]? = w.heap[k]?
theorem SK.refl (B : Nat) (w : World) : SK B w w := ⟨Below.refl _ _, fun _ _ => rfl⟩
theorem NB.later {w w' : World} {k : Nat} (h : NB w k) (e : w'.heap[k]? = w.heap[k]?) : NB w' k := by
  obtain ⟨x, hx, hz⟩ := h
  exact ⟨x, (World.cell?_of_block (w := w) (w' := w') (a := ⟨k, 0, none⟩) e).trans hx, hz⟩
theorem SK.trans {B : Nat} {a b c : World} (h : SK B a b) (k : SK B b c) : SK B a c :=
  ⟨Below.trans h.1 k.1, fun n hn => (k.2 n (hn.later (h.2 n hn))).trans (h.2 n hn)⟩
theorem SK.size {B : Nat} {a b : World} (h : SK B a b) : a.heap.size ≤ b.heap.size := h.1.size
theorem SK.mono {B B' : Nat} {a b : World} (h : SK B a b) (hb : B' ≤ B) : SK B' a b := ⟨Below.mono h.1 hb, h.2⟩
theorem SK.grow {B : Nat} {a b : World} (h : Grow.G a b) (k : Below B a b) : SK B a b := ⟨k, fun n hn => h.block n hn.lt⟩
theorem SK.alloc {B : Nat} {a b : World} (h : SK B a b) (hb : B ≤ b.heap.size) (o : Obj) : SK B a (b.alloc o) := h.trans (SK.grow (Grow.G.alloc (Grow.G.refl _) _) (Below.alloc (Below.refl _ _) hb _))
abbrev SB (B : Nat) (w w' : World) : Prop := SK B w w'
/-- All that was there stands, but for block g. -/
def SG (g : Nat) (w w' : World) : Prop := w.grownBy w' (some g)
theorem SG.refl (g : Nat) (w : World) : SG g w w := ⟨rfl, rfl, rfl, Nat.le_refl _, fun _ _ _ => rfl⟩
theorem SG.trans {g : Nat} {a b c : World} (h : SG g a b) (k : SG g b c) : SG g a c :=
  ⟨k.os.trans h.os, k.tape.trans h.tape, k.output.trans h.output, Nat.le_trans h.size k.size, fun n hn hne => (k.block n (Nat.lt_of_lt_of_le hn h.size) hne).trans (h.block n hn hne)⟩
theorem SG.setCell {g : Nat} {a b : World} (h : SG g a b) (o : Nat) (v : Value) : SG g a (b.setCell ⟨g, o, none⟩ v) :=
  h.trans ⟨rfl, rfl, rfl, by simp [World.setCell], fun k _ hne => by simp only [World.setCell, Array.getElem?_modify]; rw [if_neg (fun e => hne (by rw [e]))]⟩
theorem SG.cell {g : Nat} {w w' : World} (h : SG g w w') {b o : Nat} {v : Value} (hc : w.cell? ⟨b, o, none⟩ = some v) (hne : b ≠ g) : w'.cell? ⟨b, o, none⟩ = some v := by
  have hb : b < w.heap.size := by
    rcases Nat.lt_or_ge b w.heap.size with h' | h'
    · exact h'
    · simp [World.cell?, Array.getElem?_eq_none h'] at hc
  exact (World.cell?_of_block (w := w) (w' := w') (a := ⟨b, o, none⟩) (h.block b hb (fun e => hne (by cases e; rfl)))).trans hc
def RunsT (P : Program) (E : World → World → Prop) (s : Sem Next) (w : World) (v : Value) : Prop :=
  (∃ w2, s.run P w = .ok (.value v) w2 ∧ E w w2) ∨
  ∃ f args w2, s.run P w = .ok (.enter f args) w2 ∧ E w w2 ∧ Calls P f args w2 fun e w' => e = .returned v ∧ E w2 w'
def YieldsT (P : Program) (S E : World → World → Prop) (ops : Array Oper) (o : Oper) (v : Value) (a : Act) (w : World) : Prop :=
  (Region.wanted o (yielded ops a.tmps) = true ∧ ∀ w1, S w w1 → RunsT P E (execOp a.eval o) w1 v) ∨
  (Region.wanted o (yielded ops a.tmps) = false ∧ v = undef)

section
variable {P : Program} {S E : World → World → Prop} {md : Region.Mode} {ops : Array Oper} {Q : Exit → Act → World → Prop} {ℓ : Option Nat}

theorem YieldsT.mono (hT : Pre S E) {o : Oper} {v : Value} {a : Act} {w w1 : World} (h : YieldsT P S E ops o v a w) (g : S w w1) : YieldsT P S E ops o v a w1 :=
  h.imp (fun ⟨hw, hv⟩ => ⟨hw, fun w2 g2 => hv w2 (hT.strans g g2)⟩) id
theorem YieldsT.same {o : Oper} {v : Value} {a a' : Act} {w : World} (h : YieldsT P S E ops o v a w) (he : execOp a'.eval o = execOp a.eval o)
    (hw : Region.wanted o (yielded ops a'.tmps) = Region.wanted o (yielded ops a.tmps)) : YieldsT P S E ops o v a' w := by
  unfold YieldsT at *
  rw [he, hw]; exact h
theorem YieldsT.op (hT : Pre S E) {i : Nat} {o : Oper} {v : Value} {a : Act} {w : World} (hi : ops[i]? = some o) (hy : YieldsT P S E ops o v a w)
    {K : Act → World → Prop} (h : ∀ w1, E w w1 → K (a.put o.dst v) w1) : wpOp P ops Q i K a w := by
  unfold wpOp
  simp only [hi]
  rcases hy with ⟨hw, hv⟩ | ⟨hw, rfl⟩
  · simp only [hw, if_true]
    refine .inl ?_
    unfold Oper.wp
    rcases hv w (hT.sub (hT.refl w)) with ⟨w2, hr, g⟩ | ⟨f, args, w2, hr, g, hc⟩
    · rw [hr]; exact h w2 g
    · rw [hr]
      exact Calls.mono hc fun e w' ⟨he, g'⟩ => by subst he; exact h w' (hT.trans g g')
  · simp only [hw, Bool.false_eq_true, if_false]
    exact h w (hT.refl w)

def wpX (P : Program) (S E : World → World → Prop) (md : Region.Mode) (ops : Array Oper) (Q : Exit → Act → World → Prop) (ℓ : Option Nat) : Nat → Array Bool → Act → World → Prop
  | 0, listed, a, w => Region.ready md ops listed = [] ∧ ∀ w1, E w w1 → Q .normal a w1
  | fuel + 1, listed, a, w => ∀ w1, E w w1 → (Region.ready md ops listed = [] → Q .normal a w1) ∧
    ∀ i ∈ Region.ready md ops listed, wpOp P ops Q i (fun a' w' => (ℓ = some i ∨ S w1 w') ∧ wpX P S E md ops Q ℓ fuel (listed.setIfInBounds i true) a' w') a w1

theorem wpX.any (hT : Pre S E) : ∀ (fuel : Nat) (listed : Array Bool) (a : Act) (w : World), wpX P S E md ops Q ℓ fuel listed a w → wpAny P md ops Q fuel listed a w
  | 0, _, _, w, h => ⟨h.1, h.2 w (hT.refl w)⟩
  | fuel + 1, _, _, w, h => ⟨(h w (hT.refl w)).1, fun i hi => wpOp_mono (fun a' w' h' => wpX.any hT fuel _ a' w' h'.2) ((h w (hT.refl w)).2 i hi)⟩
theorem wpX.mono (hT : Pre S E) {listed : Array Bool} {a : Act} {w w1 : World} : ∀ {fuel : Nat}, wpX P S E md ops Q ℓ fuel listed a w → E w w1 → wpX P S E md ops Q ℓ fuel listed a w1
  | 0, h, g => ⟨h.1, fun w2 g2 => h.2 w2 (hT.trans g g2)⟩
  | _ + 1, h, g => fun w2 g2 => h w2 (hT.trans g g2)

/-- What holds of a region, whatever has been done of it. -/
structure Okay (P : Program) (S E : World → World → Prop) (md : Region.Mode) (ops : Array Oper) (Q : Exit → Act → World → Prop) (ℓ : Option Nat) : Prop where
  pre : Pre S E
  sel : Region.noSelect ops = true
  pan : ∀ c a d v w, Q (.panic c) (a.put d v) w → Q (.panic c) a w
  last : lastB md ops ℓ = true

theorem take (ok : Okay P S E md ops Q ℓ) {i : Nat} {oi : Oper} {v : Value} (hi : ops[i]? = some oi) (hil : ℓ ≠ some i) :
    ∀ (fuel : Nat) (listed : Array Bool) (a : Act) (w : World), Closed md ops listed →
      (∀ j oj, ops[j]? = some oj → j ≠ i → listed.getD j true = false → (∀ e ∈ oj.after, Region.binds md e = true → e.on ≠ i) → oi.apart ops oj = true) →
      i ∈ Region.ready md ops listed → YieldsT P S E ops oi v a w →
      wpX P S E md ops Q ℓ fuel (listed.setIfInBounds i true) (a.put oi.dst v) w → wpX P S E md ops Q ℓ (fuel + 1) listed a w := by
  have hT := ok.pre
  intro fuel
  induction fuel with
  | zero =>
    intro listed a w hcl hfree hr hy H w1 g
    refine ⟨fun h => absurd hr (by rw [h]; simp), fun j hj => ?_⟩
    by_cases hji : j = i
    · subst hji
      exact (hy.mono hT (hT.sub g)).op hT hi fun w2 g2 => ⟨.inr (hT.sub g2), H.mono hT (hT.trans g g2)⟩
    · have h1 := ready_mono hj hji
      rw [H.1] at h1; cases h1
  | succ fuel ih =>
    intro listed a w hcl hfree hr hy H w1 g
    refine ⟨fun h => absurd hr (by rw [h]; simp), fun j hj => ?_⟩
    by_cases hji : j = i
    · subst hji
      exact (hy.mono hT (hT.sub g)).op hT hi fun w2 g2 => ⟨.inr (hT.sub g2), H.mono hT (hT.trans g g2)⟩
    · have h1 := (H w1 g).2 j (ready_mono hj hji)
      obtain ⟨hjun, oj, hoj, hall⟩ := mem_ready.1 hj
      have hnot : ∀ e ∈ oj.after, Region.binds md e = true → e.on ≠ i := fun e he hb heq => by
        have h2 := hall e he hb
        have h0 := (mem_ready.1 hr).1
        rw [heq] at h2
        rw [getD_two h2] at h0; cases h0
      have hjl : ℓ ≠ some j := fun e => by
        have := last_of ok.last e hcl hj (k := i) (Array.getElem?_eq_some_iff.1 hi).1 (Ne.symm hji)
        rw [(mem_ready.1 hr).1] at this; cases this
      have h2 := Grow.commute hoj (hfree j oj hoj hji hjun hnot) (fun cs b => Region.noSelect_spec ok.sel i oi cs b hi) (fun cs b => Region.noSelect_spec ok.sel j oj cs b hoj) (fun c a w => ok.pan c a oi.dst v w) h1
      refine wpOp_mono (fun a' w' h3 => ?_) h2
      obtain ⟨⟨he, hw⟩, g3, h4⟩ := h3
      have g3 : S w1 w' := g3.resolve_left hjl
      refine ⟨.inr g3, ih (listed.setIfInBounds j true) a' w' (closed_set hcl hj) (fun k ok' hk hki hun hno => ?_) (ready_mono hr (Ne.symm hji)) (((hy.mono hT (hT.sub g)).mono hT g3).same he hw) ?_⟩
      · refine hfree k ok' hk hki ?_ hno
        by_cases hjk : j = k
        · subst hjk; exact hjun
        · rw [getD_set_ne true hjk] at hun; exact hun
      · rw [Array.setIfInBounds_comm _ _ hji]; exact h4

/-- THE BEGINNING. -/
theorem start {id : Nat} {a : Act} {w : World} (hm : P.follows .mixedOrders = true) (ok : Okay P S E .any ops Q ℓ)
    (h : wpX P S E .any ops Q ℓ ops.size (Array.replicate ops.size false) a w) : (Code.region id ops true).wp P Q a w :=
  wp_region_any hm (wpX.any ok.pre _ _ _ _ (h.mono ok.pre (ok.pre.drawn w)))

theorem start' {id : Nat} {a : Act} {w : World} (hm : P.follows .mixedOrders = true) (ok : Okay P S E .any ops Q ℓ)
    (h : Okay P S E .any ops Q ℓ → wpX P S E .any ops Q ℓ ops.size (Array.replicate ops.size false) a w) : (Code.region id ops true).wp P Q a w := start hm ok (h ok)

def chk (md : Region.Mode) (ops : Array Oper) (listed : Array Bool) (ℓ : Option Nat) (i : Nat) : Bool :=
  Region.free md ops listed i && (Region.ready md ops listed).contains i && closedB md ops listed && (ℓ != some i)
theorem chk_take (ok : Okay P S E md ops Q ℓ) {i : Nat} {oi : Oper} {v : Value} {fuel : Nat} {listed : Array Bool} {a : Act} {w : World} (hi : ops[i]? = some oi) (hc : chk md ops listed ℓ i = true)
    (hy : YieldsT P S E ops oi v a w) (h : wpX P S E md ops Q ℓ fuel (listed.setIfInBounds i true) (a.put oi.dst v) w) : wpX P S E md ops Q ℓ (fuel + 1) listed a w := by
  simp only [chk, Bool.and_eq_true] at hc
  exact take ok hi (by simpa using hc.2) fuel listed a w (closed_of hc.1.2) (Region.free_spec hi hc.1.1.1) (by simpa using hc.1.1.2) hy h

theorem value (ok : Okay P S E md ops Q ℓ) (i : Nat) {o : Oper} {rest : List Oper} {fuel : Nat} {listed : Array Bool} {a : Act} {w : World} (v : Value) (hi : ops.toList.drop i = o :: rest) (hc : chk md ops listed ℓ i = true)
    (hw : Region.wanted o (yielded ops a.tmps) = true) (hv : ∀ w1, S w w1 → (execOp a.eval o).run P w1 = .ok (.value v) w1)
    (h : wpX P S E md ops Q ℓ fuel (listed.setIfInBounds i true) (a.put o.dst v) w) : wpX P S E md ops Q ℓ (fuel + 1) listed a w :=
  chk_take ok (at_drop hi) hc (.inl ⟨hw, fun w1 g => .inl ⟨w1, hv w1 g, ok.pre.refl w1⟩⟩) h
theorem idle (ok : Okay P S E md ops Q ℓ) (i : Nat) {o : Oper} {rest : List Oper} {fuel : Nat} {listed : Array Bool} {a : Act} {w : World} (hi : ops.toList.drop i = o :: rest) (hc : chk md ops listed ℓ i = true)
    (hw : Region.wanted o (yielded ops a.tmps) = false) (h : wpX P S E md ops Q ℓ fuel (listed.setIfInBounds i true) (a.put o.dst undef) w) : wpX P S E md ops Q ℓ (fuel + 1) listed a w :=
  chk_take ok (at_drop hi) hc (.inr ⟨hw, rfl⟩) h
theorem call (ok : Okay P S E md ops Q ℓ) (i : Nat) {o : Oper} {rest : List Oper} {fuel : Nat} {listed : Array Bool} {a : Act} {w : World} (v : Value) (f : FuncId) (args : Array Value) (hi : ops.toList.drop i = o :: rest) (hc : chk md ops listed ℓ i = true)
    (hw : Region.wanted o (yielded ops a.tmps) = true) (hv : ∀ w1, (execOp a.eval o).run P w1 = .ok (.enter f args) w1)
    (hcall : ∀ w1, S w w1 → Calls P f args w1 fun e w' => e = .returned v ∧ E w1 w')
    (h : wpX P S E md ops Q ℓ fuel (listed.setIfInBounds i true) (a.put o.dst v) w) : wpX P S E md ops Q ℓ (fuel + 1) listed a w :=
  chk_take ok (at_drop hi) hc (.inl ⟨hw, fun w1 g => .inr ⟨f, args, w1, hv w1, ok.pre.refl w1, hcall w1 g⟩⟩) h
/-- The operations that are left to choose from, each as it runs. -/
theorem all (rs : List Nat) {fuel : Nat} {listed : Array Bool} {a : Act} {w : World} (hr : (Region.ready md ops listed == rs) = true) (hne : rs.isEmpty = false)
    (h : ∀ w1, E w w1 → ∀ i ∈ rs, wpOp P ops Q i (fun a' w' => (ℓ = some i ∨ S w1 w') ∧ wpX P S E md ops Q ℓ fuel (listed.setIfInBounds i true) a' w') a w1) : wpX P S E md ops Q ℓ (fuel + 1) listed a w := by
  have hr' := eq_of_beq hr
  intro w1 g
  rw [hr']
  exact ⟨(fun e => by subst e; cases hne), h w1 g⟩
theorem runs {i : Nat} {o : Oper} {rest : List Oper} {a : Act} {w : World} {K : Act → World → Prop} (hi : ops.toList.drop i = o :: rest) (hw : Region.wanted o (yielded ops a.tmps) = true)
    (h : ∀ K' : Value → World → Prop, Hid (∀ v w2, K (a.put o.dst v) w2 → K' v w2) → After ((execOp a.eval o).run P w) K') : wpOp P ops Q i K a w := by
  have h1 := h (fun v w2 => K (a.put o.dst v) w2) (fun v w2 hk => hk)
  unfold wpOp
  simp only [at_drop hi, hw, if_true]
  refine .inl ?_
  unfold Oper.wp
  generalize (execOp a.eval o).run P w = r at h1 ⊢
  match r, h1 with
  | .ok (.value v) w2, h1 => exact h1
  | .ok .skip w2, h1 => exact h1
theorem enters {i : Nat} {o : Oper} {rest : List Oper} {a : Act} {w w2 : World} {K : Act → World → Prop} (f : FuncId) (args : Array Value) (hi : ops.toList.drop i = o :: rest) (hw : Region.wanted o (yielded ops a.tmps) = true) (hv : (execOp a.eval o).run P w = .ok (.enter f args) w2)
    (h : Calls P f args w2 fun e w' => ∃ v, e = .returned v ∧ K (a.put o.dst v) w') : wpOp P ops Q i K a w := by
  unfold wpOp
  simp only [at_drop hi, hw, if_true]
  exact .inl (by unfold Oper.wp; rw [hv]; exact Calls.mono h fun e w' ⟨v, he, hk⟩ => by subst he; exact hk)
/-- A row of the call's own, more laid behind it. -/
theorem own {i : Nat} {o : Oper} {rest : List Oper} {a : Act} {w : World} {K : Act → World → Prop} (hi' : ops.toList.drop i = o :: rest) (hw : Region.wanted o (yielded ops a.tmps) = true) (s x : Operand) (t : TypeId)
    (ho : o.op = .call { callee := .builtin .append, args := #[s, x], argTypes := #[t, t] })
    (base : Nat) (e : TypeId) (i' : TypeInfo) (z : Value) (size bytes : Nat) (ht : P.underlying t = some (.slice e)) (hi : P.info? e = some i') (hz : i'.zero = some z)
    (hsize : i'.size = size) (hby : i'.bytes = bytes) (hzs : z.cells.size = size) (hsz : 0 < size)
    (v : Value) (n : Nat) (xs : List Value) (hs : a.eval s = v) (hown : w.ownsRow base e size v n xs)
    (ad : Addr) (m c : Nat) (news : List Value) (hx : a.eval x = .slice (some ad) m c) (hl : news.length = m * size) (hnews : ∀ j u, news[j]? = some u → w.cell? (ad.add j) = some u) (h1 : ∀ u ∈ news, u.oneCell' = true)
    (h63 : n + m ≤ maxLen) (hbytes : (n + m) * bytes ≤ 140737488355328) (hbase : base ≤ w.heap.size)
    (h : ∀ v' w', w'.ownsRow base e size v' (n + m) (xs ++ news) → w.grownBy w' v.ownBlock → K (a.put o.dst v') w') : wpOp P ops Q i K a w := by
  unfold wpOp
  simp only [at_drop hi', hw, if_true]
  exact .inl (wp_append_own w s x t ho base e i' z size bytes ht hi hz hsize hby hzs hsz v n xs hs hown ad m c news hx hl hnews h1 h63 hbytes hbase fun v' w' h2 h3 _ => h v' w' h2 h3)
theorem done {listed : Array Bool} {a : Act} {w : World} (hr : (Region.ready md ops listed).isEmpty = true) (h : ∀ w1, E w w1 → Q .normal a w1) : wpX P S E md ops Q ℓ 0 listed a w :=
  ⟨by simpa using hr, h⟩
/-- The same, shorter to write. -/
theorem val (ok : Okay P S E md ops Q ℓ) (i : Nat) {o : Oper} {rest : List Oper} {fuel : Nat} {listed : Array Bool} {a : Act} {w : World} (v : Value) (hv : ∀ w1, S w w1 → (execOp a.eval o).run P w1 = .ok (.value v) w1)
    (h : wpX P S E md ops Q ℓ fuel (listed.setIfInBounds i true) (a.put o.dst v) w) (hi : ops.toList.drop i = o :: rest := by rfl) (hc : chk md ops listed ℓ i = true := by decide +kernel) (hw : Region.wanted o (yielded ops a.tmps) = true := by rfl) : wpX P S E md ops Q ℓ (fuel + 1) listed a w :=
  value ok i v hi hc hw hv h
theorem cal (ok : Okay P S E md ops Q ℓ) (i : Nat) {o : Oper} {rest : List Oper} {fuel : Nat} {listed : Array Bool} {a : Act} {w : World} (v : Value) (f : FuncId) (args : Array Value) (hv : ∀ w1, (execOp a.eval o).run P w1 = .ok (.enter f args) w1)
    (hcall : ∀ w1, S w w1 → Calls P f args w1 fun e w' => e = .returned v ∧ E w1 w')
    (h : wpX P S E md ops Q ℓ fuel (listed.setIfInBounds i true) (a.put o.dst v) w) (hi : ops.toList.drop i = o :: rest := by rfl) (hc : chk md ops listed ℓ i = true := by decide +kernel) (hw : Region.wanted o (yielded ops a.tmps) = true := by rfl) : wpX P S E md ops Q ℓ (fuel + 1) listed a w :=
  call ok i v f args hi hc hw hv hcall h
end
end Go.Evo2
namespace Go
theorem K0 {α : Type} (zs : List α) : [] ++ zs = zs := List.nil_append zs
theorem K1 {α : Type} {a : α} {zs ys : List α} : a :: zs ++ ys = a :: (zs ++ ys) := List.cons_append
theorem K2 {α : Type} {i : Nat} {a : α} {zs : List α} : List.take (i + 1) (a :: zs) = a :: List.take i zs := List.take_succ_cons
theorem K3 {α : Type} {l : List α} : List.take 0 l = [] := List.take_zero
theorem K4 {α : Type} {i : Nat} {a : α} {zs : List α} : List.drop (i + 1) (a :: zs) = List.drop i zs := List.drop_succ_cons
theorem K5 {α : Type} {l : List α} : List.drop 0 l = l := List.drop_zero
theorem K6 {α : Type} {a : α} {zs : List α} : (a :: zs).length = zs.length + 1 := List.length_cons
theorem K7 {α : Type} : ([] : List α).length = 0 := List.length_nil
end Go

/- Evo2's steps in few words: what an operation yields is found by itself. No program is named here. -/
namespace Go.Evo2
set_option linter.unusedVariables false
open Go.RowKit
open Go.Evo (deps clos Closed closedB closed_of clos_listed lastB mem_deps closed_set getD_two last_of at_drop)
section
variable {P : Program} {S E : World → World → Prop} {md : Region.Mode} {ops : Array Oper} {Q : Exit → Act → World → Prop} {ℓ : Option Nat}
theorem va (ok : Okay P S E md ops Q ℓ) (i : Nat) {o : Oper} {rest : List Oper} {fuel : Nat} {listed : Array Bool} {a : Act} {w : World} (v : Value) (a' : Act)
    (h : wpX P S E md ops Q ℓ fuel (listed.setIfInBounds i true) a' w) (hi : ops.toList.drop i = o :: rest := by rfl) (hc : chk md ops listed ℓ i = true := by decide +kernel) (hw : Region.wanted o (yielded ops a.tmps) = true := by rfl)
    (hv : ∀ w1, S w w1 → (execOp a.eval o).run P w1 = .ok (.value v) w1 := by intro w' hg; first | (go_simp <;> with_reducible rfl) | (go_simp; rw [if_neg (by omega)])) (ha : a.put o.dst v = a' := by simp only [Act.put, L0, L1, L2] <;> rfl) : wpX P S E md ops Q ℓ (fuel + 1) listed a w :=
  value ok i v hi hc hw hv (ha ▸ h)
theorem vk (ok : Okay P S E md ops Q ℓ) (i : Nat) {F : World → Prop} {w : World} (hF : ∀ w1, S w w1 → F w1) {o : Oper} {rest : List Oper} {fuel : Nat} {listed : Array Bool} {a : Act} (v : Value) (a' : Act)
    (h : wpX P S E md ops Q ℓ fuel (listed.setIfInBounds i true) a' w) (hi : ops.toList.drop i = o :: rest := by rfl) (hc : chk md ops listed ℓ i = true := by decide +kernel) (hw : Region.wanted o (yielded ops a.tmps) = true := by rfl)
    (hv : ∀ w1, F w1 → (execOp a.eval o).run P w1 = .ok (.value v) w1 := by intro w' hg; go_simp <;> with_reducible rfl) (ha : a.put o.dst v = a' := by simp only [Act.put, L0, L1, L2] <;> rfl) : wpX P S E md ops Q ℓ (fuel + 1) listed a w :=
  value ok i v hi hc hw (fun w1 g => hv w1 (hF w1 g)) (ha ▸ h)
theorem vl (ok : Okay P S E md ops Q ℓ) (i : Nat) {F : World → Prop} {w0 w : World} (hK : ∀ w1, S w0 w1 → F w1) (acc : S w0 w) {o : Oper} {rest : List Oper} {fuel : Nat} {listed : Array Bool} {a : Act} (v : Value) (a' : Act)
    (h : wpX P S E md ops Q ℓ fuel (listed.setIfInBounds i true) a' w) (hi : ops.toList.drop i = o :: rest := by rfl) (hc : chk md ops listed ℓ i = true := by decide +kernel) (hw : Region.wanted o (yielded ops a.tmps) = true := by rfl)
    (hv : ∀ w1, F w1 → (execOp a.eval o).run P w1 = .ok (.value v) w1 := by intro w' hg; go_simp <;> with_reducible rfl) (ha : a.put o.dst v = a' := by simp only [Act.put, L0, L1, L2] <;> rfl) : wpX P S E md ops Q ℓ (fuel + 1) listed a w :=
  value ok i v hi hc hw (fun w1 g => hv w1 (hK w1 (ok.pre.strans acc g))) (ha ▸ h)
theorem vi (ok : Okay P S E md ops Q ℓ) (i : Nat) {o : Oper} {rest : List Oper} {fuel : Nat} {listed : Array Bool} {a : Act} {w : World} (a' : Act) (h : wpX P S E md ops Q ℓ fuel (listed.setIfInBounds i true) a' w)
    (hi : ops.toList.drop i = o :: rest := by rfl) (hc : chk md ops listed ℓ i = true := by decide +kernel) (hw : Region.wanted o (yielded ops a.tmps) = false := by rfl) (ha : a.put o.dst undef = a' := by simp only [Act.put, L0, L1, L2] <;> rfl) : wpX P S E md ops Q ℓ (fuel + 1) listed a w :=
  idle ok i hi hc hw (ha ▸ h)
end
end Go.Evo2
namespace Go.Evo
open Go.RowKit
section
variable {P : Program} {T : World → World → Prop} {md : Region.Mode} {ops : Array Oper} {Q : Exit → Act → World → Prop} {ℓ : Option Nat}
theorem va (ok : Okay P T md ops Q ℓ) (i : Nat) {o : Oper} {rest : List Oper} {fuel : Nat} {listed : Array Bool} {a : Act} {w : World} (v : Value) (a' : Act)
    (h : wpX P T md ops Q ℓ fuel (listed.setIfInBounds i true) a' w) (hi : ops.toList.drop i = o :: rest := by rfl) (hc : chk md ops listed ℓ i = true := by decide +kernel) (hw : Region.wanted o (yielded ops a.tmps) = true := by rfl)
    (hv : ∀ w1, T w w1 → (execOp a.eval o).run P w1 = .ok (.value v) w1 := by intro w' hg; first | (go_simp <;> with_reducible rfl) | (go_simp; rw [if_neg (by omega)])) (ha : a.put o.dst v = a' := by simp only [Act.put, L0, L1, L2] <;> rfl) : wpX P T md ops Q ℓ (fuel + 1) listed a w :=
  value ok i v hi hc hw hv (ha ▸ h)
end
end Go.Evo

/- What an append onto a row of the call's own leaves alone, to the block. No program is named here. -/
namespace Go.Fr
set_option linter.unusedVariables false
set_option linter.unusedSimpArgs false
open Go.Lib

/-- Row v has become v': nothing else that was there has changed. -/
structure Fr (w w' : World) (v v' : Value) : Prop where
  g : w.grownBy w' v.ownBlock
  o : v'.ownBlock = v.ownBlock ∨ ∃ g, v'.ownBlock = some g ∧ w.heap.size ≤ g
theorem Fr.trans {a b c : World} {u v x : Value} (h : Fr a b u v) (k : Fr b c v x) : Fr a c u x := by
  refine ⟨⟨k.g.os.trans h.g.os, k.g.tape.trans h.g.tape, k.g.output.trans h.g.output, Nat.le_trans h.g.size k.g.size, fun n hn hne => ?_⟩, ?_⟩
  · refine (k.g.block n (Nat.lt_of_lt_of_le hn h.g.size) fun e => ?_).trans (h.g.block n hn hne)
    rcases h.o with h' | ⟨g, h', hg⟩
    · exact hne (e.trans h')
    · rw [h'] at e; cases e; omega
  · rcases k.o with h' | ⟨g, h', hg⟩
    · rw [h']; exact h.o
    · exact .inr ⟨g, h', Nat.le_trans h.g.size hg⟩
theorem Fr.grow {a b : World} (h : Grow.G a b) (v : Value) : Fr a b v v := ⟨⟨h.os, h.tape, h.output, h.size, fun k hk _ => h.block k hk⟩, .inl rfl⟩
theorem Fr.keep {w w' : World} {v v' : Value} {k : Nat} (h : Fr w w' v v') (hk : k < w.heap.size) (hn : some k ≠ v.ownBlock) : w'.heap[k]? = w.heap[k]? ∧ some k ≠ v'.ownBlock := by
  refine ⟨h.g.block k hk hn, fun e => ?_⟩
  rcases h.o with h' | ⟨g, h', hg⟩
  · exact hn (e.trans h')
  · rw [h'] at e; cases e; omega
theorem ok_inj {v v' : Value} {w w' : World} (h : (Result.ok v w : Result Value) = .ok v' w') : v = v' := by cases h; rfl

section
variable {P : Program} (w : World)
theorem run_append_fr (base : Nat) (t ty e : TypeId) (i : TypeInfo) (z : Value) (size bytes : Nat) (ht : P.underlying t = some (.slice e)) (hi : P.info? e = some i) (hz : i.zero = some z)
    (hsize : i.size = size) (hby : i.bytes = bytes) (hzs : z.cells.size = size) (hsz : 0 < size)
    (v : Value) (n : Nat) (xs : List Value) (hown : w.ownsRow base e size v n xs)
    (a : Addr) (m c : Nat) (news : List Value) (hl : news.length = m * size) (hnews : ∀ j u, news[j]? = some u → w.cell? (a.add j) = some u) (h1 : ∀ u ∈ news, u.oneCell' = true)
    (h63 : n + m ≤ maxLen) (hbytes : (n + m) * bytes ≤ 140737488355328) (hbase : base ≤ w.heap.size) :
    ∃ v' w', (Builtin.append_ #[t, t] ty #[v, .slice (some a) m c]).run P w = .ok v' w' ∧ w'.ownsRow base e size v' (n + m) (xs ++ news) ∧ Fr w w' v v' := by
  obtain ⟨v', w', hr, h2, h3, h4⟩ := run_append_own (P := P) w base t ty e i z size bytes ht hi hz hsize hby hzs hsz v n xs hown a m c news hl hnews h1 h63 hbytes hbase
  refine ⟨v', w', hr, h2, h3, ?_⟩
  subst hsize hby
  have hsmall : n + m ≤ 9223372036854775807 := by simp only [maxLen] at h63; omega
  rcases hown.2 with ⟨rfl, rfl⟩ | ⟨g, cap, cur, rfl, hbg, hg, hnc, hcm, hcs, htake⟩
  · by_cases hm : m = 0
    · exact .inl (by rw [h4.2 ⟨rfl, hm⟩])
    · have hr' := run_append_nil (P := P) w t ty e i z ht hi hz a m c news hl hnews (by omega) (by omega) (by have hb := hbytes; simp only [Nat.zero_add] at hb; omega)
      rw [ok_inj (hr.symm.trans hr')]
      exact .inr ⟨_, rfl, Nat.le_refl _⟩
  · by_cases hroom : n + m ≤ cap
    · have hfit : n * i.size + news.length ≤ cur.size := by rw [hl, hcs, ← Nat.add_mul]; exact Nat.mul_le_mul_right _ hroom
      have hr' := run_append_room (P := P) w t ty e i ht hi g n cap cur hg a m c news hl hnews h1 hroom hfit
      rw [ok_inj (hr.symm.trans hr')]
      exact .inl rfl
    · have holds : ∀ j u, xs[j]? = some u → w.cell? ((⟨g, 0, none⟩ : Addr).add j) = some u := hown.cells (g := g) rfl
      have hr' := run_append_grow (P := P) w t ty e i z ht hi hz ⟨g, 0, none⟩ n cap xs hown.1 holds a m c news hl hnews (by omega) (by omega) (growslice_fits (by omega) hbytes)
      rw [ok_inj (hr.symm.trans hr')]
      exact .inr ⟨_, rfl, Nat.le_refl _⟩
theorem wp_append_fr {o : Oper} {a : Act} {K : Act → World → Prop} {Q : Exit → Act → World → Prop} (s x : Operand) (t : TypeId)
    (ho : o.op = .call { callee := .builtin .append, args := #[s, x], argTypes := #[t, t] })
    (base : Nat) (e : TypeId) (i : TypeInfo) (z : Value) (size bytes : Nat) (ht : P.underlying t = some (.slice e)) (hi : P.info? e = some i) (hz : i.zero = some z)
    (hsize : i.size = size) (hby : i.bytes = bytes) (hzs : z.cells.size = size) (hsz : 0 < size)
    (v : Value) (n : Nat) (xs : List Value) (hs : a.eval s = v) (hown : w.ownsRow base e size v n xs)
    (ad : Addr) (m c : Nat) (news : List Value) (hx : a.eval x = .slice (some ad) m c) (hl : news.length = m * size) (hnews : ∀ j u, news[j]? = some u → w.cell? (ad.add j) = some u) (h1 : ∀ u ∈ news, u.oneCell' = true)
    (h63 : n + m ≤ maxLen) (hbytes : (n + m) * bytes ≤ 140737488355328) (hbase : base ≤ w.heap.size)
    (h : ∀ v' w', w'.ownsRow base e size v' (n + m) (xs ++ news) → Fr w w' v v' → K (a.put o.dst v') w') : o.wp P a w K Q := by
  obtain ⟨v', w', hr, h2, h3⟩ := run_append_fr (P := P) w base t o.type e i z size bytes ht hi hz hsize hby hzs hsz v n xs hown ad m c news hl hnews h1 h63 hbytes hbase
  unfold Oper.wp execOp
  simp only [ho, resolve, invoke, builtin, Sem.run_bind, Sem.run_pure, Result.andThen_ok, List.map_toArray, List.map_cons, List.map_nil, hs, hx, hr]
  exact h v' w' h2 h3
theorem wpList_append_fr {ops : Array Oper} {rest : List Oper} {o : Oper} {a : Act} {Q : Exit → Act → World → Prop} (hgd : o.guard = none) (s x : Operand) (t : TypeId)
    (ho : o.op = .call { callee := .builtin .append, args := #[s, x], argTypes := #[t, t] })
    (base : Nat) (e : TypeId) (i : TypeInfo) (z : Value) (size bytes : Nat) (ht : P.underlying t = some (.slice e)) (hi : P.info? e = some i) (hz : i.zero = some z)
    (hsize : i.size = size) (hby : i.bytes = bytes) (hzs : z.cells.size = size) (hsz : 0 < size)
    (v : Value) (n : Nat) (xs : List Value) (hs : a.eval s = v) (hown : w.ownsRow base e size v n xs)
    (ad : Addr) (m c : Nat) (news : List Value) (hx : a.eval x = .slice (some ad) m c) (hl : news.length = m * size) (hnews : ∀ j u, news[j]? = some u → w.cell? (ad.add j) = some u) (h1 : ∀ u ∈ news, u.oneCell' = true)
    (h63 : n + m ≤ maxLen) (hbytes : (n + m) * bytes ≤ 140737488355328) (hbase : base ≤ w.heap.size)
    (h : ∀ v' w', w'.ownsRow base e size v' (n + m) (xs ++ news) → Fr w w' v v' → wpList P ops Q rest (a.put o.dst v') w') : wpList P ops Q (o :: rest) a w :=
  wpList_plain hgd fun _ hK => wp_append_fr w s x t ho base e i z size bytes ht hi hz hsize hby hzs hsz v n xs hs hown ad m c news hx hl hnews h1 h63 hbytes hbase fun v' w' h2 h3 => hK _ _ (h v' w' h2 h3)
theorem own_fr {ops : Array Oper} {Q : Exit → Act → World → Prop} {i : Nat} {o : Oper} {rest : List Oper} {a : Act} {w : World} {K : Act → World → Prop} (hi' : ops.toList.drop i = o :: rest) (hw : Region.wanted o (yielded ops a.tmps) = true) (s x : Operand) (t : TypeId)
    (ho : o.op = .call { callee := .builtin .append, args := #[s, x], argTypes := #[t, t] })
    (base : Nat) (e : TypeId) (i' : TypeInfo) (z : Value) (size bytes : Nat) (ht : P.underlying t = some (.slice e)) (hi : P.info? e = some i') (hz : i'.zero = some z)
    (hsize : i'.size = size) (hby : i'.bytes = bytes) (hzs : z.cells.size = size) (hsz : 0 < size)
    (v : Value) (n : Nat) (xs : List Value) (hs : a.eval s = v) (hown : w.ownsRow base e size v n xs)
    (ad : Addr) (m c : Nat) (news : List Value) (hx : a.eval x = .slice (some ad) m c) (hl : news.length = m * size) (hnews : ∀ j u, news[j]? = some u → w.cell? (ad.add j) = some u) (h1 : ∀ u ∈ news, u.oneCell' = true)
    (h63 : n + m ≤ maxLen) (hbytes : (n + m) * bytes ≤ 140737488355328) (hbase : base ≤ w.heap.size)
    (h : ∀ v' w', w'.ownsRow base e size v' (n + m) (xs ++ news) → Fr w w' v v' → K (a.put o.dst v') w') : wpOp P ops Q i K a w := by
  unfold wpOp
  simp only [Evo.at_drop hi', hw, if_true]
  exact .inl (wp_append_fr w s x t ho base e i' z size bytes ht hi hz hsize hby hzs hsz v n xs hs hown ad m c news hx hl hnews h1 h63 hbytes hbase h)
end
end Go.Fr

/- A range over a function whose rounds are told of what came what the memory holds of it. No program is named here. -/
namespace Go.Iter
set_option linter.unusedVariables false
open Go.RowKit

/-- What an iterator promises: as long as each round of what may come is good, it comes to its end, or to where a round has said no more. Ok pre x W: what may come next. -/
def Seq {α : Type} (P : Program) (gf : FuncId) (lb : Array Value) (encs : α → Array Value) (Ok : List α → α → World → Prop) (Kp : World → World → Prop) (S : List α → Prop) (w : World) : Prop :=
  ∀ (l : Nat) (J Jx : List α → World → Prop) (W : World), Grow.G w W → (∀ s A B, J s A → Grow.G A B → J s B) → (∀ s A B, Jx s A → Grow.G A B → Jx s B) →
    (∀ pre x W1, J pre W1 → Ok pre x W1 → YieldAt Fence.wide 0 P l (encs x) W1 fun e W' => (e = .returned (.bool true) ∧ J (pre ++ [x]) W' ∧ Kp W1 W') ∨ (e = .returned (.bool false) ∧ Jx (pre ++ [x]) W')) →
    J [] W → Calls P gf (#[.func (.yield l) #[] #[]] ++ lb) W fun e W' => (∃ v, e = .returned v) ∧ ((∃ xs, S xs ∧ J xs W') ∨ (∃ pre, Jx pre W'))

/-- What the loop's own book-keeping leaves alone: cells, and whatever lay there ahead of the loop. -/
structure Book (n : Nat) (A B : World) : Prop where
  os : B.os = A.os
  tape : B.tape = A.tape
  output : B.output = A.output
  size : A.heap.size ≤ B.heap.size
  same : ∀ (k : Nat) (o : Obj), A.heap[k]? = some o → (o.isCells = true ∨ k < n) → B.heap[k]? = some o
/-- What a round leaves alone: the records. -/
structure Rest (n : Nat) (A B : World) : Prop where
  size : A.heap.size ≤ B.heap.size
  same : ∀ (k : Nat) (o : Obj), A.heap[k]? = some o → o.isCells = false → n ≤ k → B.heap[k]? = some o
theorem Book.refl (n : Nat) (A : World) : Book n A A := ⟨rfl, rfl, rfl, Nat.le_refl _, fun _ _ h _ => h⟩
theorem Book.trans {n : Nat} {A B C : World} (h : Book n A B) (k : Book n B C) : Book n A C :=
  ⟨k.os.trans h.os, k.tape.trans h.tape, k.output.trans h.output, Nat.le_trans h.size k.size, fun i o hi ho => k.same i o (h.same i o hi ho) ho⟩
theorem Book.grow {n : Nat} {A B : World} (h : Grow.G A B) : Book n A B :=
  ⟨h.os, h.tape, h.output, h.size, fun k o hk _ => (h.block k (Array.getElem?_eq_some_iff.1 hk).1).trans hk⟩
theorem Book.putObj {n : Nat} {A : World} {k : Nat} {o : Obj} (o' : Obj) (h : A.heap[k]? = some o) (hc : o.isCells = false) (hn : n ≤ k) : Book n A (A.putObj k o') :=
  ⟨rfl, rfl, rfl, by simp, fun j o2 hj ho => by
    by_cases e : j = k
    · subst e
      rw [h] at hj; cases hj
      rcases ho with ho | ho
      · rw [hc] at ho; cases ho
      · omega
    · exact (World.putObj_heap_other e).trans hj⟩
theorem Book.cell {n : Nat} {A B : World} (h : Book n A B) {a : Addr} {v : Value} (hc : A.cell? a = some v) : B.cell? a = some v := by
  unfold World.cell? at hc ⊢
  cases ho : A.heap[a.block]? with
  | none => simp [ho] at hc
  | some o =>
    cases o with
    | cells cs t fr => rw [h.same a.block _ ho (.inl rfl)]; simpa [ho] using hc
    | _ => simp [ho] at hc
theorem Book.frozen {n : Nat} {A B : World} (h : Book n A B) {a : Addr} {v : Value} (hc : A.cell? a = some v) : B.frozen? a = A.frozen? a := by
  unfold World.cell? at hc
  unfold World.frozen?
  cases ho : A.heap[a.block]? with
  | none => simp [ho] at hc
  | some o =>
    cases o with
    | cells cs t fr => rw [h.same a.block _ ho (.inl rfl)]
    | _ => simp [ho] at hc
theorem Book.below {n : Nat} {A B : World} (h : Book n A B) : Below (min n A.heap.size) A B :=
  ⟨h.os, h.tape, h.output, h.size, fun k hk => by
    have hk' : k < A.heap.size := by omega
    have := h.same k _ (Array.getElem?_eq_getElem hk') (.inr (by omega))
    rw [this, Array.getElem?_eq_getElem hk']⟩
theorem Rest.refl (n : Nat) (A : World) : Rest n A A := ⟨Nat.le_refl _, fun _ _ h _ _ => h⟩
theorem Rest.trans {n : Nat} {A B C : World} (h : Rest n A B) (k : Rest n B C) : Rest n A C :=
  ⟨Nat.le_trans h.size k.size, fun i o hi ho hn => k.same i o (h.same i o hi ho hn) ho hn⟩
theorem Rest.grow {n : Nat} {A B : World} (h : Grow.G A B) : Rest n A B :=
  ⟨h.size, fun k o hk _ _ => (h.block k (Array.getElem?_eq_some_iff.1 hk).1).trans hk⟩
theorem Rest.below {n : Nat} {A B : World} (h : Below A.heap.size A B) : Rest n A B :=
  ⟨h.size, fun k o hk _ _ => (h.block k (Array.getElem?_eq_some_iff.1 hk).1).trans hk⟩
theorem Rest.setCell {n : Nat} (A : World) (a : Addr) (v : Value) : Rest n A (A.setCell a v) :=
  ⟨(KeepsOthers.setCell A a v).size, fun k o hk ho _ => (KeepsOthers.setCell A a v).same k o hk ho⟩
/-- How a round's body may be left. -/
def endP {α : Type} (n : Nat) (Kp : World → World → Prop) (I : List α → World → Prop) (Ix : Code → List α → World → Prop) (xs : List α) (W : World) : Exit → Act → World → Prop
  | .normal, _, W' => Rest n W W' ∧ Kp W W' ∧ I xs W'
  | .ret, _, W' => Rest n W W' ∧ Ix .ret xs W'
  | .exit id, _, W' => Rest n W W' ∧ Ix (.exit id) xs W'
  | .goto t, _, W' => Rest n W W' ∧ Ix (.goto t) xs W'
  | .panic _, _, _ => False
  | .outgrown, _, _ => False

theorem range {α : Type} {P : Program} {g : Operand} {ps : Array Tmp} {assign body : Code} {Q : Exit → Act → World → Prop} {a : Act} {w w0 : World} {gf : FuncId} {lb : Array Value}
    {encs : α → Array Value} {Ok : List α → α → World → Prop} {Kp : World → World → Prop} {S : List α → Prop}
    (hg : a.eval g = .func (.func gf) #[] lb) (eg : ∀ args w, (callFunc gf args).run P w = .ok (.enter gf args) w)
    (hseq : Seq P gf lb encs Ok Kp S w0) (hw : Grow.G w0 w) (hps : ∀ x, (encs x).size = ps.size)
    (hOk : ∀ s x A B, Ok s x A → Book w.heap.size A B → Ok s x B)
    (hKt : ∀ {A B C : World}, Kp A B → Kp B C → Kp A C) (hKb : ∀ {A B : World}, Book w.heap.size A B → Kp A B)
    (I : List α → World → Prop) (Ix : Code → List α → World → Prop)
    (hI : ∀ s A B, I s A → Book w.heap.size A B → I s B) (hIx : ∀ c s A B, Ix c s A → Book w.heap.size A B → Ix c s B) (h0 : I [] w)
    (hround : ∀ (l : Nat) (pre : List α) (x : α) (W : World), w.heap.size ≤ l → I pre W → Ok pre x W →
      assign.wpIn (Fence.wide.inRound l) 0 P (Exit.then (fun a₁ W₁ => Grow.G W W₁ ∧ ∀ W₂, Book w.heap.size W₁ W₂ → Ok pre x W₂ → body.wpIn (Fence.wide.inRound l) 0 P (endP w.heap.size Kp I Ix (pre ++ [x]) W₂) a₁ W₂) (fun _ _ _ => False))
        { tmps := (ps.zip (encs x)).foldl (fun t (p, v) => t.setIfInBounds p v) a.tmps, defers := [] } W)
    (hdone : ∀ (xs : List α) (W : World), S xs → I xs W → W.heap[w.heap.size]? = some (.deferred (some [])) → Q .normal { a with defers := { target := .collected w.heap.size, args := #[] } :: a.defers } W)
    (hstop : ∀ (c : Code) (pre : List α) (W : World), Ix c pre W → W.heap[w.heap.size]? = some (.deferred (some [])) → c.wpIn Fence.wide 0 P Q { a with defers := { target := .collected w.heap.size, args := #[] } :: a.defers } W) :
    (Code.rangeFunc g ps assign body).wpIn Fence.wide 0 P Q a w := by
  refine wpIn_rangeFunc ?_
  intro fn hfn
  obtain ⟨rec, hrec⟩ : ∃ rec : LoopState → Option Code → Loop, rec = fun st pe => { state := st, pending := pe, fn, tmps := a.tmps, params := ps, assign, body, defers := w.heap.size } := ⟨_, rfl⟩
  obtain ⟨W1, hW1⟩ : ∃ W1, (w.alloc (.deferred (some []))).alloc (.loop (rec .ready none)) = W1 := ⟨_, rfl⟩
  have hG : Grow.G w W1 := by rw [← hW1]; exact Grow.G.alloc (Grow.G.alloc (Grow.G.refl _) _) _
  have hL1 : W1.heap[w.heap.size + 1]? = some (.loop (rec .ready none)) := by
    rw [← hW1]; have := World.alloc_heap_new (w.alloc (.deferred (some []))) (.loop (rec .ready none)); rwa [World.size_alloc] at this
  have hK1 : W1.heap[w.heap.size]? = some (.deferred (some [])) := by
    rw [← hW1]; exact (Below.heap_alloc _ _ _ (by simp)).trans (World.alloc_heap_new w _)
  refine ⟨w.heap.size + 1, [{ target := .collected w.heap.size, args := #[] }], W1, { target := .fn (.func gf) lb, args := #[.func (.yield (w.heap.size + 1)) #[] #[]] }, W1, gf,
    #[.func (.yield (w.heap.size + 1)) #[] #[]] ++ lb, W1, ?_, ?_, ?_, ?_, (fun h => by simp [Fence.wide] at h), ?_⟩
  · rw [← hW1, hrec]; exact run_enterLoop_outer _ _ _ _ _
  · simp only [resolve, hg]
    simp [go_sem]
  · intro f' hf'; trivial
  · simp [invoke, go_sem, eg]
  · -- the iterator, at the caller's invariant and the book-keeping beside it
    refine callsIn_wide.2 ((hseq (w.heap.size + 1)
      (fun pre W => I pre W ∧ W.heap[w.heap.size + 1]? = some (.loop (rec .ready none)) ∧ W.heap[w.heap.size]? = some (.deferred (some [])))
      (fun pre W => ∃ c, Ix c pre W ∧ W.heap[w.heap.size + 1]? = some (.loop (rec .done (some c))) ∧ W.heap[w.heap.size]? = some (.deferred (some [])))
      W1 (hw.trans hG) ?_ ?_ ?_ ⟨hI _ _ _ h0 (Book.grow hG), hL1, hK1⟩).mono ?_)
    · rintro s A B ⟨h1, h2, h3⟩ hg
      exact ⟨hI _ _ _ h1 (Book.grow hg), (hg.block _ (Array.getElem?_eq_some_iff.1 h2).1).trans h2, (hg.block _ (Array.getElem?_eq_some_iff.1 h3).1).trans h3⟩
    · rintro s A B ⟨c, h1, h2, h3⟩ hg
      exact ⟨c, hIx _ _ _ _ h1 (Book.grow hg), (hg.block _ (Array.getElem?_eq_some_iff.1 h2).1).trans h2, (hg.block _ (Array.getElem?_eq_some_iff.1 h3).1).trans h3⟩
    · -- one round
      rintro pre x W ⟨hi, hl, hk⟩ hok
      have hy := run_yield (P := P) (args := encs x) hl (by rw [hrec]; exact hps x)
      rw [hrec] at hy
      refine ⟨fn, _, assign, body, hy, roundIn_of_wpIn hfn ?_⟩
      refine wpIn_mono (hround _ pre x W (by omega) hi hok) ?_
      rintro e a₁ W₁ hp
      cases e with
      | normal =>
        obtain ⟨hg1, hb⟩ := hp
        have hl1 : W₁.heap[w.heap.size + 1]? = some (.loop (rec .ready none)) := (hg1.block _ (Array.getElem?_eq_some_iff.1 hl).1).trans hl
        have hk1 : W₁.heap[w.heap.size]? = some (.deferred (some [])) := (hg1.block _ (Array.getElem?_eq_some_iff.1 hk).1).trans hk
        have hlt := (Array.getElem?_eq_some_iff.1 hl1).1
        refine ⟨_, run_beginRound hl1 (by rw [hrec]), ?_⟩
        have hbk : Book w.heap.size W₁ (W₁.putObj (w.heap.size + 1) (.loop { rec .ready none with state := .busy })) := Book.putObj _ hl1 rfl (by omega)
        have hl2 : (W₁.putObj (w.heap.size + 1) (.loop { rec .ready none with state := .busy })).heap[w.heap.size + 1]? = some (.loop { rec .ready none with state := .busy }) := World.putObj_heap_same hlt
        have hk2 : (W₁.putObj (w.heap.size + 1) (.loop { rec .ready none with state := .busy })).heap[w.heap.size]? = some (.deferred (some [])) := (World.putObj_heap_other (by omega)).trans hk1
        have hok2 := hOk _ _ _ _ hok ((Book.grow hg1).trans hbk)
        have hkp := hKb ((Book.grow (n := w.heap.size) hg1).trans hbk)
        refine wpIn_mono (hb _ hbk hok2) ?_
        have fin : ∀ (jump : Option Code) (W3 : World), Rest w.heap.size (W₁.putObj (w.heap.size + 1) (.loop { rec .ready none with state := .busy })) W3 →
            (Instr.endRound (w.heap.size + 1) jump).run P W3 = .ok (.bool jump.isNone) (W3.putObj (w.heap.size + 1) (.loop (rec (if jump.isNone then .ready else .done) jump))) ∧
            W3.heap[w.heap.size + 1]? = some (.loop { rec .ready none with state := .busy }) ∧
            (W3.putObj (w.heap.size + 1) (.loop (rec (if jump.isNone then .ready else .done) jump))).heap[w.heap.size + 1]? = some (.loop (rec (if jump.isNone then .ready else .done) jump)) ∧
            (W3.putObj (w.heap.size + 1) (.loop (rec (if jump.isNone then .ready else .done) jump))).heap[w.heap.size]? = some (.deferred (some [])) := fun jump W3 hk3 => by
          have hl3 := hk3.same _ _ hl2 rfl (by omega)
          have := run_endRound (P := P) jump hl3
          rw [hrec] at this ⊢
          exact ⟨this, by rw [hrec] at hl3; exact hl3, World.putObj_heap_same (Array.getElem?_eq_some_iff.1 hl3).1, (World.putObj_heap_other (by omega)).trans (hk3.same _ _ hk2 rfl (by omega))⟩
        rintro e a3 W3 hp
        cases e with
        | normal =>
          obtain ⟨hk3, hkp3, hi3⟩ := hp
          obtain ⟨hr, hl3, hl4, hk4⟩ := fin none W3 hk3
          have hb3 : Book w.heap.size W3 (W3.putObj (w.heap.size + 1) (.loop (rec .ready none))) := Book.putObj _ hl3 rfl (by omega)
          exact ⟨_, _, hr, .inl ⟨rfl, ⟨hI _ _ _ hi3 hb3, hl4, hk4⟩, hKt hkp (hKt hkp3 (hKb hb3))⟩⟩
        | ret =>
          obtain ⟨hk3, hi3⟩ := hp
          obtain ⟨hr, hl3, hl4, hk4⟩ := fin (some .ret) W3 hk3
          exact ⟨_, _, hr, .inr ⟨rfl, .ret, hIx _ _ _ _ hi3 (Book.putObj _ hl3 rfl (by omega)), hl4, hk4⟩⟩
        | exit id =>
          obtain ⟨hk3, hi3⟩ := hp
          obtain ⟨hr, hl3, hl4, hk4⟩ := fin (some (.exit id)) W3 hk3
          exact ⟨_, _, hr, .inr ⟨rfl, .exit id, hIx _ _ _ _ hi3 (Book.putObj _ hl3 rfl (by omega)), hl4, hk4⟩⟩
        | goto t =>
          obtain ⟨hk3, hi3⟩ := hp
          obtain ⟨hr, hl3, hl4, hk4⟩ := fin (some (.goto t)) W3 hk3
          exact ⟨_, _, hr, .inr ⟨rfl, .goto t, hIx _ _ _ _ hi3 (Book.putObj _ hl3 rfl (by omega)), hl4, hk4⟩⟩
        | panic ch => exact hp.elim
        | outgrown => exact hp.elim
      | ret => exact hp.elim
      | exit id => exact hp.elim
      | goto t => exact hp.elim
      | panic ch => exact hp.elim
      | outgrown => exact hp.elim
    · -- behind the iterator
      rintro e W2 ⟨⟨v, rfl⟩, (⟨xs, hS, hi, hl, hk⟩ | ⟨pre, c, hi, hl, hk⟩)⟩
      · exact ⟨none, _, by have := run_endLoop (P := P) hl (by rw [hrec]; simp); rw [hrec] at this; exact this,
          hdone xs _ hS (hI _ _ _ hi (Book.putObj _ hl rfl (by omega))) ((World.putObj_heap_other (by omega)).trans hk)⟩
      · exact ⟨some c, _, by have := run_endLoop (P := P) hl (by rw [hrec]; simp); rw [hrec] at this; exact this,
          hstop c pre _ (hIx _ _ _ _ hi (Book.putObj _ hl rfl (by omega))) ((World.putObj_heap_other (by omega)).trans hk)⟩
end Go.Iter

/- What is changed by a call: blocks of a set, all else that was there stands. Blocks known whole. No program is named here. -/
namespace Go
set_option linter.unusedVariables false
open Go.RowKit

/-- All that was there stands, but for the blocks of G. -/
structure Chg (G : Nat → Prop) (w w' : World) : Prop where
  os : w'.os = w.os
  tape : w'.tape = w.tape
  output : w'.output = w.output
  size : w.heap.size ≤ w'.heap.size
  block : ∀ k, k < w.heap.size → ¬ G k → w'.heap[k]? = w.heap[k]?
namespace Chg
variable {G : Nat → Prop} {w w' a b c : World}
theorem refl (G : Nat → Prop) (w : World) : Chg G w w := ⟨rfl, rfl, rfl, Nat.le_refl _, fun _ _ _ => rfl⟩
theorem join {G' : Nat → Prop} (h : Chg G a b) (k : Chg G' b c) (hs : ∀ i, i < a.heap.size → G' i → G i) : Chg G a c :=
  ⟨k.os.trans h.os, k.tape.trans h.tape, k.output.trans h.output, Nat.le_trans h.size k.size,
    fun n hn hne => (k.block n (Nat.lt_of_lt_of_le hn h.size) (fun e => hne (hs n hn e))).trans (h.block n hn hne)⟩
theorem trans (h : Chg G a b) (k : Chg G b c) : Chg G a c := h.join k fun _ _ h => h
theorem mono {G' : Nat → Prop} (h : Chg G a b) (hs : ∀ i, i < a.heap.size → G i → G' i) : Chg G' a b := (refl G' a).join h hs
theorem grow (h : Grow.G a b) : Chg G a b := ⟨h.os, h.tape, h.output, h.size, fun k hk _ => h.block k hk⟩
theorem alloc (h : Chg G a b) (o : Obj) : Chg G a (b.alloc o) := h.trans (grow (Grow.G.alloc (Grow.G.refl _) _))
theorem ofFr {v v' : Value} (h : Fr.Fr a b v v') : Chg (fun k => v.ownBlock = some k) a b := ⟨h.g.os, h.g.tape, h.g.output, h.g.size, fun k hk hn => h.g.block k hk fun e => hn e.symm⟩
theorem below {B : Nat} (h : Chg G a b) (hB : B ≤ a.heap.size) (hg : ∀ k, k < B → ¬ G k) : Below B a b := ⟨h.os, h.tape, h.output, h.size, fun k hk => h.block k (by omega) (hg k hk)⟩
theorem toGrow (h : Chg G a b) (hg : ∀ k, k < a.heap.size → ¬ G k) : Grow.G a b := h.below (Nat.le_refl _) hg
theorem setCell {g : Nat} (h : Chg G a b) (hg : g < a.heap.size → G g) (o : Nat) (v : Value) : Chg G a (b.setCell ⟨g, o, none⟩ v) :=
  h.join (G' := fun k => k = g) ⟨rfl, rfl, rfl, by simp [World.setCell], fun k _ hne => by simp only [World.setCell, Array.getElem?_modify]; rw [if_neg (fun e => hne e.symm)]⟩ (fun i hi e => by subst e; exact hg hi)
theorem lt_of {w : World} {k : Nat} {o : Obj} (h : w.heap[k]? = some o) : k < w.heap.size := (Array.getElem?_eq_some_iff.1 h).1
theorem blk (h : Chg G a b) {k : Nat} {o : Obj} (hk : a.heap[k]? = some o) (hg : ¬ G k) : b.heap[k]? = some o := (h.block k (lt_of hk) hg).trans hk
theorem cell (h : Chg G a b) {k o : Nat} {v : Value} (hc : a.cell? ⟨k, o, none⟩ = some v) (hg : ¬ G k) : b.cell? ⟨k, o, none⟩ = some v := by
  have hb : k < a.heap.size := by
    rcases Nat.lt_or_ge k a.heap.size with h' | h'
    · exact h'
    · simp [World.cell?, Array.getElem?_eq_none h'] at hc
  exact (World.cell?_of_block (w := a) (w' := b) (a := ⟨k, o, none⟩) (h.block k hb hg)).trans hc
theorem rest {n : Nat} (h : Chg G a b) (hg : ∀ k, n ≤ k → G k → ∀ o : Obj, a.heap[k]? = some o → o.isCells = true) : Iter.Rest n a b :=
  ⟨h.size, fun k o hk ho hn => (h.block k (lt_of hk) fun e => by have := hg k hn e o hk; rw [ho] at this; cases this).trans hk⟩
theorem own {base e sz n : Nat} {v : Value} {xs : List Value} (h : Chg G a b) (ho : a.ownsRow base e sz v n xs) (hg : ∀ k, v.ownBlock = some k → ¬ G k) : b.ownsRow base e sz v n xs := by
  refine ⟨ho.1, ho.2.imp id ?_⟩
  rintro ⟨k, cap, cur, hv, hb, hh, rest⟩
  exact ⟨k, cap, cur, hv, hb, h.blk hh (hg k (by rw [hv]; rfl)), rest⟩
theorem pre (G : Nat → Prop) : Evo2.Pre (Chg G) Grow.G := ⟨Grow.G.refl, Grow.G.trans, Chg.trans, Chg.grow, fun w => Grow.G.drawn _⟩
end Chg

/-- A block known whole. -/
def Blk (w : World) (g : Nat) (cs : Array Value) (T : TypeId) : Prop := w.heap[g]? = some (.cells cs T (0, 0))
namespace Blk
variable {w : World} {g : Nat} {cs : Array Value} {T : TypeId}
theorem lt (h : Blk w g cs T) : g < w.heap.size := Chg.lt_of h
theorem cell (h : Blk w g cs T) (i : Nat) : w.cell? ⟨g, i, none⟩ = cs[i]? := by
  unfold Blk at h
  simp [World.cell?, h]
theorem free (h : Blk w g cs T) (i : Nat) : w.frozen? ⟨g, i, none⟩ = false := by
  unfold Blk at h
  simp [World.frozen?, h]
theorem set (h : Blk w g cs T) (i : Nat) (v : Value) : Blk (w.setCell ⟨g, i, none⟩ v) g (cs.setIfInBounds i v) T := by
  have hlt := h.lt
  unfold Blk at h ⊢
  have h' : w.heap[g] = .cells cs T (0, 0) := by simpa [Array.getElem?_eq_getElem hlt] using h
  show (w.heap.modify g _)[g]? = _
  rw [Array.getElem?_eq_getElem (by simpa using hlt), Array.getElem_modify_self, h']
  rfl
theorem other (h : Blk w g cs T) {b : Nat} (hb : g ≠ b) (i : Nat) (v : Value) : Blk (w.setCell ⟨b, i, none⟩ v) g cs T := by
  unfold Blk at h ⊢
  simp only [World.setCell, Array.getElem?_modify]
  rw [if_neg (fun e => hb e.symm)]; exact h
theorem new (w : World) (cs : Array Value) (T : TypeId) : Blk (w.alloc (.cells cs T)) w.heap.size cs T := World.alloc_heap_new w _
theorem grow {w' : World} (h : Blk w g cs T) (k : Grow.G w w') : Blk w' g cs T := (k.block g h.lt).trans h
theorem alloc (h : Blk w g cs T) (o : Obj) : Blk (w.alloc o) g cs T := h.grow (Grow.G.alloc (Grow.G.refl _) _)
theorem chg {w' : World} {G : Nat → Prop} (h : Blk w g cs T) (k : Chg G w w') (hg : ¬ G g) : Blk w' g cs T := Chg.blk k h hg
theorem book {w' : World} {n : Nat} (h : Blk w g cs T) (k : Iter.Book n w w') : Blk w' g cs T := k.same g _ h (.inl rfl)
end Blk
end Go

/- A store into a known block, a load from one, by law: what follows knows the new block whole. No program is named here. -/
namespace Go
set_option linter.unusedVariables false
set_option linter.unusedSimpArgs false
open Go.RowKit

theorem Blk.new' {w : World} {cs : Array Value} {T : TypeId} {g : Nat} (h : g = w.heap.size) : Blk (w.alloc (.cells cs T)) g cs T := h ▸ Blk.new w cs T
theorem Blk.add {w : World} {g : Nat} {cs : List Value} {T : TypeId} (h : Blk w g cs.toArray T) (off : Nat) : ∀ j v, (cs.drop off)[j]? = some v → w.cell? ((⟨g, off, none⟩ : Addr).add j) = some v := by
  intro j v hj
  have e : (⟨g, off, none⟩ : Addr).add j = ⟨g, off + j, none⟩ := by unfold Addr.add; split <;> simp_all
  rw [e, h.cell]
  simpa [List.getElem?_drop] using hj
namespace Box
section
variable {P : Program}
theorem run_store (w : World) {t T : TypeId} {g off : Nat} {cs : Array Value} (hb : Blk w g cs T) (v : Value) (hs : (P.info? t).isSome = true ∧ P.cellsOf t = v.cells.size) (hfit : off + v.cells.size ≤ cs.size) (h1 : ∀ u ∈ v.cells.toList, u.oneCell' = true) :
    ∃ w', (Instr.storeAt t (.pointer (some ⟨g, off, none⟩)) v).run P w = .ok () w' ∧ Blk w' g (cs.toList.take off ++ v.cells.toList ++ cs.toList.drop (off + v.cells.toList.length)).toArray T ∧ Chg (fun k => k = g) w w' := by
  obtain ⟨i, hi⟩ := Option.isSome_iff_exists.1 hs.1
  have hrun := run_storeCells_at (P := P) g off T v.cells.toList 0 cs w hb (by simpa using hfit) h1
  simp only [Nat.add_zero] at hrun
  refine ⟨_, ?_, setRow_heap w g cs _ T _ hb, ?_⟩
  · simp only [Instr.storeAt, Instr.sureAddr, storeVar, Sem.run_bind, Sem.run_pure, Result.andThen_ok, run_sizeOf _ hi, hs.2, ne_eq, not_true_eq_false, if_false]
    exact hrun
  · refine ⟨rfl, rfl, rfl, by simp [World.setRow], fun k _ hk => ?_⟩
    simp only [World.setRow, Array.getElem?_modify]
    rw [if_neg (fun e => hk e.symm)]
theorem run_load (w : World) {t T : TypeId} {g off : Nat} {cs : List Value} (hb : Blk w g cs.toArray T) {fs : Array Field} (ht : P.underlying t = some (.struct fs)) (hs : (P.info? t).isSome = true) (vs : List Value) (hv : (cs.drop off).take (P.cellsOf t) = vs) (hl : vs.length = P.cellsOf t) :
    (Instr.loadAt t (.pointer (some ⟨g, off, none⟩))).run P w = .ok (.agg vs.toArray) w := by
  obtain ⟨i, hi⟩ := Option.isSome_iff_exists.1 hs
  have h := run_loadCells_list (P := P) w ⟨g, off, none⟩ vs (fun j v hj => hb.add off j v (by
    rw [← hv] at hj
    rw [List.getElem?_take] at hj
    split at hj
    · exact hj
    · cases hj))
  simp only [Instr.loadAt, Instr.sureAddr, loadVar, isAgg, Sem.run_bind, Sem.run_pure, Result.andThen_ok, run_underlying ht, run_sizeOf _ hi, if_true]
  rw [← hl, h]
  rfl
theorem store {ops : Array Oper} {rest : List Oper} {o : Oper} {a : Act} {w : World} {Q : Exit → Act → World → Prop} {t : TypeId} {p x : Operand} (ho : o.op = .store t p x) (hgd : o.guard = none)
    {g off : Nat} (hp : a.eval p = .pointer (some ⟨g, off, none⟩)) {v : Value} (hx : a.eval x = v) {cs : Array Value} {T : TypeId} (hb : Blk w g cs T)
    (hs : (P.info? t).isSome = true ∧ P.cellsOf t = v.cells.size) (hfit : off + v.cells.size ≤ cs.size) (h1 : ∀ u ∈ v.cells.toList, u.oneCell' = true)
    (h : ∀ w', Blk w' g (cs.toList.take off ++ v.cells.toList ++ cs.toList.drop (off + v.cells.toList.length)).toArray T → Chg (fun k => k = g) w w' → wpList P ops Q rest (a.put o.dst undef) w') : wpList P ops Q (o :: rest) a w := by
  obtain ⟨w', hr, hb', hc⟩ := run_store (P := P) w hb v hs hfit h1
  refine wpList_plain hgd fun K hK => ?_
  unfold Oper.wp execOp
  simp only [ho, hp, hx, Sem.run_bind, Sem.run_pure, Result.andThen_ok, hr]
  exact hK _ _ (h w' hb' hc)
theorem load {ops : Array Oper} {rest : List Oper} {o : Oper} {a : Act} {w : World} {Q : Exit → Act → World → Prop} {t : TypeId} {p : Operand} (ho : o.op = .load t p) (hgd : o.guard = none)
    {g off : Nat} (hp : a.eval p = .pointer (some ⟨g, off, none⟩)) {cs : List Value} {T : TypeId} (hb : Blk w g cs.toArray T)
    {fs : Array Field} (ht : P.underlying t = some (.struct fs)) (hs : (P.info? t).isSome = true) {vs : List Value} (hv : (cs.drop off).take (P.cellsOf t) = vs) (hl : vs.length = P.cellsOf t)
    (h : wpList P ops Q rest (a.put o.dst (.agg vs.toArray)) w) : wpList P ops Q (o :: rest) a w := by
  have hr := run_load (P := P) (off := off) w hb ht hs vs hv hl
  refine wpList_plain hgd fun K hK => ?_
  unfold Oper.wp execOp
  simp only [ho, hp, Sem.run_bind, Sem.run_pure, Result.andThen_ok, hr]
  exact hK _ _ h
/-- All of a block. -/
theorem loadAll {ops : Array Oper} {rest : List Oper} {o : Oper} {a : Act} {w : World} {Q : Exit → Act → World → Prop} {t : TypeId} {p : Operand} (ho : o.op = .load t p) (hgd : o.guard = none)
    {g : Nat} (hp : a.eval p = .pointer (some ⟨g, 0, none⟩)) {fs : Array Field} (ht : P.underlying t = some (.struct fs)) {n : Nat} (hs : (P.info? t).map (·.size) = some n) {cs : List Value} {T : TypeId} (hb : Blk w g cs.toArray T)
    (hl : cs.length = n)
    (h : wpList P ops Q rest (a.put o.dst (.agg cs.toArray)) w) : wpList P ops Q (o :: rest) a w := by
  have hc : P.cellsOf t = n := by
    unfold Program.cellsOf
    cases hi : P.info? t with
    | none => rw [hi] at hs; cases hs
    | some i => rw [hi] at hs; simpa using hs
  exact load ho hgd hp hb ht (by cases hi : P.info? t with
    | none => rw [hi] at hs; cases hs
    | some i => rfl) (vs := cs) (by rw [hc, ← hl]; simp) (by rw [hc, hl]) h
theorem storeAll {ops : Array Oper} {rest : List Oper} {o : Oper} {a : Act} {w : World} {Q : Exit → Act → World → Prop} {t : TypeId} {p x : Operand} (ho : o.op = .store t p x) (hgd : o.guard = none)
    {g : Nat} (hp : a.eval p = .pointer (some ⟨g, 0, none⟩)) {vs : List Value} (hx : a.eval x = .agg vs.toArray) {n : Nat} (hs : (P.info? t).map (·.size) = some n) {cs : Array Value} {T : TypeId} (hb : Blk w g cs T)
    (hn : vs.length = n) (hfit : cs.size = n) (h1 : vs.all (·.oneCell') = true)
    (h : ∀ w', Blk w' g vs.toArray T → Chg (fun k => k = g) w w' → wpList P ops Q rest (a.put o.dst undef) w') : wpList P ops Q (o :: rest) a w := by
  have hc : P.cellsOf t = n := by
    unfold Program.cellsOf
    cases hi : P.info? t with
    | none => rw [hi] at hs; cases hs
    | some i => rw [hi] at hs; simpa using hs
  have e1 : (Value.agg vs.toArray).cells.toList = vs := by simp [Value.cells]
  have e2 : (Value.agg vs.toArray).cells.size = vs.length := by simp [Value.cells]
  refine store ho hgd hp hx hb ⟨by cases hi : P.info? t with
    | none => rw [hi] at hs; cases hs
    | some i => rfl, by rw [hc, e2, hn]⟩ (by rw [e2]; omega) (by rw [e1]; exact fun u hu => by simpa using List.all_eq_true.1 h1 u hu) (fun w' hb' hch => h w' ?_ hch)
  rw [e1] at hb'
  have : cs.toList.drop (0 + vs.length) = [] := List.drop_eq_nil_of_le (by simp; omega)
  rw [this] at hb'
  simpa using hb'
end
end Box
end Go

/- Rows of a call's own: one element laid behind them. -/
namespace Go.Proofs.Ytjhfjjkfnmnkgaa
set_option maxRecDepth 100000
set_option linter.unusedVariables false
set_option linter.unusedSimpArgs false
set_option linter.unnecessarySimpa false
open Go.RowKit

theorem news_new (w : World) (cs : List Value) (e : TypeId) (b : Nat) (hb : b = w.heap.size) : ∀ j u, cs[j]? = some u → (w.alloc (.cells cs.toArray e)).cell? ((⟨b, 0, none⟩ : Addr).add j) = some u := by
  subst hb
  intro j u h
  have h2 : cs.toArray[j]? = some u := by simpa using h
  have e1 : (⟨w.heap.size, 0, none⟩ : Addr).add j = ⟨w.heap.size, j, none⟩ := by unfold Addr.add; split <;> simp_all
  rw [e1]
  exact cell_new (w := w) (t := e) (k := j) (b := w.heap.size) h2 rfl
theorem own_grow {w0 w w' : World} {base e sz n : Nat} {v : Value} {xs : List Value} (h : Grow.G w0 w) (ho : w.ownsRow base e sz v n xs) (hb : w0.heap.size ≤ base) (hg : w.grownBy w' v.ownBlock) : Grow.G w0 w' :=
  Below.grown h hg h.size (fun k hk => Nat.le_trans hb (ho.lt k hk).1)
theorem eqS_iff {a b : ByteArray} : (a.toList == b.toList) = true ↔ a = b := by
  rw [beq_iff_eq, ByteArray.toList_eq, ByteArray.toList_eq]
  exact ⟨fun h => ByteArray.ext (Array.toList_inj.1 h), fun h => by rw [h]⟩
theorem neS_iff {a b : ByteArray} : (a.toList == b.toList) = false ↔ a ≠ b := by
  rw [← Bool.not_eq_true, eqS_iff]
theorem own_later {w w' : World} {base e sz n : Nat} {v : Value} {xs : List Value} (h : w.ownsRow base e sz v n xs) (g : Grow.G w w') : w'.ownsRow base e sz v n xs := by
  refine ⟨h.1, h.2.imp id ?_⟩
  rintro ⟨b, cap, cur, hv, hb, hh, rest⟩
  have hlt : b < w.heap.size := by
    rcases Nat.lt_or_ge b w.heap.size with h' | h'
    · exact h'
    · rw [Array.getElem?_eq_none h'] at hh; cases hh
  exact ⟨b, cap, cur, hv, hb, by rw [g.block b hlt]; exact hh, rest⟩
theorem own_base {w : World} {base base' e sz n : Nat} {v : Value} {xs : List Value} (h : w.ownsRow base e sz v n xs) (hb : base' ≤ base) : w.ownsRow base' e sz v n xs :=
  ⟨h.1, h.2.imp id fun ⟨b, cap, cur, hv, hl, rest⟩ => ⟨b, cap, cur, hv, Nat.le_trans hb hl, rest⟩⟩
theorem own_shape {w : World} {base e sz n : Nat} {v : Value} {xs : List Value} (h : w.ownsRow base e sz v n xs) : ∃ sa c, v = .slice sa n c := by
  rcases h.2 with ⟨rfl, rfl⟩ | ⟨b, cap, cur, rfl, _⟩
  · exact ⟨none, 0, rfl⟩
  · exact ⟨_, cap, rfl⟩
theorem own_some {w : World} {base e sz n : Nat} {v : Value} {xs : List Value} (h : w.ownsRow base e sz v n xs) (hn : 1 ≤ n) : ∃ b c, v = .slice (some ⟨b, 0, none⟩) n c ∧ base ≤ b := by
  rcases h.2 with ⟨_, h0⟩ | ⟨b, cap, cur, rfl, hb, _⟩
  · omega
  · exact ⟨b, cap, rfl, hb⟩
end Go.Proofs.Ytjhfjjkfnmnkgaa

/- What a call knows of its own blocks, in one fact: read and written by law. No program is named here. -/
namespace Go
set_option linter.unusedVariables false
set_option linter.unusedSimpArgs false
open Go.RowKit

/-- A goal that the walk leaves alone. -/
def Stay (p : Prop) : Prop := p
theorem Stay.go {p : Prop} (h : p) : Stay p := h
abbrev MBox := Nat × List Value × TypeId
/-- Since the call began (w0) all that was there stands; these blocks of its own are known whole. -/
structure Mem (w0 w : World) (L : List MBox) : Prop where
  below : Below w0.heap.size w0 w
  blks : ∀ b ∈ L, Blk w b.1 b.2.1.toArray b.2.2 ∧ w0.heap.size ≤ b.1
  ne : L.Pairwise (fun a b => a.1 ≠ b.1)
namespace Mem
variable {w0 w w' : World} {L : List MBox}
theorem nil (w : World) : Mem w w [] := ⟨Below.refl _ _, (fun b hb => by cases hb), List.Pairwise.nil⟩
theorem size (h : Mem w0 w L) : w0.heap.size ≤ w.heap.size := h.below.size
theorem blk (h : Mem w0 w L) {i g : Nat} {cs : List Value} {T : TypeId} (hi : L[i]? = some (g, cs, T)) : Blk w g cs.toArray T := (h.blks _ (List.mem_of_getElem? hi)).1
theorem base (h : Mem w0 w L) {i g : Nat} {cs : List Value} {T : TypeId} (hi : L[i]? = some (g, cs, T)) : w0.heap.size ≤ g := (h.blks _ (List.mem_of_getElem? hi)).2
theorem cell (h : Mem w0 w L) {i g : Nat} {cs : List Value} {T : TypeId} (hi : L[i]? = some (g, cs, T)) {o : Nat} {v : Value} (hv : cs[o]? = some v) : w.cell? ⟨g, o, none⟩ = some v := by
  rw [(h.blk hi).cell]
  simpa using hv
theorem grow (h : Mem w0 w L) (g : Grow.G w w') : Mem w0 w' L :=
  ⟨h.below.trans (Below.mono g h.size), fun b hb => ⟨(h.blks b hb).1.grow g, (h.blks b hb).2⟩, h.ne⟩
theorem chg {G : Nat → Prop} (h : Mem w0 w L) (c : Chg G w w') (h0 : ∀ k, k < w0.heap.size → ¬ G k) (hG : ∀ b ∈ L, ¬ G b.1) : Mem w0 w' L :=
  ⟨h.below.trans (c.below h.size h0), fun b hb => ⟨(h.blks b hb).1.chg c (hG b hb), (h.blks b hb).2⟩, h.ne⟩
theorem alloc (h : Mem w0 w L) (cs : List Value) (T : TypeId) : Mem w0 (w.alloc (.cells cs.toArray T)) (L ++ [(w.heap.size, cs, T)]) where
  below := Below.alloc h.below h.size _
  blks b hb := by
    rcases List.mem_append.1 hb with hb | hb
    · exact ⟨(h.blks b hb).1.alloc _, (h.blks b hb).2⟩
    · rw [List.mem_singleton] at hb
      subst hb
      exact ⟨Blk.new _ _ _, h.size⟩
  ne := by
    rw [List.pairwise_append]
    refine ⟨h.ne, by simp, fun a ha b hb => ?_⟩
    rw [List.mem_singleton] at hb
    subst hb
    have := (h.blks a ha).1.lt
    exact fun e => by have e : a.1 = w.heap.size := e; omega
theorem alloc' (h : Mem w0 w L) (cs : List Value) (T : TypeId) {g : Nat} (hg : g = w.heap.size) : Mem w0 (w.alloc (.cells cs.toArray T)) (L ++ [(g, cs, T)]) := by
  subst hg
  exact h.alloc cs T
theorem dist (h : Mem w0 w L) {i j : Nat} {a b : MBox} (hi : L[i]? = some a) (hj : L[j]? = some b) (hne : i ≠ j) : a.1 ≠ b.1 := by
  have hp := List.pairwise_iff_getElem.1 h.ne
  obtain ⟨li, ei⟩ := List.getElem?_eq_some_iff.1 hi
  obtain ⟨lj, ej⟩ := List.getElem?_eq_some_iff.1 hj
  subst ei ej
  rcases Nat.lt_or_gt_of_ne hne with hlt | hlt
  · exact hp i j li lj hlt
  · exact fun e => hp j i lj li hlt e.symm
theorem set (h : Mem w0 w L) {i g : Nat} {cs cs' : List Value} {T : TypeId} (hi : L[i]? = some (g, cs, T)) (hb : Blk w' g cs'.toArray T) (hc : Chg (fun k => k = g) w w') : Mem w0 w' (L.set i (g, cs', T)) where
  below := h.below.trans (hc.below h.size (fun k hk e => by have := h.base hi; have e : k = g := e; omega))
  blks b hm := by
    obtain ⟨j, hj⟩ := List.getElem?_of_mem hm
    rw [List.getElem?_set] at hj
    have hil := (List.getElem?_eq_some_iff.1 hi).1
    by_cases e : i = j
    · subst e
      rw [if_pos rfl, if_pos hil] at hj
      cases hj
      exact ⟨hb, h.base hi⟩
    · rw [if_neg e] at hj
      have hb' := h.blks b (List.mem_of_getElem? hj)
      exact ⟨hb'.1.chg hc (fun q => h.dist hi hj e q.symm), hb'.2⟩
  ne := by
    rw [List.pairwise_iff_getElem]
    intro a b ha hb' hab
    rw [List.length_set] at ha hb'
    have key : ∀ (j : Nat) (hj : j < (L.set i (g, cs', T)).length) (hj' : j < L.length), ((L.set i (g, cs', T))[j]).1 = (L[j]).1 := by
      intro j hj hj'
      rw [List.getElem_set]
      split
      · rename_i e
        subst e
        have := (List.getElem?_eq_some_iff.1 hi).2
        rw [this]
      · rfl
    rw [key a (by simpa using ha) ha, key b (by simpa using hb') hb']
    exact List.pairwise_iff_getElem.1 h.ne a b ha hb' hab
/-- A block that a call has changed, among others that are none of these. -/
theorem put (h : Mem w0 w L) {i g : Nat} {cs cs' : List Value} {T : TypeId} {G : Nat → Prop} (hi : L[i]? = some (g, cs, T)) (hb : Blk w' g cs'.toArray T) (hc : Chg G w w') (h0 : ∀ k, k < w0.heap.size → ¬ G k) (hG : ∀ b ∈ L, b.1 ≠ g → ¬ G b.1) : Mem w0 w' (L.set i (g, cs', T)) where
  below := h.below.trans (hc.below h.size h0)
  blks b hm := by
    obtain ⟨j, hj⟩ := List.getElem?_of_mem hm
    rw [List.getElem?_set] at hj
    have hil := (List.getElem?_eq_some_iff.1 hi).1
    by_cases e : i = j
    · subst e
      rw [if_pos rfl, if_pos hil] at hj
      cases hj
      exact ⟨hb, h.base hi⟩
    · rw [if_neg e] at hj
      have hb' := h.blks b (List.mem_of_getElem? hj)
      exact ⟨hb'.1.chg hc (hG b (List.mem_of_getElem? hj) (fun q => h.dist hi hj e q.symm)), hb'.2⟩
  ne := by
    rw [List.pairwise_iff_getElem]
    intro a b ha hb' hab
    rw [List.length_set] at ha hb'
    have key : ∀ (j : Nat) (hj : j < (L.set i (g, cs', T)).length) (hj' : j < L.length), ((L.set i (g, cs', T))[j]).1 = (L[j]).1 := by
      intro j hj hj'
      rw [List.getElem_set]
      split
      · rename_i e
        subst e
        have := (List.getElem?_eq_some_iff.1 hi).2
        rw [this]
      · rfl
    rw [key a (by simpa using ha) ha, key b (by simpa using hb') hb']
    exact List.pairwise_iff_getElem.1 h.ne a b ha hb' hab
theorem lt (h : Mem w0 w L) {i g : Nat} {cs : List Value} {T : TypeId} (hi : L[i]? = some (g, cs, T)) : g < w.heap.size := (h.blk hi).lt
section
variable {P : Program} {ops : Array Oper} {rest : List Oper} {o : Oper} {a : Act} {Q : Exit → Act → World → Prop}
/-- Only where the walk stands at a list of operations (a hook's own guard: else what follows runs away in a region with guards). -/
theorem isList (h : wpList P ops Q (o :: rest) a w) : wpList P ops Q (o :: rest) a w := h
theorem storeAll (i : Nat) {t : TypeId} {p x : Operand} (ho : o.op = .store t p x) (hgd : o.guard = none)
    {g : Nat} (hp : a.eval p = .pointer (some ⟨g, 0, none⟩)) {vs : List Value} (hx : a.eval x = .agg vs.toArray) {n : Nat} (hs : (P.info? t).map (·.size) = some n)
    (hm : Mem w0 w L) {cs : List Value} {T : TypeId} (hi : L[i]? = some (g, cs, T)) (hn : vs.length = n) (hfit : cs.length = n) (h1 : vs.all (·.oneCell') = true)
    (h : ∀ w', Mem w0 w' (L.set i (g, vs, T)) → Chg (fun k => k = g) w w' → Stay (wpList P ops Q rest (a.put o.dst undef) w')) : wpList P ops Q (o :: rest) a w :=
  Box.storeAll ho hgd hp hx hs (hm.blk hi) hn (by simpa using hfit) h1 fun w' hb hc => h w' (hm.set hi hb hc) hc
/-- A part of a block. -/
theorem store (i : Nat) {t : TypeId} {p x : Operand} (ho : o.op = .store t p x) (hgd : o.guard = none)
    {g off : Nat} (hp : a.eval p = .pointer (some ⟨g, off, none⟩)) {v : Value} (hx : a.eval x = v) {vs : List Value} (hv : v.cells = vs.toArray) {n : Nat} (hs : (P.info? t).map (·.size) = some n)
    (hm : Mem w0 w L) {cs : List Value} {T : TypeId} (hi : L[i]? = some (g, cs, T)) (hn : vs.length = n) (hfit : off + n ≤ cs.length) (h1 : vs.all (·.oneCell') = true)
    (h : ∀ w', Mem w0 w' (L.set i (g, cs.take off ++ vs ++ cs.drop (off + vs.length), T)) → Chg (fun k => k = g) w w' → Stay (wpList P ops Q rest (a.put o.dst undef) w')) : wpList P ops Q (o :: rest) a w := by
  have hc : P.cellsOf t = n := by
    unfold Program.cellsOf
    cases hi : P.info? t with
    | none => rw [hi] at hs; cases hs
    | some i => rw [hi] at hs; simpa using hs
  refine Box.store ho hgd hp hx (hm.blk hi) ⟨by cases hi : P.info? t with
    | none => rw [hi] at hs; cases hs
    | some i => rfl, by rw [hc, hv]; simpa using hn.symm⟩ (by rw [hv]; simp; omega) (by rw [hv]; exact fun u hu => by simpa using List.all_eq_true.1 h1 u (by simpa using hu)) fun w' hb hch => h w' (hm.set hi (by simpa [hv] using hb) hch) hch
theorem loadAll (i : Nat) {t : TypeId} {p : Operand} (ho : o.op = .load t p) (hgd : o.guard = none)
    {g : Nat} (hp : a.eval p = .pointer (some ⟨g, 0, none⟩)) {fs : Array Field} (ht : P.underlying t = some (.struct fs)) {n : Nat} (hs : (P.info? t).map (·.size) = some n)
    (hm : Mem w0 w L) {cs : List Value} {T : TypeId} (hi : L[i]? = some (g, cs, T)) (hl : cs.length = n)
    (h : wpList P ops Q rest (a.put o.dst (.agg cs.toArray)) w) : wpList P ops Q (o :: rest) a w :=
  Box.loadAll ho hgd hp ht hs (hm.blk hi) hl h
theorem load (i : Nat) {t : TypeId} {p : Operand} (ho : o.op = .load t p) (hgd : o.guard = none)
    {g off : Nat} (hp : a.eval p = .pointer (some ⟨g, off, none⟩)) {fs : Array Field} (ht : P.underlying t = some (.struct fs)) {n : Nat} (hs : (P.info? t).map (·.size) = some n)
    (hm : Mem w0 w L) {cs : List Value} {T : TypeId} (hi : L[i]? = some (g, cs, T)) {vs : List Value} (hv : (cs.drop off).take n = vs) (hl : vs.length = n)
    (h : wpList P ops Q rest (a.put o.dst (.agg vs.toArray)) w) : wpList P ops Q (o :: rest) a w := by
  have hc : P.cellsOf t = n := by
    unfold Program.cellsOf
    cases hi : P.info? t with
    | none => rw [hi] at hs; cases hs
    | some i => rw [hi] at hs; simpa using hs
  exact Box.load ho hgd hp (hm.blk hi) ht (by cases hi : P.info? t with
    | none => rw [hi] at hs; cases hs
    | some i => rfl) (vs := vs) (by rw [hc, hv]) (by rw [hc, hl]) h
end
end Mem
theorem Blk.at {w : World} {g : Nat} {cs : List Value} {T : TypeId} (h : Blk w g cs.toArray T) {k : Nat} {v : Value} (hv : cs[k]? = some v) : w.cell? ⟨g, k, none⟩ = some v := by
  rw [h.cell]
  simpa using hv
end Go

/- A piece of code by what it leaves; a guarded load of a block known whole. No program is named here. -/
namespace Go
set_option maxRecDepth 100000
set_option linter.unusedVariables false
set_option linter.unusedSimpArgs false
set_option linter.unnecessarySimpa false
open Go.RowKit

/-- A region that ends as it should, in acts and worlds that keep S. -/
def PostN (S : Act → World → Prop) : Exit → Act → World → Prop
  | .normal, A, W => S A W
  | _, _, _ => False
theorem wp_spec {P : Program} {c : Code} {Q : Exit → Act → World → Prop} {a : Act} {w : World} (S : Act → Act → World → Prop)
    (h1 : c.wp P (PostN (S a)) a w) (h2 : ∀ A W, S a A W → Q .normal A W) : c.wp P Q a w :=
  wp_mono h1 fun e A W h => by cases e <;> first | exact h2 A W h | exact h.elim
/-- A store into a block known whole, in a drawn region. -/
theorem upStoreAll {P : Program} {ops : Array Oper} {Q : Exit → Act → World → Prop} {i : Nat} {o : Oper} {rest : List Oper} {a : Act} {w : World} {K : Act → World → Prop} (hi : ops.toList.drop i = o :: rest) (hw : Region.wanted o (yielded ops a.tmps) = true) {t : TypeId} {p x : Operand} (ho : o.op = .store t p x)
    {g : Nat} (hp : a.eval p = .pointer (some ⟨g, 0, none⟩)) {vs : List Value} (hx : a.eval x = .agg vs.toArray) {n : Nat} (hs : (P.info? t).map (·.size) = some n) {cs : Array Value} {T : TypeId} (hb : Blk w g cs T)
    (hn : vs.length = n) (hfit : cs.size = n) (h1 : vs.all (·.oneCell') = true)
    (h : ∀ w', Blk w' g vs.toArray T → Chg (fun k => k = g) w w' → K (a.put o.dst undef) w') : wpOp P ops Q i K a w := by
  have hc : P.cellsOf t = n := by
    unfold Program.cellsOf
    cases hi : P.info? t with
    | none => rw [hi] at hs; cases hs
    | some i => rw [hi] at hs; simpa using hs
  have e1 : (Value.agg vs.toArray).cells.toList = vs := by simp [Value.cells]
  have e2 : (Value.agg vs.toArray).cells.size = vs.length := by simp [Value.cells]
  obtain ⟨w', hr, hb', hch⟩ := Box.run_store (P := P) (t := t) (off := 0) w hb (.agg vs.toArray) ⟨by cases hi : P.info? t with
    | none => rw [hi] at hs; cases hs
    | some i => rfl, by rw [hc, e2, hn]⟩ (by rw [e2]; omega) (by rw [e1]; exact fun u hu => by simpa using List.all_eq_true.1 h1 u hu)
  rw [e1] at hb'
  have : cs.toList.drop (0 + vs.length) = [] := List.drop_eq_nil_of_le (by simp; omega)
  rw [this] at hb'
  have hb' : Blk w' g vs.toArray T := by simpa using hb'
  refine Evo2.runs hi hw fun K' hK' => ?_
  have : (execOp a.eval o).run P w = .ok .skip w' ∨ (execOp a.eval o).run P w = .ok (.value undef) w' := by
    unfold execOp
    simp only [ho, hp, hx, Sem.run_bind, Sem.run_pure, Result.andThen_ok, hr]
    simp
  rcases this with e | e <;> rw [e] <;> exact hK'.out _ _ (h w' hb' hch)
end Go

/- A load of a block known whole, as an operation runs. No program is named here. -/
namespace Go.Box
set_option linter.unusedVariables false
set_option linter.unusedSimpArgs false
open Go.RowKit
variable {P : Program}
/-- Operation o loads what lies at a place of a block. -/
def loads (ρ : Operand → Value) (o : Oper) (t : TypeId) (g off : Nat) : Prop := match o.op with
  | .load t' p => t' = t ∧ ρ p = .pointer (some ⟨g, off, none⟩)
  | _ => False
theorem loads_at {ρ : Operand → Value} {o : Oper} {t : TypeId} {g off : Nat} (h : loads ρ o t g off) : ∃ p, o.op = .load t p ∧ ρ p = .pointer (some ⟨g, off, none⟩) := by
  unfold loads at h
  split at h
  · rename_i t' p e
    obtain ⟨rfl, h⟩ := h
    exact ⟨p, e, h⟩
  · cases h
theorem exec_loadAll {w : World} {ρ : Operand → Value} {o : Oper} {t : TypeId} {g : Nat} (ho : loads ρ o t g 0) {fs : Array Field} (ht : P.underlying t = some (.struct fs)) {n : Nat} (hs : (P.info? t).map (·.size) = some n)
    {cs : List Value} {T : TypeId} (hb : Blk w g cs.toArray T) (hl : cs.length = n) : (execOp ρ o).run P w = .ok (.value (.agg cs.toArray)) w := by
  obtain ⟨p, ho, hp⟩ := loads_at ho
  have hc : P.cellsOf t = n := by
    unfold Program.cellsOf
    cases hi : P.info? t with
    | none => rw [hi] at hs; cases hs
    | some i => rw [hi] at hs; simpa using hs
  have hr := run_load (P := P) (off := 0) w hb ht (by cases hi : P.info? t with
    | none => rw [hi] at hs; cases hs
    | some i => rfl) cs (by rw [hc, ← hl]; simp) (by rw [hc, hl])
  unfold execOp
  simp only [ho, hp, Sem.run_bind, Sem.run_pure, Result.andThen_ok, hr]
end Go.Box

/- An append of whatever slice, nil or not, onto a row of the call's own. No program is named here. -/
namespace Go.Fr
set_option linter.unusedVariables false
set_option linter.unusedSimpArgs false
open Go.Lib

/-- Where the cells are that are laid behind: nowhere, where there are none. -/
def Src (w : World) (a : Option Addr) (news : List Value) : Prop := (a = none ∧ news = []) ∨ ∃ ad, a = some ad ∧ ∀ j u, news[j]? = some u → w.cell? (ad.add j) = some u
section
variable {P : Program} (w : World)
theorem run_append_src (base : Nat) (t ty e : TypeId) (i : TypeInfo) (z : Value) (size bytes : Nat) (ht : P.underlying t = some (.slice e)) (hi : P.info? e = some i) (hz : i.zero = some z)
    (hsize : i.size = size) (hby : i.bytes = bytes) (hzs : z.cells.size = size) (hsz : 0 < size)
    (v : Value) (n : Nat) (xs : List Value) (hown : w.ownsRow base e size v n xs)
    (a : Option Addr) (m c : Nat) (news : List Value) (hl : news.length = m * size) (hnews : Src w a news) (h1 : ∀ u ∈ news, u.oneCell' = true)
    (h63 : n + m ≤ maxLen) (hbytes : (n + m) * bytes ≤ 140737488355328) (hbase : base ≤ w.heap.size) :
    ∃ v' w', (Builtin.append_ #[t, t] ty #[v, .slice a m c]).run P w = .ok v' w' ∧ w'.ownsRow base e size v' (n + m) (xs ++ news) ∧ Fr w w' v v' := by
  rcases hnews with ⟨rfl, rfl⟩ | ⟨ad, rfl, hn⟩
  · have hm : m = 0 := by
      rcases Nat.eq_zero_or_pos m with h | h
      · exact h
      · have h2 := Nat.mul_pos h hsz
        have h3 : (0 : Nat) = m * size := hl
        omega
    subst hm
    refine ⟨v, w, ?_, by simpa using hown, Fr.grow (Grow.G.refl _) v⟩
    rcases hown.2 with ⟨rfl, rfl⟩ | ⟨g, cap, cur, rfl, _, _, hnc, _⟩
    · simp [Builtin.append_, run_underlying ht, sizeOf, typeInfo, hi, Builtin.lenOf, Builtin.firstCells]
    · simp [Builtin.append_, run_underlying ht, sizeOf, typeInfo, hi, Builtin.lenOf, Builtin.firstCells, hnc, storeCells]
  · exact run_append_fr w base t ty e i z size bytes ht hi hz hsize hby hzs hsz v n xs hown ad m c news hl hn h1 h63 hbytes hbase
theorem wp_append_src {o : Oper} {a : Act} {K : Act → World → Prop} {Q : Exit → Act → World → Prop} (s x : Operand) (t : TypeId)
    (ho : o.op = .call { callee := .builtin .append, args := #[s, x], argTypes := #[t, t] })
    (base : Nat) (e : TypeId) (i : TypeInfo) (z : Value) (size bytes : Nat) (ht : P.underlying t = some (.slice e)) (hi : P.info? e = some i) (hz : i.zero = some z)
    (hsize : i.size = size) (hby : i.bytes = bytes) (hzs : z.cells.size = size) (hsz : 0 < size)
    (v : Value) (n : Nat) (xs : List Value) (hs : a.eval s = v) (hown : w.ownsRow base e size v n xs)
    (ad : Option Addr) (m c : Nat) (news : List Value) (hx : a.eval x = .slice ad m c) (hl : news.length = m * size) (hnews : Src w ad news) (h1 : ∀ u ∈ news, u.oneCell' = true)
    (h63 : n + m ≤ maxLen) (hbytes : (n + m) * bytes ≤ 140737488355328) (hbase : base ≤ w.heap.size)
    (h : ∀ v' w', w'.ownsRow base e size v' (n + m) (xs ++ news) → Fr w w' v v' → K (a.put o.dst v') w') : o.wp P a w K Q := by
  obtain ⟨v', w', hr, h2, h3⟩ := run_append_src (P := P) w base t o.type e i z size bytes ht hi hz hsize hby hzs hsz v n xs hown ad m c news hl hnews h1 h63 hbytes hbase
  unfold Oper.wp execOp
  simp only [ho, resolve, invoke, builtin, Sem.run_bind, Sem.run_pure, Result.andThen_ok, List.map_toArray, List.map_cons, List.map_nil, hs, hx, hr]
  exact h v' w' h2 h3
theorem wpList_append_src {ops : Array Oper} {rest : List Oper} {o : Oper} {a : Act} {Q : Exit → Act → World → Prop} (hgd : o.guard = none) (s x : Operand) (t : TypeId)
    (ho : o.op = .call { callee := .builtin .append, args := #[s, x], argTypes := #[t, t] })
    (base : Nat) (e : TypeId) (i : TypeInfo) (z : Value) (size bytes : Nat) (ht : P.underlying t = some (.slice e)) (hi : P.info? e = some i) (hz : i.zero = some z)
    (hsize : i.size = size) (hby : i.bytes = bytes) (hzs : z.cells.size = size) (hsz : 0 < size)
    (v : Value) (n : Nat) (xs : List Value) (hs : a.eval s = v) (hown : w.ownsRow base e size v n xs)
    (ad : Option Addr) (m c : Nat) (news : List Value) (hx : a.eval x = .slice ad m c) (hl : news.length = m * size) (hnews : Src w ad news) (h1 : ∀ u ∈ news, u.oneCell' = true)
    (h63 : n + m ≤ maxLen) (hbytes : (n + m) * bytes ≤ 140737488355328) (hbase : base ≤ w.heap.size)
    (h : ∀ v' w', w'.ownsRow base e size v' (n + m) (xs ++ news) → Fr w w' v v' → wpList P ops Q rest (a.put o.dst v') w') : wpList P ops Q (o :: rest) a w :=
  wpList_plain hgd fun _ hK => wp_append_src w s x t ho base e i z size bytes ht hi hz hsize hby hzs hsz v n xs hs hown ad m c news hx hl hnews h1 h63 hbytes hbase fun v' w' h2 h3 => hK _ _ (h v' w' h2 h3)
theorem own_src {ops : Array Oper} {Q : Exit → Act → World → Prop} {i : Nat} {o : Oper} {rest : List Oper} {a : Act} {w : World} {K : Act → World → Prop} (hi' : ops.toList.drop i = o :: rest) (hw : Region.wanted o (yielded ops a.tmps) = true) (s x : Operand) (t : TypeId)
    (ho : o.op = .call { callee := .builtin .append, args := #[s, x], argTypes := #[t, t] })
    (base : Nat) (e : TypeId) (i' : TypeInfo) (z : Value) (size bytes : Nat) (ht : P.underlying t = some (.slice e)) (hi : P.info? e = some i') (hz : i'.zero = some z)
    (hsize : i'.size = size) (hby : i'.bytes = bytes) (hzs : z.cells.size = size) (hsz : 0 < size)
    (v : Value) (n : Nat) (xs : List Value) (hs : a.eval s = v) (hown : w.ownsRow base e size v n xs)
    (ad : Option Addr) (m c : Nat) (news : List Value) (hx : a.eval x = .slice ad m c) (hl : news.length = m * size) (hnews : Src w ad news) (h1 : ∀ u ∈ news, u.oneCell' = true)
    (h63 : n + m ≤ maxLen) (hbytes : (n + m) * bytes ≤ 140737488355328) (hbase : base ≤ w.heap.size)
    (h : ∀ v' w', w'.ownsRow base e size v' (n + m) (xs ++ news) → Fr w w' v v' → K (a.put o.dst v') w') : wpOp P ops Q i K a w := by
  unfold wpOp
  simp only [Evo.at_drop hi', hw, if_true]
  exact .inl (wp_append_src w s x t ho base e i' z size bytes ht hi hz hsize hby hzs hsz v n xs hs hown ad m c news hx hl hnews h1 h63 hbytes hbase h)
end
theorem Src.grow {w w' : World} {a : Option Addr} {news : List Value} (h : Src w a news) (g : Grow.G w w') : Src w' a news :=
  h.imp id fun ⟨ad, h1, h2⟩ => ⟨ad, h1, fun j u hj => (Iter.Book.grow (n := 0) g).cell (h2 j u hj)⟩
end Go.Fr

/- A region that draws its order, in a round of a range over a function: walked as anywhere. No program is named here. -/
namespace Go.Round
set_option linter.unusedVariables false
open Go.RowKit

/-- No panic, nothing outgrown. -/
def Calm (Q : Exit → Act → World → Prop) : Exit → Act → World → Prop
  | .panic _, _, _ => False
  | .outgrown, _, _ => False
  | e, a, w => Q e a w
theorem calm_mono {Q : Exit → Act → World → Prop} (e : Exit) (a : Act) (w : World) (h : Calm Q e a w) : Q e a w := by
  cases e <;> first | exact h | exact h.elim
theorem no_lets {Q : Exit → Act → World → Prop} (h : LetsOut (Calm Q)) : False := by
  obtain ⟨a, w, h⟩ := h
  exact h
section
variable {P : Program} {ops : Array Oper} {Q : Exit → Act → World → Prop} {l n : Nat} {md : Region.Mode}
theorem op_in {o : Oper} (hd : ∀ c, o.op ≠ .defer c) {a : Act} {w : World} {K K' : Act → World → Prop} (hK : ∀ a w, K a w → K' a w) (h : o.wp P a w K (Calm Q)) : o.wpIn (Fence.wide.inRound l) n P a w K' Q := by
  unfold Oper.wpIn
  refine ⟨fun _ _ => trivial, ?_⟩
  rw [show (Fence.wide.inRound l).round = some l from rfl, Oper.semAt_some l _ o hd]
  unfold Oper.wp at h
  generalize (execOp a.eval o).run P w = r at h ⊢
  cases r with
  | ok x w' =>
    cases x with
    | value v => exact hK _ _ h
    | skip => exact hK _ _ h
    | defer d => exact hK _ _ h
    | enter f args =>
      refine ⟨fun h => by simp [Fence.wide, Fence.inRound] at h, ?_⟩
      refine CallsIn.inRound l (callsIn_wide.2 (Calls.mono h fun e w'' he => ?_))
      cases e with
      | returned v => exact hK _ _ he
      | panicked ch => exact he.elim
      | outgrown => exact (no_lets he).elim
    | row row args =>
      refine ⟨fun h => by simp [Fence.wide, Fence.inRound] at h, ?_⟩
      exact fun c cs _ => let ⟨v, w'', r, s⟩ := h c cs; ⟨v, w'', hK _ _ r, stepsIn_wide.2 s⟩
    | round l f tmps assign body => exact h.elim
    | _ => exact h.elim
  | halt x w' =>
    cases x <;> exact h.elim
def noDefer (ops : Array Oper) : Bool := ops.all fun o => match o.op with | .defer _ => false | _ => true
theorem noDefer_at (h : noDefer ops = true) {i : Nat} {o : Oper} (hi : ops[i]? = some o) (c : Call) : o.op ≠ .defer c := by
  intro e
  unfold noDefer at h
  rw [Array.all_eq_true] at h
  obtain ⟨hlt, rfl⟩ := Array.getElem?_eq_some_iff.1 hi
  have := h i hlt
  rw [e] at this
  simp at this
theorem any_in (hd : noDefer ops = true) : ∀ (fuel : Nat) (listed : Array Bool) (a : Act) (w : World), wpAny P md ops (Calm Q) fuel listed a w → wpAnyIn (Fence.wide.inRound l) n P md ops Q fuel listed a w
  | 0, _, _, _, h => ⟨h.1, calm_mono _ _ _ h.2⟩
  | fuel + 1, listed, a, w, h => by
    refine ⟨fun e => calm_mono _ _ _ (h.1 e), fun i hi => ?_⟩
    have h1 := h.2 i hi
    unfold wpOp at h1
    unfold wpOpIn
    cases ho : ops[i]? with
    | none =>
      simp only [ho] at h1 ⊢
      exact any_in hd fuel _ _ _ h1
    | some o =>
      simp only [ho] at h1 ⊢
      split at h1
      · rename_i hw
        rw [if_pos hw]
        rcases h1 with h1 | ⟨_, h1⟩
        · exact op_in (noDefer_at hd ho) (fun a w => any_in hd fuel _ a w) h1
        · exact (no_lets h1).elim
      · rename_i hw
        rw [if_neg hw]
        exact ⟨fun _ _ => trivial, any_in hd fuel _ _ _ h1⟩
/-- A region in a round: by what is proved of it anywhere. -/
theorem region {id : Nat} {a : Act} {w : World} {S E : World → World → Prop} {ℓ : Option Nat} (hm : P.follows .mixedOrders = true) (hd : noDefer ops = true) (ok : Evo2.Okay P S E .any ops (Calm Q) ℓ)
    (h : Evo2.Okay P S E .any ops (Calm Q) ℓ → Evo2.wpX P S E .any ops (Calm Q) ℓ ops.size (Array.replicate ops.size false) a w) : (Code.region id ops true).wpIn (Fence.wide.inRound l) n P Q a w :=
  wpIn_region_any hm (any_in hd _ _ _ _ (Evo2.wpX.any ok.pre _ _ _ _ ((h ok).mono ok.pre (ok.pre.drawn w))))
end
end Go.Round

/- A row of numbers that came in; bounds of numbers. -/
namespace Go.Proofs.Ytjhfjjkfnmnkgaa
set_option maxRecDepth 100000
set_option linter.unusedVariables false
set_option linter.unusedSimpArgs false
set_option linter.unnecessarySimpa false
open Go.RowKit

def IntAt (w : World) (a : Option Addr) (zs : List Int) : Prop := zs = [] ∨ ∃ b off, a = some ⟨b, off, none⟩ ∧ IntCells w b off zs
theorem IntSlice.open {w : World} {v : Value} {zs : List Int} (h : IntSlice w v zs) : ∃ a cap, v = .slice a zs.length cap ∧ IntAt w a zs := by
  rcases h with ⟨b, off, cap, rfl, h⟩ | ⟨rfl, a, cap, rfl⟩
  · exact ⟨_, cap, rfl, .inr ⟨b, off, rfl, h⟩⟩
  · exact ⟨a, cap, rfl, .inl rfl⟩
theorem IntAt.at {w w' : World} {a : Option Addr} {zs : List Int} (h : IntAt w a zs) (g : Grow.G w w') {k : Nat} (hk : k < zs.length) : ∃ b off, a = some ⟨b, off, none⟩ ∧ w'.cell? ⟨b, off + k, none⟩ = some (.int .i64 (zs.getD k 0)) ∧ wf64 (zs.getD k 0) := by
  rcases h with rfl | ⟨b, off, ha, hc⟩
  · simp at hk
  · exact ⟨b, off, ha, cell_later g (hc.cell k hk), hc.wf k⟩
theorem tdiv_wf {n : Int} (h : wf64 n) (d : Int) (hd : 2 ≤ d) : wf64 (n.tdiv d) := by
  obtain ⟨h1, h2⟩ := h
  have h4 : 2 * (n.tdiv d).natAbs ≤ n.natAbs := by
    rw [Int.natAbs_tdiv]
    have h5 : n.natAbs.div d.natAbs * d.natAbs ≤ n.natAbs := Nat.div_mul_le_self _ _
    have h6 : n.natAbs.div d.natAbs * 2 ≤ n.natAbs.div d.natAbs * d.natAbs := Nat.mul_le_mul_left _ (by omega)
    omega
  exact ⟨by omega, by omega⟩
end Go.Proofs.Ytjhfjjkfnmnkgaa

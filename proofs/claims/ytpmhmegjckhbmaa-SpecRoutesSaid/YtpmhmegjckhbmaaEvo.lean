/- Regions whose order is open: operations whose values stand while worlds evolve are taken first, the others in each order that is left. No program is named here. -/
import Derived.Test.YtpmhmegjckhbmaaRegion
namespace Go.Evo
set_option linter.unusedVariables false
open Go.RowKit

theorem later {W w1 : World} (hb : Below W.heap.size W w1) : ∀ wx, Grow.G w1 wx → (∀ b o, b < W.heap.size → wx.cell? ⟨b, o, none⟩ = W.cell? ⟨b, o, none⟩) ∧ (∀ b o, b < W.heap.size → wx.frozen? ⟨b, o, none⟩ = W.frozen? ⟨b, o, none⟩) ∧ W.heap.size ≤ wx.heap.size :=
  fun wx gx => have h := Grow.G.trans (show Grow.G W w1 from hb) gx
    ⟨fun b o hl => Below.cell (p := ⟨b, o, none⟩) h hl, fun b o hl => Below.frozen (p := ⟨b, o, none⟩) h hl, Below.size h⟩
theorem laterK {W w1 : World} (K : ∀ wx, Grow.G w1 wx → (∀ b o, b < W.heap.size → wx.cell? ⟨b, o, none⟩ = W.cell? ⟨b, o, none⟩) ∧ (∀ b o, b < W.heap.size → wx.frozen? ⟨b, o, none⟩ = W.frozen? ⟨b, o, none⟩) ∧ W.heap.size ≤ wx.heap.size) (X : World) {B : Prop} (hG : Grow.G w1 X)
    (k : (∀ b o, b < W.heap.size → X.cell? ⟨b, o, none⟩ = W.cell? ⟨b, o, none⟩) → (∀ b o, b < W.heap.size → X.frozen? ⟨b, o, none⟩ = W.frozen? ⟨b, o, none⟩) → W.heap.size ≤ X.heap.size → B) : B :=
  k (K X hG).1 (K X hG).2.1 (K X hG).2.2
theorem same {P : Program} {f : FuncId} {args : Array Value} {w : World} {r : Ending} (h : Calls P f args w fun e w' => e = r ∧ w = w') : Calls P f args w fun e w' => e = r ∧ Grow.G w w' :=
  h.mono fun e w' ⟨he, hw⟩ => ⟨he, hw ▸ Grow.G.refl w⟩
structure Pre (T : World → World → Prop) : Prop where
  refl : ∀ w, T w w
  trans : ∀ {a b c}, T a b → T b c → T a c
  drawn : ∀ w n, T w { w with drawn := n }
theorem preG : Pre Grow.G := ⟨Grow.G.refl, Grow.G.trans, fun _ n => Grow.G.drawn n⟩

def RunsT (P : Program) (T : World → World → Prop) (s : Sem Next) (w : World) (v : Value) : Prop :=
  (∃ w2, s.run P w = .ok (.value v) w2 ∧ T w w2) ∨
  ∃ f args w2, s.run P w = .ok (.enter f args) w2 ∧ T w w2 ∧ Calls P f args w2 fun e w' => e = .returned v ∧ T w2 w'
def YieldsT (P : Program) (T : World → World → Prop) (ops : Array Oper) (o : Oper) (v : Value) (a : Act) (w : World) : Prop :=
  (Region.wanted o (yielded ops a.tmps) = true ∧ ∀ w1, T w w1 → RunsT P T (execOp a.eval o) w1 v) ∨
  (Region.wanted o (yielded ops a.tmps) = false ∧ v = undef)

def deps (md : Region.Mode) (ops : Array Oper) (i : Nat) : List Nat :=
  match ops[i]? with
  | some o => (o.after.toList.filter (Region.binds md)).map (·.on)
  | none => []
def clos (md : Region.Mode) (ops : Array Oper) : Nat → List Nat → List Nat
  | 0, s => s
  | k + 1, s => clos md ops k (s ++ s.flatMap (deps md ops)).eraseDups
def Closed (md : Region.Mode) (ops : Array Oper) (listed : Array Bool) : Prop := ∀ j, listed.getD j false = true → ∀ k ∈ deps md ops j, listed.getD k false = true
def closedB (md : Region.Mode) (ops : Array Oper) (listed : Array Bool) : Bool :=
  (List.range listed.size).all fun j => !listed.getD j false || (deps md ops j).all fun k => listed.getD k false
theorem closed_of {md : Region.Mode} {ops : Array Oper} {listed : Array Bool} (h : closedB md ops listed = true) : Closed md ops listed := by
  intro j hj k hk
  have hlt : j < listed.size := by
    rcases Nat.lt_or_ge j listed.size with h' | h'
    · exact h'
    · simp [h'] at hj
  have := List.all_eq_true.1 h j (List.mem_range.2 hlt)
  rw [hj, Bool.not_true, Bool.false_or] at this
  exact List.all_eq_true.1 this k hk
theorem clos_listed {md : Region.Mode} {ops : Array Oper} {listed : Array Bool} (hc : Closed md ops listed) : ∀ (n : Nat) (s : List Nat), (∀ j ∈ s, listed.getD j false = true) → ∀ j ∈ clos md ops n s, listed.getD j false = true
  | 0, s, h => h
  | n + 1, s, h => clos_listed hc n _ fun j hj => by
    rw [List.mem_eraseDups, List.mem_append] at hj
    rcases hj with hj | hj
    · exact h j hj
    · obtain ⟨i, hi, hk⟩ := List.mem_flatMap.1 hj
      exact hc i (h i hi) j hk
def lastB (md : Region.Mode) (ops : Array Oper) : Option Nat → Bool
  | none => true
  | some l => (List.range ops.size).all fun j => j == l || (clos md ops 10 (deps md ops l)).contains j
theorem mem_deps {md : Region.Mode} {ops : Array Oper} {listed : Array Bool} {i : Nat} (h : i ∈ Region.ready md ops listed) : ∀ k ∈ deps md ops i, listed.getD k false = true := by
  obtain ⟨_, o, ho, hall⟩ := mem_ready.1 h
  intro k hk
  unfold deps at hk
  rw [ho] at hk
  obtain ⟨e, he, rfl⟩ := List.mem_map.1 hk
  rw [List.mem_filter] at he
  exact hall e (by simpa using he.1) he.2
theorem closed_set {md : Region.Mode} {ops : Array Oper} {listed : Array Bool} {i : Nat} (hc : Closed md ops listed) (h : i ∈ Region.ready md ops listed) : Closed md ops (listed.setIfInBounds i true) := by
  intro j hj k hk
  refine getD_set_true ?_
  by_cases e : i = j
  · subst e; exact mem_deps h k hk
  · rw [getD_set_ne false e] at hj; exact hc j hj k hk
theorem getD_two {listed : Array Bool} {i : Nat} (h : listed.getD i false = true) : listed.getD i true = true := by
  rcases Nat.lt_or_ge i listed.size with h' | h'
  · simpa [h'] using h
  · simp [h'] at h
theorem last_of {md : Region.Mode} {ops : Array Oper} {ℓ : Option Nat} (h : lastB md ops ℓ = true) {l : Nat} (hl : ℓ = some l) {listed : Array Bool} (hc : Closed md ops listed) (hr : l ∈ Region.ready md ops listed) {k : Nat} (hk : k < ops.size) (hne : k ≠ l) : listed.getD k true = true := by
  subst hl
  have := List.all_eq_true.1 h k (List.mem_range.2 hk)
  simp only [Bool.or_eq_true, beq_iff_eq, hne, false_or, List.contains_iff_mem] at this
  exact getD_two (clos_listed hc 10 _ (mem_deps hr) k this)

section
variable {P : Program} {T : World → World → Prop} {md : Region.Mode} {ops : Array Oper} {Q : Exit → Act → World → Prop} {ℓ : Option Nat}

theorem YieldsT.mono (hT : Pre T) {o : Oper} {v : Value} {a : Act} {w w1 : World} (h : YieldsT P T ops o v a w) (g : T w w1) : YieldsT P T ops o v a w1 :=
  h.imp (fun ⟨hw, hv⟩ => ⟨hw, fun w2 g2 => hv w2 (hT.trans g g2)⟩) id
theorem YieldsT.same {o : Oper} {v : Value} {a a' : Act} {w : World} (h : YieldsT P T ops o v a w) (he : execOp a'.eval o = execOp a.eval o)
    (hw : Region.wanted o (yielded ops a'.tmps) = Region.wanted o (yielded ops a.tmps)) : YieldsT P T ops o v a' w := by
  unfold YieldsT at *
  rw [he, hw]; exact h
theorem YieldsT.op (hT : Pre T) {i : Nat} {o : Oper} {v : Value} {a : Act} {w : World} (hi : ops[i]? = some o) (hy : YieldsT P T ops o v a w)
    {K : Act → World → Prop} (h : ∀ w1, T w w1 → K (a.put o.dst v) w1) : wpOp P ops Q i K a w := by
  unfold wpOp
  simp only [hi]
  rcases hy with ⟨hw, hv⟩ | ⟨hw, rfl⟩
  · simp only [hw, if_true]
    refine .inl ?_
    unfold Oper.wp
    rcases hv w (hT.refl w) with ⟨w2, hr, g⟩ | ⟨f, args, w2, hr, g, hc⟩
    · rw [hr]; exact h w2 g
    · rw [hr]
      exact Calls.mono hc fun e w' ⟨he, g'⟩ => by subst he; exact h w' (hT.trans g g')
  · simp only [hw, Bool.false_eq_true, if_false]
    exact h w (hT.refl w)

def wpX (P : Program) (T : World → World → Prop) (md : Region.Mode) (ops : Array Oper) (Q : Exit → Act → World → Prop) (ℓ : Option Nat) : Nat → Array Bool → Act → World → Prop
  | 0, listed, a, w => Region.ready md ops listed = [] ∧ ∀ w1, T w w1 → Q .normal a w1
  | fuel + 1, listed, a, w => ∀ w1, T w w1 → (Region.ready md ops listed = [] → Q .normal a w1) ∧
    ∀ i ∈ Region.ready md ops listed, wpOp P ops Q i (fun a' w' => (ℓ = some i ∨ T w1 w') ∧ wpX P T md ops Q ℓ fuel (listed.setIfInBounds i true) a' w') a w1

theorem wpX.any (hT : Pre T) : ∀ (fuel : Nat) (listed : Array Bool) (a : Act) (w : World), wpX P T md ops Q ℓ fuel listed a w → wpAny P md ops Q fuel listed a w
  | 0, _, _, w, h => ⟨h.1, h.2 w (hT.refl w)⟩
  | fuel + 1, _, _, w, h => ⟨(h w (hT.refl w)).1, fun i hi => wpOp_mono (fun a' w' h' => wpX.any hT fuel _ a' w' h'.2) ((h w (hT.refl w)).2 i hi)⟩
theorem wpX.mono (hT : Pre T) {listed : Array Bool} {a : Act} {w w1 : World} : ∀ {fuel : Nat}, wpX P T md ops Q ℓ fuel listed a w → T w w1 → wpX P T md ops Q ℓ fuel listed a w1
  | 0, h, g => ⟨h.1, fun w2 g2 => h.2 w2 (hT.trans g g2)⟩
  | _ + 1, h, g => fun w2 g2 => h w2 (hT.trans g g2)

/-- What holds of a region, whatever has been done of it. -/
structure Okay (P : Program) (T : World → World → Prop) (md : Region.Mode) (ops : Array Oper) (Q : Exit → Act → World → Prop) (ℓ : Option Nat) : Prop where
  pre : Pre T
  sel : Region.noSelect ops = true
  pan : ∀ c a d v w, Q (.panic c) (a.put d v) w → Q (.panic c) a w
  last : lastB md ops ℓ = true

theorem take (ok : Okay P T md ops Q ℓ) {i : Nat} {oi : Oper} {v : Value} (hi : ops[i]? = some oi) (hil : ℓ ≠ some i) :
    ∀ (fuel : Nat) (listed : Array Bool) (a : Act) (w : World), Closed md ops listed →
      (∀ j oj, ops[j]? = some oj → j ≠ i → listed.getD j true = false → (∀ e ∈ oj.after, Region.binds md e = true → e.on ≠ i) → oi.apart ops oj = true) →
      i ∈ Region.ready md ops listed → YieldsT P T ops oi v a w →
      wpX P T md ops Q ℓ fuel (listed.setIfInBounds i true) (a.put oi.dst v) w → wpX P T md ops Q ℓ (fuel + 1) listed a w := by
  have hT := ok.pre
  intro fuel
  induction fuel with
  | zero =>
    intro listed a w hcl hfree hr hy H w1 g
    refine ⟨fun h => absurd hr (by rw [h]; simp), fun j hj => ?_⟩
    by_cases hji : j = i
    · subst hji
      exact (hy.mono hT g).op hT hi fun w2 g2 => ⟨.inr g2, H.mono hT (hT.trans g g2)⟩
    · have h1 := ready_mono hj hji
      rw [H.1] at h1; cases h1
  | succ fuel ih =>
    intro listed a w hcl hfree hr hy H w1 g
    refine ⟨fun h => absurd hr (by rw [h]; simp), fun j hj => ?_⟩
    by_cases hji : j = i
    · subst hji
      exact (hy.mono hT g).op hT hi fun w2 g2 => ⟨.inr g2, H.mono hT (hT.trans g g2)⟩
    · have h1 := (H w1 g).2 j (ready_mono hj hji)
      obtain ⟨hjun, oj, hoj, hall⟩ := mem_ready.1 hj
      have hnot : ∀ e ∈ oj.after, Region.binds md e = true → e.on ≠ i := fun e he hb heq => by
        have h2 := hall e he hb
        have h0 := (mem_ready.1 hr).1
        rw [heq] at h2
        rw [getD_two h2] at h0; cases h0
      have hjl : ℓ ≠ some j := fun e => by
        have := last_of ok.last e hcl hj (k := i) (Array.getElem?_eq_some_iff.1 hi).1 (Ne.symm hji)
        rw [(mem_ready.1 hr).1] at this; cases this
      have h2 := Grow.commute hoj (hfree j oj hoj hji hjun hnot) (fun cs b => Region.noSelect_spec ok.sel i oi cs b hi) (fun cs b => Region.noSelect_spec ok.sel j oj cs b hoj) (fun c a w => ok.pan c a oi.dst v w) h1
      refine wpOp_mono (fun a' w' h3 => ?_) h2
      obtain ⟨⟨he, hw⟩, g3, h4⟩ := h3
      have g3 : T w1 w' := g3.resolve_left hjl
      refine ⟨.inr g3, ih (listed.setIfInBounds j true) a' w' (closed_set hcl hj) (fun k ok' hk hki hun hno => ?_) (ready_mono hr (Ne.symm hji)) (((hy.mono hT g).mono hT g3).same he hw) ?_⟩
      · refine hfree k ok' hk hki ?_ hno
        by_cases hjk : j = k
        · subst hjk; exact hjun
        · rw [getD_set_ne true hjk] at hun; exact hun
      · rw [Array.setIfInBounds_comm _ _ hji]; exact h4

/-- THE BEGINNING. -/
theorem start {id : Nat} {a : Act} {w : World} (hm : P.follows .mixedOrders = true) (ok : Okay P T .any ops Q ℓ)
    (h : wpX P T .any ops Q ℓ ops.size (Array.replicate ops.size false) a w) : (Code.region id ops true).wp P Q a w :=
  wp_region_any hm (wpX.any ok.pre _ _ _ _ (h.mono ok.pre (ok.pre.drawn w (w.drawn + 1))))

theorem start' {id : Nat} {a : Act} {w : World} (hm : P.follows .mixedOrders = true) (ok : Okay P T .any ops Q ℓ)
    (h : Okay P T .any ops Q ℓ → wpX P T .any ops Q ℓ ops.size (Array.replicate ops.size false) a w) : (Code.region id ops true).wp P Q a w := start hm ok (h ok)

def chk (md : Region.Mode) (ops : Array Oper) (listed : Array Bool) (ℓ : Option Nat) (i : Nat) : Bool :=
  Region.free md ops listed i && (Region.ready md ops listed).contains i && closedB md ops listed && (ℓ != some i)
theorem chk_take (ok : Okay P T md ops Q ℓ) {i : Nat} {oi : Oper} {v : Value} {fuel : Nat} {listed : Array Bool} {a : Act} {w : World} (hi : ops[i]? = some oi) (hc : chk md ops listed ℓ i = true)
    (hy : YieldsT P T ops oi v a w) (h : wpX P T md ops Q ℓ fuel (listed.setIfInBounds i true) (a.put oi.dst v) w) : wpX P T md ops Q ℓ (fuel + 1) listed a w := by
  simp only [chk, Bool.and_eq_true] at hc
  exact take ok hi (by simpa using hc.2) fuel listed a w (closed_of hc.1.2) (Region.free_spec hi hc.1.1.1) (by simpa using hc.1.1.2) hy h

theorem at_drop {ops : Array Oper} {i : Nat} {o : Oper} {rest : List Oper} (h : ops.toList.drop i = o :: rest) : ops[i]? = some o := by
  have h1 : (ops.toList.drop i)[0]? = some o := by rw [h]; rfl
  rw [List.getElem?_drop] at h1
  simpa using h1
theorem value (ok : Okay P T md ops Q ℓ) (i : Nat) {o : Oper} {rest : List Oper} {fuel : Nat} {listed : Array Bool} {a : Act} {w : World} (v : Value) (hi : ops.toList.drop i = o :: rest) (hc : chk md ops listed ℓ i = true)
    (hw : Region.wanted o (yielded ops a.tmps) = true) (hv : ∀ w1, T w w1 → (execOp a.eval o).run P w1 = .ok (.value v) w1)
    (h : wpX P T md ops Q ℓ fuel (listed.setIfInBounds i true) (a.put o.dst v) w) : wpX P T md ops Q ℓ (fuel + 1) listed a w :=
  chk_take ok (at_drop hi) hc (.inl ⟨hw, fun w1 g => .inl ⟨w1, hv w1 g, ok.pre.refl w1⟩⟩) h
theorem idle (ok : Okay P T md ops Q ℓ) (i : Nat) {o : Oper} {rest : List Oper} {fuel : Nat} {listed : Array Bool} {a : Act} {w : World} (hi : ops.toList.drop i = o :: rest) (hc : chk md ops listed ℓ i = true)
    (hw : Region.wanted o (yielded ops a.tmps) = false) (h : wpX P T md ops Q ℓ fuel (listed.setIfInBounds i true) (a.put o.dst undef) w) : wpX P T md ops Q ℓ (fuel + 1) listed a w :=
  chk_take ok (at_drop hi) hc (.inr ⟨hw, rfl⟩) h
theorem call (ok : Okay P T md ops Q ℓ) (i : Nat) {o : Oper} {rest : List Oper} {fuel : Nat} {listed : Array Bool} {a : Act} {w : World} (v : Value) (f : FuncId) (args : Array Value) (hi : ops.toList.drop i = o :: rest) (hc : chk md ops listed ℓ i = true)
    (hw : Region.wanted o (yielded ops a.tmps) = true) (hv : ∀ w1, (execOp a.eval o).run P w1 = .ok (.enter f args) w1)
    (hcall : ∀ w1, T w w1 → Calls P f args w1 fun e w' => e = .returned v ∧ T w1 w')
    (h : wpX P T md ops Q ℓ fuel (listed.setIfInBounds i true) (a.put o.dst v) w) : wpX P T md ops Q ℓ (fuel + 1) listed a w :=
  chk_take ok (at_drop hi) hc (.inl ⟨hw, fun w1 g => .inr ⟨f, args, w1, hv w1, ok.pre.refl w1, hcall w1 g⟩⟩) h
/-- The operations that are left to choose from, each as it runs. -/
theorem all (rs : List Nat) {fuel : Nat} {listed : Array Bool} {a : Act} {w : World} (hr : (Region.ready md ops listed == rs) = true) (hne : rs.isEmpty = false)
    (h : ∀ w1, T w w1 → ∀ i ∈ rs, wpOp P ops Q i (fun a' w' => (ℓ = some i ∨ T w1 w') ∧ wpX P T md ops Q ℓ fuel (listed.setIfInBounds i true) a' w') a w1) : wpX P T md ops Q ℓ (fuel + 1) listed a w := by
  have hr' := eq_of_beq hr
  intro w1 g
  rw [hr']
  exact ⟨(fun e => by subst e; cases hne), h w1 g⟩
def After (r : Result Next) (K : Value → World → Prop) : Prop :=
  match r with
  | .ok (.value v) w => K v w
  | .ok .skip w => K undef w
  | _ => False
theorem after_value (v : Value) (w : World) (K : Value → World → Prop) : After (.ok (.value v) w) K = K v w := rfl
theorem after_skip (w : World) (K : Value → World → Prop) : After (.ok .skip w) K = K undef w := rfl
theorem runs {i : Nat} {o : Oper} {rest : List Oper} {a : Act} {w : World} {K : Act → World → Prop} (hi : ops.toList.drop i = o :: rest) (hw : Region.wanted o (yielded ops a.tmps) = true)
    (h : ∀ K' : Value → World → Prop, Hid (∀ v w2, K (a.put o.dst v) w2 → K' v w2) → After ((execOp a.eval o).run P w) K') : wpOp P ops Q i K a w := by
  have h1 := h (fun v w2 => K (a.put o.dst v) w2) (fun v w2 hk => hk)
  unfold wpOp
  simp only [at_drop hi, hw, if_true]
  refine .inl ?_
  unfold Oper.wp
  generalize (execOp a.eval o).run P w = r at h1 ⊢
  match r, h1 with
  | .ok (.value v) w2, h1 => exact h1
  | .ok .skip w2, h1 => exact h1
theorem enters {i : Nat} {o : Oper} {rest : List Oper} {a : Act} {w w2 : World} {K : Act → World → Prop} (f : FuncId) (args : Array Value) (hi : ops.toList.drop i = o :: rest) (hw : Region.wanted o (yielded ops a.tmps) = true) (hv : (execOp a.eval o).run P w = .ok (.enter f args) w2)
    (h : Calls P f args w2 fun e w' => ∃ v, e = .returned v ∧ K (a.put o.dst v) w') : wpOp P ops Q i K a w := by
  unfold wpOp
  simp only [at_drop hi, hw, if_true]
  exact .inl (by unfold Oper.wp; rw [hv]; exact Calls.mono h fun e w' ⟨v, he, hk⟩ => by subst he; exact hk)
theorem done {listed : Array Bool} {a : Act} {w : World} (hr : (Region.ready md ops listed).isEmpty = true) (h : ∀ w1, T w w1 → Q .normal a w1) : wpX P T md ops Q ℓ 0 listed a w :=
  ⟨by simpa using hr, h⟩
end
end Go.Evo

/- Regions whose order is open, where each operation may only read and make memory: one order stands for all. No program is named here. -/
import Derived.OrdersHeld
import Derived.Below
import Derived.WalkKit
import Derived.KernelRfl
namespace Go.Grow
set_option linter.unusedVariables false
open Go.RowKit

/-- w1 is w with more memory behind it. -/
abbrev G (w w1 : World) : Prop := Below w.heap.size w w1
theorem G.refl (w : World) : G w w := Below.refl _ _
theorem G.trans {a b c : World} (h : G a b) (k : G b c) : G a c := Below.trans h (Below.mono k h.size)
theorem G.drawn {w : World} (n : Nat) : G w { w with drawn := n } := ⟨rfl, rfl, rfl, Nat.le_refl _, fun _ _ => rfl⟩
theorem G.alloc {a w : World} (h : G a w) (o : Obj) : G a (w.alloc o) := Below.alloc h h.size o

section
variable {P : Program} {ops : Array Oper} {Q : Exit → Act → World → Prop} {md : Region.Mode}

/-- The computation s yields v in world w, and leaves a grown world. -/
def RunsG (P : Program) (s : Sem Next) (w : World) (v : Value) : Prop :=
  (∃ w2, s.run P w = .ok (.value v) w2 ∧ G w w2) ∨
  ∃ f args w2, s.run P w = .ok (.enter f args) w2 ∧ G w w2 ∧ Calls P f args w2 fun e w' => e = .returned v ∧ G w2 w'

/-- Operation o yields v in every world that has grown out of w. -/
def YieldsG (P : Program) (ops : Array Oper) (o : Oper) (v : Value) (a : Act) (w : World) : Prop :=
  (Region.wanted o (yielded ops a.tmps) = true ∧ ∀ w1, G w w1 → RunsG P (execOp a.eval o) w1 v) ∨
  (Region.wanted o (yielded ops a.tmps) = false ∧ v = undef)

theorem YieldsG.mono {o : Oper} {v : Value} {a : Act} {w w1 : World} (h : YieldsG P ops o v a w) (g : G w w1) : YieldsG P ops o v a w1 :=
  h.imp (fun ⟨hw, hv⟩ => ⟨hw, fun w2 g2 => hv w2 (g.trans g2)⟩) id

theorem YieldsG.same {o : Oper} {v : Value} {a a' : Act} {w : World} (h : YieldsG P ops o v a w) (he : execOp a'.eval o = execOp a.eval o)
    (hw : Region.wanted o (yielded ops a'.tmps) = Region.wanted o (yielded ops a.tmps)) : YieldsG P ops o v a' w := by
  unfold YieldsG at *
  rw [he, hw]; exact h

theorem YieldsG.op {i : Nat} {o : Oper} {v : Value} {a : Act} {w : World} (hi : ops[i]? = some o) (hy : YieldsG P ops o v a w)
    {K : Act → World → Prop} (h : ∀ w1, G w w1 → K (a.put o.dst v) w1) : wpOp P ops Q i K a w := by
  unfold wpOp
  simp only [hi]
  rcases hy with ⟨hw, hv⟩ | ⟨hw, rfl⟩
  · simp only [hw, if_true]
    refine .inl ?_
    unfold Oper.wp
    rcases hv w (G.refl w) with ⟨w2, hr, g⟩ | ⟨f, args, w2, hr, g, hc⟩
    · rw [hr]; exact h w2 g
    · rw [hr]
      exact Calls.mono hc fun e w' ⟨he, g'⟩ => by subst he; exact h w' (g.trans g')
  · simp only [hw, Bool.false_eq_true, if_false]
    exact h w (G.refl w)

/-- What oj does is the same with oi's value laid ahead of it, and oi does the same behind it. -/
theorem commute {j : Nat} {oi oj : Oper} {v : Value} (hj : ops[j]? = some oj) (hap : oi.apart ops oj = true)
    (hsi : ∀ cs b, oi.op ≠ .select cs b) (hsj : ∀ cs b, oj.op ≠ .select cs b)
    (hQ : ∀ c a w, Q (.panic c) (a.put oi.dst v) w → Q (.panic c) a w) {K : Act → World → Prop} {a : Act} {w : World}
    (h : wpOp P ops Q j K (a.put oi.dst v) w) :
    wpOp P ops Q j (fun a' w' => (execOp a'.eval oi = execOp a.eval oi ∧ Region.wanted oi (yielded ops a'.tmps) = Region.wanted oi (yielded ops a.tmps)) ∧ K (a'.put oi.dst v) w') a w := by
  obtain ⟨h1, h2, h3⟩ := Oper.apart_spec hap
  have keep : ∀ (b : Act) u, execOp (b.put oj.dst u).eval oi = execOp b.eval oi ∧ Region.wanted oi (yielded ops (b.put oj.dst u).tmps) = Region.wanted oi (yielded ops b.tmps) :=
    fun b u => ⟨execOp_put oi hsi b oj.dst u h3, wanted_put oi b oj.dst u h3⟩
  unfold wpOp at h ⊢
  simp only [hj] at h ⊢
  rw [wanted_put oj a oi.dst v h1] at h
  by_cases hw : Region.wanted oj (yielded ops a.tmps) = true
  · simp only [hw, if_true] at h ⊢
    rcases h with h | ⟨hasks, hlets⟩
    · refine .inl ?_
      unfold Oper.wp at h ⊢
      rw [execOp_put oj hsj a oi.dst v h1] at h
      cases hr : (execOp a.eval oj).run P w with
      | ok n w' =>
        rw [hr] at h
        cases n <;> simp only [Oper.upon] at h ⊢
        case value u => exact ⟨keep a u, by rw [← Act.put_comm a v u h2]; exact h⟩
        case skip => exact ⟨keep a undef, by rw [← Act.put_comm a v undef h2]; exact h⟩
        case defer d =>
          refine ⟨keep { a with defers := d :: a.defers } undef, ?_⟩
          rw [← Act.put_comm _ v undef h2, ← Act.put_defers]
          exact h
        case enter f args =>
          refine Calls.mono h fun e w'' he => ?_
          cases e with
          | returned u => exact ⟨keep a u, by rw [← Act.put_comm a v u h2]; exact he⟩
          | panicked c => exact hQ _ _ _ he
          | outgrown => exact he
        case row row args => exact Rows.mono h fun u w'' he => ⟨keep a u, by rw [← Act.put_comm a v u h2]; exact he⟩
      | halt x w' =>
        rw [hr] at h
        cases x <;> simp only [Oper.upon] at h ⊢
        case panic u => exact hQ _ _ _ h
    · exact .inr ⟨by unfold Oper.asks at hasks ⊢; rw [execOp_put oj hsj a oi.dst v h1] at hasks; exact hasks, hlets⟩
  · simp only [hw] at h ⊢
    exact ⟨keep a undef, by rw [← Act.put_comm a v undef h2]; exact h⟩

/-- Whatever order is picked from here on, in whatever world has grown out of this one. -/
def wpAnyG (P : Program) (md : Region.Mode) (ops : Array Oper) (Q : Exit → Act → World → Prop) : Nat → Array Bool → Act → World → Prop
  | 0, listed, a, w => Region.ready md ops listed = [] ∧ ∀ w1, G w w1 → Q .normal a w1
  | fuel + 1, listed, a, w => ∀ w1, G w w1 → (Region.ready md ops listed = [] → Q .normal a w1) ∧
    ∀ i ∈ Region.ready md ops listed, wpOp P ops Q i (fun a' w' => G w1 w' ∧ wpAnyG P md ops Q fuel (listed.setIfInBounds i true) a' w') a w1

theorem wpAnyG.any : ∀ (fuel : Nat) (listed : Array Bool) (a : Act) (w : World), wpAnyG P md ops Q fuel listed a w → wpAny P md ops Q fuel listed a w
  | 0, _, _, w, h => ⟨h.1, h.2 w (G.refl w)⟩
  | fuel + 1, _, _, w, h => ⟨(h w (G.refl w)).1, fun i hi => wpOp_mono (fun a' w' h' => wpAnyG.any fuel _ a' w' h'.2) ((h w (G.refl w)).2 i hi)⟩
theorem wpAnyG.mono {listed : Array Bool} {a : Act} {w w1 : World} : ∀ {fuel : Nat}, wpAnyG P md ops Q fuel listed a w → G w w1 → wpAnyG P md ops Q fuel listed a w1
  | 0, h, g => ⟨h.1, fun w2 g2 => h.2 w2 (g.trans g2)⟩
  | _ + 1, h, g => fun w2 g2 => h w2 (g.trans g2)

theorem take {i : Nat} {oi : Oper} {v : Value} (hi : ops[i]? = some oi) (hsel : Region.noSelect ops = true)
    (hQ : ∀ c a w, Q (.panic c) (a.put oi.dst v) w → Q (.panic c) a w) :
    ∀ (fuel : Nat) (listed : Array Bool) (a : Act) (w : World),
      (∀ j oj, ops[j]? = some oj → j ≠ i → listed.getD j true = false → (∀ e ∈ oj.after, Region.binds md e = true → e.on ≠ i) → oi.apart ops oj = true) →
      i ∈ Region.ready md ops listed → YieldsG P ops oi v a w →
      wpAnyG P md ops Q fuel (listed.setIfInBounds i true) (a.put oi.dst v) w → wpAnyG P md ops Q (fuel + 1) listed a w := by
  intro fuel
  induction fuel with
  | zero =>
    intro listed a w hfree hr hy H w1 g
    refine ⟨fun h => absurd hr (by rw [h]; simp), fun j hj => ?_⟩
    by_cases hji : j = i
    · subst hji
      exact (hy.mono g).op hi fun w2 g2 => ⟨g2, H.mono (g.trans g2)⟩
    · have h1 := ready_mono hj hji
      rw [H.1] at h1; cases h1
  | succ fuel ih =>
    intro listed a w hfree hr hy H w1 g
    refine ⟨fun h => absurd hr (by rw [h]; simp), fun j hj => ?_⟩
    by_cases hji : j = i
    · subst hji
      exact (hy.mono g).op hi fun w2 g2 => ⟨g2, H.mono (g.trans g2)⟩
    · have h1 := (H w1 g).2 j (ready_mono hj hji)
      obtain ⟨hjun, oj, hoj, hall⟩ := mem_ready.1 hj
      have hnot : ∀ e ∈ oj.after, Region.binds md e = true → e.on ≠ i := fun e he hb heq => by
        have h2 := hall e he hb
        have h0 := (mem_ready.1 hr).1
        rw [heq] at h2
        rcases Nat.lt_or_ge i listed.size with h' | h'
        · simp [h'] at h0 h2; rw [h0] at h2; cases h2
        · simp [Array.getElem?_eq_none h'] at h2
      have h2 := commute hoj (hfree j oj hoj hji hjun hnot) (fun cs b => Region.noSelect_spec hsel i oi cs b hi) (fun cs b => Region.noSelect_spec hsel j oj cs b hoj) hQ h1
      refine wpOp_mono (fun a' w' h3 => ?_) h2
      obtain ⟨⟨he, hw⟩, g3, h4⟩ := h3
      refine ⟨g3, ih (listed.setIfInBounds j true) a' w' (fun k ok hk hki hun hno => ?_) (ready_mono hr (Ne.symm hji)) (((hy.mono g).mono g3).same he hw) ?_⟩
      · refine hfree k ok hk hki ?_ hno
        by_cases hjk : j = k
        · subst hjk; exact hjun
        · rw [getD_set_ne true hjk] at hun; exact hun
      · rw [Array.setIfInBounds_comm _ _ hji]; exact h4

/-- May the operations be taken in this order, one by one? -/
def okOrder (md : Region.Mode) (ops : Array Oper) : List Nat → Array Bool → Bool
  | [], listed => (Region.ready md ops listed).isEmpty
  | i :: rest, listed => Region.free md ops listed i && (Region.ready md ops listed).contains i && okOrder md ops rest (listed.setIfInBounds i true)

/-- The region in one order, the world closed under growth. -/
def seqG (P : Program) (ops : Array Oper) (Q : Exit → Act → World → Prop) : List Nat → Act → World → Prop
  | [], a, w => ∀ w1, G w w1 → Q .normal a w1
  | i :: rest, a, w => ∃ o v, ops[i]? = some o ∧ YieldsG P ops o v a w ∧ seqG P ops Q rest (a.put o.dst v) w

theorem anyG_of_seqG (hsel : Region.noSelect ops = true) (hQ : ∀ c a d v w, Q (.panic c) (a.put d v) w → Q (.panic c) a w) :
    ∀ (ord : List Nat) (listed : Array Bool) (a : Act) (w : World), okOrder md ops ord listed = true → seqG P ops Q ord a w → wpAnyG P md ops Q ord.length listed a w
  | [], listed, a, w, ho, h => ⟨by simpa [okOrder] using ho, h⟩
  | i :: rest, listed, a, w, ho, ⟨o, v, hi, hy, h⟩ => by
    simp only [okOrder, Bool.and_eq_true] at ho
    exact take hi hsel (fun c a w => hQ c a o.dst v w) rest.length listed a w (Region.free_spec hi ho.1.1) (by simpa using ho.1.2) hy
      (anyG_of_seqG hsel hQ rest _ _ w ho.2 h)

/-- THE BEGINNING: a region that draws its order, walked in one. -/
theorem region_seqG {id : Nat} {a : Act} {w : World} (ord : List Nat) (hm : P.follows .mixedOrders = true) (hsel : Region.noSelect ops = true)
    (hQ : ∀ c a d v w, Q (.panic c) (a.put d v) w → Q (.panic c) a w) (hl : ord.length = ops.size)
    (ho : okOrder .any ops ord (Array.replicate ops.size false) = true) (h : seqG P ops Q ord a w) : (Code.region id ops true).wp P Q a w := by
  have h1 := (anyG_of_seqG hsel hQ ord _ a w ho h).mono (G.drawn (w.drawn + 1))
  rw [hl] at h1
  exact wp_region_any hm (wpAnyG.any _ _ _ _ h1)

theorem seqG.value {i : Nat} {rest : List Nat} {a : Act} {w : World} {o : Oper} (v : Value) (hi : ops[i]? = some o) (hw : Region.wanted o (yielded ops a.tmps) = true)
    (hv : ∀ w1, G w w1 → (execOp a.eval o).run P w1 = .ok (.value v) w1) (h : seqG P ops Q rest (a.put o.dst v) w) : seqG P ops Q (i :: rest) a w :=
  ⟨o, v, hi, .inl ⟨hw, fun w1 g => .inl ⟨w1, hv w1 g, G.refl w1⟩⟩, h⟩
theorem seqG.idle {i : Nat} {rest : List Nat} {a : Act} {w : World} {o : Oper} (hi : ops[i]? = some o) (hw : Region.wanted o (yielded ops a.tmps) = false)
    (h : seqG P ops Q rest (a.put o.dst undef) w) : seqG P ops Q (i :: rest) a w :=
  ⟨o, undef, hi, .inr ⟨hw, rfl⟩, h⟩
theorem seqG.call {i : Nat} {rest : List Nat} {a : Act} {w : World} {o : Oper} (v : Value) (f : FuncId) (args : Array Value) (hi : ops[i]? = some o) (hw : Region.wanted o (yielded ops a.tmps) = true)
    (hv : ∀ w1, (execOp a.eval o).run P w1 = .ok (.enter f args) w1) (hc : ∀ w1, G w w1 → Calls P f args w1 fun e w' => e = .returned v ∧ G w1 w')
    (h : seqG P ops Q rest (a.put o.dst v) w) : seqG P ops Q (i :: rest) a w :=
  ⟨o, v, hi, .inl ⟨hw, fun w1 g => .inr ⟨f, args, w1, hv w1, G.refl w1, hc w1 g⟩⟩, h⟩
theorem seqG.done {a : Act} {w : World} (h : ∀ w1, G w w1 → Q .normal a w1) : seqG P ops Q [] a w := h

/-- The same, the operations taken in the text's order, off the list itself. -/
def seqT (P : Program) (ops : Array Oper) (Q : Exit → Act → World → Prop) : List Oper → Act → World → Prop
  | [], a, w => ∀ w1, G w w1 → Q .normal a w1
  | o :: rest, a, w => ∃ v, YieldsG P ops o v a w ∧ seqT P ops Q rest (a.put o.dst v) w
theorem seqG_of_seqT : ∀ (l : List Oper) (k : Nat) (a : Act) (w : World), (∀ j, l[j]? = ops[k + j]?) → seqT P ops Q l a w → seqG P ops Q (List.range' k l.length) a w
  | [], _, _, _, _, h => h
  | o :: rest, k, a, w, hl, ⟨v, hy, h⟩ => by
    refine ⟨o, v, (by simpa using (hl 0).symm), hy, ?_⟩
    exact seqG_of_seqT rest (k + 1) _ w (fun j => by have := hl (j + 1); simp only [List.getElem?_cons_succ] at this; rw [this]; congr 1; omega) h
theorem region_seqT {id : Nat} {l : List Oper} {a : Act} {w : World} (hm : P.follows .mixedOrders = true) (hsel : Region.noSelect l.toArray = true)
    (hQ : ∀ c a d v w, Q (.panic c) (a.put d v) w → Q (.panic c) a w)
    (ho : okOrder .any l.toArray (List.range' 0 l.length) (Array.replicate l.length false) = true) (h : seqT P l.toArray Q l a w) : (Code.region id l.toArray true).wp P Q a w :=
  region_seqG (List.range' 0 l.length) hm hsel hQ (by simp) (by simpa using ho) (seqG_of_seqT l 0 a w (fun j => by simp) h)
theorem seqT.value {rest : List Oper} {a : Act} {w : World} {o : Oper} (v : Value) (hw : Region.wanted o (yielded ops a.tmps) = true)
    (hv : ∀ w1, G w w1 → (execOp a.eval o).run P w1 = .ok (.value v) w1) (h : seqT P ops Q rest (a.put o.dst v) w) : seqT P ops Q (o :: rest) a w :=
  ⟨v, .inl ⟨hw, fun w1 g => .inl ⟨w1, hv w1 g, G.refl w1⟩⟩, h⟩
theorem seqT.idle {rest : List Oper} {a : Act} {w : World} {o : Oper} (hw : Region.wanted o (yielded ops a.tmps) = false)
    (h : seqT P ops Q rest (a.put o.dst undef) w) : seqT P ops Q (o :: rest) a w :=
  ⟨undef, .inr ⟨hw, rfl⟩, h⟩
theorem seqT.call {rest : List Oper} {a : Act} {w : World} {o : Oper} (v : Value) (f : FuncId) (args : Array Value) (hw : Region.wanted o (yielded ops a.tmps) = true)
    (hv : ∀ w1, (execOp a.eval o).run P w1 = .ok (.enter f args) w1) (hc : ∀ w1, G w w1 → Calls P f args w1 fun e w' => e = .returned v ∧ G w1 w')
    (h : seqT P ops Q rest (a.put o.dst v) w) : seqT P ops Q (o :: rest) a w :=
  ⟨v, .inl ⟨hw, fun w1 g => .inr ⟨f, args, w1, hv w1, G.refl w1, hc w1 g⟩⟩, h⟩
theorem seqT.done {a : Act} {w : World} (h : ∀ w1, G w w1 → Q .normal a w1) : seqT P ops Q [] a w := h
end
theorem run_add_str {P : Program} (t : TypeId) (x y : ByteArray) (h : x.size + y.size ≤ 4611686018427387904) (w : World) :
    (binOp .add t (.string x) (.string y)).run P w = .ok (.string (x ++ y)) w := by
  have h1 : ¬ ((x.size + y.size : Nat) : Int) > IntKind.i64.max := by
    have : IntKind.i64.max = 9223372036854775807 := by decide
    rw [this]; omega
  simp only [binOp, Op.stringOp, if_neg h1]
  rfl
end Go.Grow

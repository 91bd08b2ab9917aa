/- My own texts Parts, Rest, Empty, Check, laid in one file. -/
import Derived.Test.YtnkekdmikopdgaaGreatZ9
import Derived.RangeFuncNested
import Derived.RangeFuncBound
import Derived.Shelf.Abstract
import Derived.Shelf.RegionOpen
import Derived.OwnWalkIn
import Derived.TacticsInMore
import Derived.LoopNIn
import Derived.LoopIn
import Derived.Test.YtnkekdmikopdgaaGreatZ10
import Derived.Test.YtnkekdmikopdgaaGreatZ15

/- What event's parts yields. -/
namespace Go.Proofs.YtnkekdmikopdgaaGreat
set_option maxRecDepth 100000
set_option linter.unusedVariables false
set_option linter.unusedSimpArgs false
set_option linter.unnecessarySimpa false
open Go.RowKit
attribute [local go_sem] Oper.semAt_some

theorem parts_new (k : Int) (w : World) : Calls Tryz.prog 32 #[.int .i64 k] w fun e w' => ∃ b, e = .returned (.func (.func 55) #[] #[ptr b]) ∧ w.heap.size ≤ b ∧ Blk w' b #[.int .i64 k] 3 ∧ Grow.G w w' := by
 go_enter Tryz.func32, Tryz.ntmps32
 go_wp2
 go_ret
 refine ⟨w.heap.size, rfl, Nat.le_refl _, Blk.new w _ _, ?_⟩
 (repeat (first | with_reducible exact Grow.G.refl _ | with_reducible exact Below.refl _ _ | with_reducible refine Grow.G.alloc ?_ _ | with_reducible refine Grow.G.trans ?_ hb1 | ((with_reducible refine Below.setCell ?_ ?_ _); rotate_left; (focus (first | omega | (simp; done) | (simp; omega)))) | with_reducible assumption | with_reducible refine Grow.G.trans ?_ (by with_reducible assumption)))
def PartOk (k : Int) (pre : List Value) (x : Value) (W : World) : Prop := ∃ p, (PT.specs k)[pre.length]? = some p ∧ IsPart W p x
def Rounds (l : Nat) (Kp : World → World → Prop) (k : Int) (J Jx : List Value → World → Prop) : Prop :=
 ∀ pre x W1, J pre W1 → PartOk k pre x W1 → YieldAt Fence.wide 0 Tryz.prog l #[x] W1 fun e W' => (e = .returned (.bool true) ∧ J (pre ++ [x]) W' ∧ Kp W1 W') ∨ (e = .returned (.bool false) ∧ Jx (pre ++ [x]) W')
set_option maxHeartbeats 4000000 in
theorem parts_1 (kb l : Nat) (W : World) (Kp : World → World → Prop) (J Jx : List Value → World → Prop) (hk : Blk W kb #[.int .i64 1] 3) (hJ : ∀ s A B, J s A → Grow.G A B → J s B) (hY : Rounds l Kp 1 J Jx) (h0 : J [] W) :
  CallsIn Fence.wide 0 Tryz.prog 55 #[.func (.yield l) #[] #[], ptr kb] W fun e W' => (∃ v, e = .returned v) ∧ ((∃ xs : List Value, xs.length = 2 ∧ J xs W') ∨ (∃ pre, Jx pre W')) := by
 refine callsIn_of_wp Tryz.func55 rfl trivial ?_
 simp only [Tryz.ntmps55, List.size_toArray, List.length_cons, List.length_nil, Nat.reduceAdd, Nat.reduceSub, Array.replicate_succ, Array.replicate_zero, List.push_toArray, List.append_toArray, List.nil_append, List.cons_append]
 have c0 := hk.cell 0
 simp at c0
 clear hk
 have hJH := Lib.hid hJ
 have hYH := Lib.hid hY
 clear hJ hY
 gi_wp2_with fail
 refine ⟨trivial, rfl, (callsIn_wide.2 (version_new _)).mono ?_⟩
 rintro e wa0 ⟨l0, lh0, rfl, hn0, ga0⟩
 gi_wp2_with fail
 refine ⟨trivial, rfl, (callsIn_wide.2 (hasint_new 57 _ _ _ _ _)).mono ?_⟩
 rintro e wb0 ⟨a0, b0, v0, rfl, hv0, gb0⟩
 have JJ0 := hJH.out _ _ _ h0 (ga0.trans gb0)
 obtain ⟨fn0, tmps0, assign0, body0, hy0, hR0⟩ := hYH.out [] v0 wb0 JJ0 ⟨.n 0 2147483647, rfl, a0, b0, l0, lh0, hv0, hn0.1.grow gb0, hn0.2.grow gb0⟩
 clear hn0 hv0 ga0 gb0
 gi_wp2_with fail
 refine ⟨rfl, hR0.mono ?_⟩
 rintro e wc0 (⟨rfl, hj0, -⟩ | ⟨rfl, hx0⟩)
 rotate_left
 ·
  clear hy0 hR0
  gi_wp2_with fail
  repeat ((first | (refine ⟨(trivial : Fence.wide.fn _), ?_⟩) | (refine ⟨fun _ h => (by cases h), ?_⟩)); gi_wp2_with fail)
  go_end0
  exact ⟨⟨_, rfl⟩, .inr ⟨_, hx0⟩⟩
 clear hy0 hR0
 gi_wp2_with fail
 refine ⟨trivial, rfl, (callsIn_wide.2 (config_new _)).mono ?_⟩
 rintro e wa1 ⟨rfl, ga1⟩
 gi_wp2_with fail
 refine ⟨trivial, rfl, (callsIn_wide.2 (hasConfig_new 60 _ _ _ _ _)).mono ?_⟩
 rintro e wb1 ⟨a1, b1, v1, rfl, hv1, gb1⟩
 have JJ1 := hJH.out _ _ _ hj0 (ga1.trans gb1)
 obtain ⟨fn1, tmps1, assign1, body1, hy1, hR1⟩ := hYH.out [v0] v1 wb1 JJ1 ⟨.c, rfl, a1, b1, hv1⟩
 clear hv1 ga1 gb1
 gi_wp2_with fail
 refine ⟨rfl, hR1.mono ?_⟩
 rintro e wc1 (⟨rfl, hj1, -⟩ | ⟨rfl, hx1⟩)
 rotate_left
 ·
  clear hy1 hR1
  gi_wp2_with fail
  go_end0
  exact ⟨⟨_, rfl⟩, .inr ⟨_, hx1⟩⟩
 clear hy1 hR1
 gi_wp2_with fail
 go_end0
 exact ⟨⟨_, rfl⟩, .inl ⟨_, rfl, hj1⟩⟩
set_option maxHeartbeats 4000000 in
theorem parts_2 (kb l : Nat) (W : World) (Kp : World → World → Prop) (J Jx : List Value → World → Prop) (hk : Blk W kb #[.int .i64 2] 3) (hJ : ∀ s A B, J s A → Grow.G A B → J s B) (hY : Rounds l Kp 2 J Jx) (h0 : J [] W) :
  CallsIn Fence.wide 0 Tryz.prog 55 #[.func (.yield l) #[] #[], ptr kb] W fun e W' => (∃ v, e = .returned v) ∧ ((∃ xs : List Value, xs.length = 2 ∧ J xs W') ∨ (∃ pre, Jx pre W')) := by
 refine callsIn_of_wp Tryz.func55 rfl trivial ?_
 simp only [Tryz.ntmps55, List.size_toArray, List.length_cons, List.length_nil, Nat.reduceAdd, Nat.reduceSub, Array.replicate_succ, Array.replicate_zero, List.push_toArray, List.append_toArray, List.nil_append, List.cons_append]
 have c0 := hk.cell 0
 simp at c0
 clear hk
 have hJH := Lib.hid hJ
 have hYH := Lib.hid hY
 clear hJ hY
 gi_wp2_with fail
 refine ⟨trivial, rfl, (callsIn_wide.2 (version_new _)).mono ?_⟩
 rintro e wa0 ⟨l0, lh0, rfl, hn0, ga0⟩
 gi_wp2_with fail
 refine ⟨trivial, rfl, (callsIn_wide.2 (hasint_new 57 _ _ _ _ _)).mono ?_⟩
 rintro e wb0 ⟨a0, b0, v0, rfl, hv0, gb0⟩
 have JJ0 := hJH.out _ _ _ h0 (ga0.trans gb0)
 obtain ⟨fn0, tmps0, assign0, body0, hy0, hR0⟩ := hYH.out [] v0 wb0 JJ0 ⟨.n 0 2147483647, rfl, a0, b0, l0, lh0, hv0, hn0.1.grow gb0, hn0.2.grow gb0⟩
 clear hn0 hv0 ga0 gb0
 gi_wp2_with fail
 refine ⟨rfl, hR0.mono ?_⟩
 rintro e wc0 (⟨rfl, hj0, -⟩ | ⟨rfl, hx0⟩)
 rotate_left
 ·
  clear hy0 hR0
  gi_wp2_with fail
  repeat ((first | (refine ⟨(trivial : Fence.wide.fn _), ?_⟩) | (refine ⟨fun _ h => (by cases h), ?_⟩)); gi_wp2_with fail)
  go_end0
  exact ⟨⟨_, rfl⟩, .inr ⟨_, hx0⟩⟩
 clear hy0 hR0
 gi_wp2_with fail
 refine ⟨trivial, rfl, (callsIn_wide.2 (route_new _)).mono ?_⟩
 rintro e wa1 ⟨rfl, ga1⟩
 gi_wp2_with fail
 refine ⟨trivial, rfl, (callsIn_wide.2 (hasRoute_new 63 _ _ _ _ _)).mono ?_⟩
 rintro e wb1 ⟨a1, b1, v1, rfl, hv1, gb1⟩
 have JJ1 := hJH.out _ _ _ hj0 (ga1.trans gb1)
 obtain ⟨fn1, tmps1, assign1, body1, hy1, hR1⟩ := hYH.out [v0] v1 wb1 JJ1 ⟨.r, rfl, a1, b1, hv1⟩
 clear hv1 ga1 gb1
 gi_wp2_with fail
 refine ⟨rfl, hR1.mono ?_⟩
 rintro e wc1 (⟨rfl, hj1, -⟩ | ⟨rfl, hx1⟩)
 rotate_left
 ·
  clear hy1 hR1
  gi_wp2_with fail
  go_end0
  exact ⟨⟨_, rfl⟩, .inr ⟨_, hx1⟩⟩
 clear hy1 hR1
 gi_wp2_with fail
 go_end0
 exact ⟨⟨_, rfl⟩, .inl ⟨_, rfl, hj1⟩⟩
set_option maxHeartbeats 4000000 in
theorem parts_3 (kb l : Nat) (W : World) (Kp : World → World → Prop) (J Jx : List Value → World → Prop) (hk : Blk W kb #[.int .i64 3] 3) (hJ : ∀ s A B, J s A → Grow.G A B → J s B) (hY : Rounds l Kp 3 J Jx) (h0 : J [] W) :
  CallsIn Fence.wide 0 Tryz.prog 55 #[.func (.yield l) #[] #[], ptr kb] W fun e W' => (∃ v, e = .returned v) ∧ ((∃ xs : List Value, xs.length = 3 ∧ J xs W') ∨ (∃ pre, Jx pre W')) := by
 refine callsIn_of_wp Tryz.func55 rfl trivial ?_
 simp only [Tryz.ntmps55, List.size_toArray, List.length_cons, List.length_nil, Nat.reduceAdd, Nat.reduceSub, Array.replicate_succ, Array.replicate_zero, List.push_toArray, List.append_toArray, List.nil_append, List.cons_append]
 have c0 := hk.cell 0
 simp at c0
 clear hk
 have hJH := Lib.hid hJ
 have hYH := Lib.hid hY
 clear hJ hY
 gi_wp2_with fail
 refine ⟨trivial, rfl, (callsIn_wide.2 (number_new 1 2 _)).mono ?_⟩
 rintro e wa0 ⟨l0, lh0, rfl, hn0, -, ga0⟩
 gi_wp2_with fail
 refine ⟨trivial, rfl, (callsIn_wide.2 (hasint_new 57 _ _ _ _ _)).mono ?_⟩
 rintro e wb0 ⟨a0, b0, v0, rfl, hv0, gb0⟩
 have JJ0 := hJH.out _ _ _ h0 (ga0.trans gb0)
 obtain ⟨fn0, tmps0, assign0, body0, hy0, hR0⟩ := hYH.out [] v0 wb0 JJ0 ⟨.n 1 2, rfl, a0, b0, l0, lh0, hv0, hn0.1.grow gb0, hn0.2.grow gb0⟩
 clear hn0 hv0 ga0 gb0
 gi_wp2_with fail
 refine ⟨rfl, hR0.mono ?_⟩
 rintro e wc0 (⟨rfl, hj0, -⟩ | ⟨rfl, hx0⟩)
 rotate_left
 ·
  clear hy0 hR0
  gi_wp2_with fail
  repeat ((first | (refine ⟨(trivial : Fence.wide.fn _), ?_⟩) | (refine ⟨fun _ h => (by cases h), ?_⟩)); gi_wp2_with fail)
  go_end0
  exact ⟨⟨_, rfl⟩, .inr ⟨_, hx0⟩⟩
 clear hy0 hR0
 gi_wp2_with fail
 refine ⟨trivial, rfl, (callsIn_wide.2 (text_new 69 _)).mono ?_⟩
 rintro e wa1 ⟨l1, rfl, hn1, ga1⟩
 gi_wp2_with fail
 refine ⟨trivial, rfl, (callsIn_wide.2 (hasstring_new 67 _ _ _ _ _)).mono ?_⟩
 rintro e wb1 ⟨a1, b1, v1, rfl, hv1, gb1⟩
 have JJ1 := hJH.out _ _ _ hj0 (ga1.trans gb1)
 obtain ⟨fn1, tmps1, assign1, body1, hy1, hR1⟩ := hYH.out [v0] v1 wb1 JJ1 ⟨.nm false, rfl, a1, b1, l1, hv1, Blk.grow hn1 gb1⟩
 clear hn1 hv1 ga1 gb1
 gi_wp2_with fail
 refine ⟨rfl, hR1.mono ?_⟩
 rintro e wc1 (⟨rfl, hj1, -⟩ | ⟨rfl, hx1⟩)
 rotate_left
 ·
  clear hy1 hR1
  gi_wp2_with fail
  repeat ((first | (refine ⟨(trivial : Fence.wide.fn _), ?_⟩) | (refine ⟨fun _ h => (by cases h), ?_⟩)); gi_wp2_with fail)
  go_end0
  exact ⟨⟨_, rfl⟩, .inr ⟨_, hx1⟩⟩
 clear hy1 hR1
 gi_wp2_with fail
 refine ⟨trivial, rfl, (callsIn_wide.2 (version_new _)).mono ?_⟩
 rintro e wa2 ⟨l2, lh2, rfl, hn2, ga2⟩
 gi_wp2_with fail
 refine ⟨trivial, rfl, (callsIn_wide.2 (hasint_new 70 _ _ _ _ _)).mono ?_⟩
 rintro e wb2 ⟨a2, b2, v2, rfl, hv2, gb2⟩
 have JJ2 := hJH.out _ _ _ hj1 (ga2.trans gb2)
 obtain ⟨fn2, tmps2, assign2, body2, hy2, hR2⟩ := hYH.out [v0, v1] v2 wb2 JJ2 ⟨.d 0 2147483647, rfl, a2, b2, l2, lh2, hv2, hn2.1.grow gb2, hn2.2.grow gb2⟩
 clear hn2 hv2 ga2 gb2
 gi_wp2_with fail
 refine ⟨rfl, hR2.mono ?_⟩
 rintro e wc2 (⟨rfl, hj2, -⟩ | ⟨rfl, hx2⟩)
 rotate_left
 ·
  clear hy2 hR2
  gi_wp2_with fail
  go_end0
  exact ⟨⟨_, rfl⟩, .inr ⟨_, hx2⟩⟩
 clear hy2 hR2
 gi_wp2_with fail
 go_end0
 exact ⟨⟨_, rfl⟩, .inl ⟨_, rfl, hj2⟩⟩
set_option maxHeartbeats 4000000 in
theorem parts_4 (kb l : Nat) (W : World) (Kp : World → World → Prop) (J Jx : List Value → World → Prop) (hk : Blk W kb #[.int .i64 4] 3) (hJ : ∀ s A B, J s A → Grow.G A B → J s B) (hY : Rounds l Kp 4 J Jx) (h0 : J [] W) :
  CallsIn Fence.wide 0 Tryz.prog 55 #[.func (.yield l) #[] #[], ptr kb] W fun e W' => (∃ v, e = .returned v) ∧ ((∃ xs : List Value, xs.length = 4 ∧ J xs W') ∨ (∃ pre, Jx pre W')) := by
 refine callsIn_of_wp Tryz.func55 rfl trivial ?_
 simp only [Tryz.ntmps55, List.size_toArray, List.length_cons, List.length_nil, Nat.reduceAdd, Nat.reduceSub, Array.replicate_succ, Array.replicate_zero, List.push_toArray, List.append_toArray, List.nil_append, List.cons_append]
 have c0 := hk.cell 0
 simp at c0
 clear hk
 have hJH := Lib.hid hJ
 have hYH := Lib.hid hY
 clear hJ hY
 gi_wp2_with fail
 refine ⟨trivial, rfl, (callsIn_wide.2 (number_new 1 2147483647 _)).mono ?_⟩
 rintro e wa0 ⟨l0, lh0, rfl, hn0, -, ga0⟩
 gi_wp2_with fail
 refine ⟨trivial, rfl, (callsIn_wide.2 (hasint_new 57 _ _ _ _ _)).mono ?_⟩
 rintro e wb0 ⟨a0, b0, v0, rfl, hv0, gb0⟩
 have JJ0 := hJH.out _ _ _ h0 (ga0.trans gb0)
 obtain ⟨fn0, tmps0, assign0, body0, hy0, hR0⟩ := hYH.out [] v0 wb0 JJ0 ⟨.n 1 2147483647, rfl, a0, b0, l0, lh0, hv0, hn0.1.grow gb0, hn0.2.grow gb0⟩
 clear hn0 hv0 ga0 gb0
 gi_wp2_with fail
 refine ⟨rfl, hR0.mono ?_⟩
 rintro e wc0 (⟨rfl, hj0, -⟩ | ⟨rfl, hx0⟩)
 rotate_left
 ·
  clear hy0 hR0
  gi_wp2_with fail
  repeat ((first | (refine ⟨(trivial : Fence.wide.fn _), ?_⟩) | (refine ⟨fun _ h => (by cases h), ?_⟩)); gi_wp2_with fail)
  go_end0
  exact ⟨⟨_, rfl⟩, .inr ⟨_, hx0⟩⟩
 clear hy0 hR0
 gi_wp2_with fail
 refine ⟨trivial, rfl, (callsIn_wide.2 (text_new 69 _)).mono ?_⟩
 rintro e wa1 ⟨l1, rfl, hn1, ga1⟩
 gi_wp2_with fail
 refine ⟨trivial, rfl, (callsIn_wide.2 (hasstring_new 67 _ _ _ _ _)).mono ?_⟩
 rintro e wb1 ⟨a1, b1, v1, rfl, hv1, gb1⟩
 have JJ1 := hJH.out _ _ _ hj0 (ga1.trans gb1)
 obtain ⟨fn1, tmps1, assign1, body1, hy1, hR1⟩ := hYH.out [v0] v1 wb1 JJ1 ⟨.nm false, rfl, a1, b1, l1, hv1, Blk.grow hn1 gb1⟩
 clear hn1 hv1 ga1 gb1
 gi_wp2_with fail
 refine ⟨rfl, hR1.mono ?_⟩
 rintro e wc1 (⟨rfl, hj1, -⟩ | ⟨rfl, hx1⟩)
 rotate_left
 ·
  clear hy1 hR1
  gi_wp2_with fail
  repeat ((first | (refine ⟨(trivial : Fence.wide.fn _), ?_⟩) | (refine ⟨fun _ h => (by cases h), ?_⟩)); gi_wp2_with fail)
  go_end0
  exact ⟨⟨_, rfl⟩, .inr ⟨_, hx1⟩⟩
 clear hy1 hR1
 gi_wp2_with fail
 refine ⟨trivial, rfl, (callsIn_wide.2 (text_new 72 _)).mono ?_⟩
 rintro e wa2 ⟨l2, rfl, hn2, ga2⟩
 gi_wp2_with fail
 refine ⟨trivial, rfl, (callsIn_wide.2 (hasstring_new 71 _ _ _ _ _)).mono ?_⟩
 rintro e wb2 ⟨a2, b2, v2, rfl, hv2, gb2⟩
 have JJ2 := hJH.out _ _ _ hj1 (ga2.trans gb2)
 obtain ⟨fn2, tmps2, assign2, body2, hy2, hR2⟩ := hYH.out [v0, v1] v2 wb2 JJ2 ⟨.tg, rfl, a2, b2, l2, hv2, Blk.grow hn2 gb2⟩
 clear hn2 hv2 ga2 gb2
 gi_wp2_with fail
 refine ⟨rfl, hR2.mono ?_⟩
 rintro e wc2 (⟨rfl, hj2, -⟩ | ⟨rfl, hx2⟩)
 rotate_left
 ·
  clear hy2 hR2
  gi_wp2_with fail
  repeat ((first | (refine ⟨(trivial : Fence.wide.fn _), ?_⟩) | (refine ⟨fun _ h => (by cases h), ?_⟩)); gi_wp2_with fail)
  go_end0
  exact ⟨⟨_, rfl⟩, .inr ⟨_, hx2⟩⟩
 clear hy2 hR2
 gi_wp2_with fail
 refine ⟨trivial, rfl, (callsIn_wide.2 (number_new 0 2147483647 _)).mono ?_⟩
 rintro e wa3 ⟨l3, lh3, rfl, hn3, -, ga3⟩
 gi_wp2_with fail
 refine ⟨trivial, rfl, (callsIn_wide.2 (hasint_new 70 _ _ _ _ _)).mono ?_⟩
 rintro e wb3 ⟨a3, b3, v3, rfl, hv3, gb3⟩
 have JJ3 := hJH.out _ _ _ hj2 (ga3.trans gb3)
 obtain ⟨fn3, tmps3, assign3, body3, hy3, hR3⟩ := hYH.out [v0, v1, v2] v3 wb3 JJ3 ⟨.d 0 2147483647, rfl, a3, b3, l3, lh3, hv3, hn3.1.grow gb3, hn3.2.grow gb3⟩
 clear hn3 hv3 ga3 gb3
 gi_wp2_with fail
 refine ⟨rfl, hR3.mono ?_⟩
 rintro e wc3 (⟨rfl, hj3, -⟩ | ⟨rfl, hx3⟩)
 rotate_left
 ·
  clear hy3 hR3
  gi_wp2_with fail
  go_end0
  exact ⟨⟨_, rfl⟩, .inr ⟨_, hx3⟩⟩
 clear hy3 hR3
 gi_wp2_with fail
 go_end0
 exact ⟨⟨_, rfl⟩, .inl ⟨_, rfl, hj3⟩⟩
set_option maxHeartbeats 4000000 in
theorem parts_5 (kb l : Nat) (W : World) (Kp : World → World → Prop) (J Jx : List Value → World → Prop) (hk : Blk W kb #[.int .i64 5] 3) (hJ : ∀ s A B, J s A → Grow.G A B → J s B) (hY : Rounds l Kp 5 J Jx) (h0 : J [] W) :
  CallsIn Fence.wide 0 Tryz.prog 55 #[.func (.yield l) #[] #[], ptr kb] W fun e W' => (∃ v, e = .returned v) ∧ ((∃ xs : List Value, xs.length = 1 ∧ J xs W') ∨ (∃ pre, Jx pre W')) := by
 refine callsIn_of_wp Tryz.func55 rfl trivial ?_
 simp only [Tryz.ntmps55, List.size_toArray, List.length_cons, List.length_nil, Nat.reduceAdd, Nat.reduceSub, Array.replicate_succ, Array.replicate_zero, List.push_toArray, List.append_toArray, List.nil_append, List.cons_append]
 have c0 := hk.cell 0
 simp at c0
 clear hk
 have hJH := Lib.hid hJ
 have hYH := Lib.hid hY
 clear hJ hY
 gi_wp2_with fail
 refine ⟨trivial, rfl, (callsIn_wide.2 (number_new 1 2147483647 _)).mono ?_⟩
 rintro e wa0 ⟨l0, lh0, rfl, hn0, -, ga0⟩
 gi_wp2_with fail
 refine ⟨trivial, rfl, (callsIn_wide.2 (hasint_new 57 _ _ _ _ _)).mono ?_⟩
 rintro e wb0 ⟨a0, b0, v0, rfl, hv0, gb0⟩
 have JJ0 := hJH.out _ _ _ h0 (ga0.trans gb0)
 obtain ⟨fn0, tmps0, assign0, body0, hy0, hR0⟩ := hYH.out [] v0 wb0 JJ0 ⟨.n 1 2147483647, rfl, a0, b0, l0, lh0, hv0, hn0.1.grow gb0, hn0.2.grow gb0⟩
 clear hn0 hv0 ga0 gb0
 gi_wp2_with fail
 refine ⟨rfl, hR0.mono ?_⟩
 rintro e wc0 (⟨rfl, hj0, -⟩ | ⟨rfl, hx0⟩)
 rotate_left
 ·
  clear hy0 hR0
  gi_wp2_with fail
  go_end0
  exact ⟨⟨_, rfl⟩, .inr ⟨_, hx0⟩⟩
 clear hy0 hR0
 gi_wp2_with fail
 go_end0
 exact ⟨⟨_, rfl⟩, .inl ⟨_, rfl, hj0⟩⟩
set_option maxHeartbeats 4000000 in
theorem parts_6 (kb l : Nat) (W : World) (Kp : World → World → Prop) (J Jx : List Value → World → Prop) (hk : Blk W kb #[.int .i64 6] 3) (hJ : ∀ s A B, J s A → Grow.G A B → J s B) (hY : Rounds l Kp 6 J Jx) (h0 : J [] W) :
  CallsIn Fence.wide 0 Tryz.prog 55 #[.func (.yield l) #[] #[], ptr kb] W fun e W' => (∃ v, e = .returned v) ∧ ((∃ xs : List Value, xs.length = 1 ∧ J xs W') ∨ (∃ pre, Jx pre W')) := by
 refine callsIn_of_wp Tryz.func55 rfl trivial ?_
 simp only [Tryz.ntmps55, List.size_toArray, List.length_cons, List.length_nil, Nat.reduceAdd, Nat.reduceSub, Array.replicate_succ, Array.replicate_zero, List.push_toArray, List.append_toArray, List.nil_append, List.cons_append]
 have c0 := hk.cell 0
 simp at c0
 clear hk
 have hJH := Lib.hid hJ
 have hYH := Lib.hid hY
 clear hJ hY
 gi_wp2_with fail
 refine ⟨trivial, rfl, (callsIn_wide.2 (number_new 1 2147483647 _)).mono ?_⟩
 rintro e wa0 ⟨l0, lh0, rfl, hn0, -, ga0⟩
 gi_wp2_with fail
 refine ⟨trivial, rfl, (callsIn_wide.2 (hasint_new 57 _ _ _ _ _)).mono ?_⟩
 rintro e wb0 ⟨a0, b0, v0, rfl, hv0, gb0⟩
 have JJ0 := hJH.out _ _ _ h0 (ga0.trans gb0)
 obtain ⟨fn0, tmps0, assign0, body0, hy0, hR0⟩ := hYH.out [] v0 wb0 JJ0 ⟨.n 1 2147483647, rfl, a0, b0, l0, lh0, hv0, hn0.1.grow gb0, hn0.2.grow gb0⟩
 clear hn0 hv0 ga0 gb0
 gi_wp2_with fail
 refine ⟨rfl, hR0.mono ?_⟩
 rintro e wc0 (⟨rfl, hj0, -⟩ | ⟨rfl, hx0⟩)
 rotate_left
 ·
  clear hy0 hR0
  gi_wp2_with fail
  go_end0
  exact ⟨⟨_, rfl⟩, .inr ⟨_, hx0⟩⟩
 clear hy0 hR0
 gi_wp2_with fail
 go_end0
 exact ⟨⟨_, rfl⟩, .inl ⟨_, rfl, hj0⟩⟩
set_option maxHeartbeats 4000000 in
theorem parts_7 (kb l : Nat) (W : World) (Kp : World → World → Prop) (J Jx : List Value → World → Prop) (hk : Blk W kb #[.int .i64 7] 3) (hJ : ∀ s A B, J s A → Grow.G A B → J s B) (hY : Rounds l Kp 7 J Jx) (h0 : J [] W) :
  CallsIn Fence.wide 0 Tryz.prog 55 #[.func (.yield l) #[] #[], ptr kb] W fun e W' => (∃ v, e = .returned v) ∧ ((∃ xs : List Value, xs.length = 1 ∧ J xs W') ∨ (∃ pre, Jx pre W')) := by
 refine callsIn_of_wp Tryz.func55 rfl trivial ?_
 simp only [Tryz.ntmps55, List.size_toArray, List.length_cons, List.length_nil, Nat.reduceAdd, Nat.reduceSub, Array.replicate_succ, Array.replicate_zero, List.push_toArray, List.append_toArray, List.nil_append, List.cons_append]
 have c0 := hk.cell 0
 simp at c0
 clear hk
 have hJH := Lib.hid hJ
 have hYH := Lib.hid hY
 clear hJ hY
 gi_wp2_with fail
 refine ⟨trivial, rfl, (callsIn_wide.2 (number_new 1 2147483647 _)).mono ?_⟩
 rintro e wa0 ⟨l0, lh0, rfl, hn0, -, ga0⟩
 gi_wp2_with fail
 refine ⟨trivial, rfl, (callsIn_wide.2 (hasint_new 57 _ _ _ _ _)).mono ?_⟩
 rintro e wb0 ⟨a0, b0, v0, rfl, hv0, gb0⟩
 have JJ0 := hJH.out _ _ _ h0 (ga0.trans gb0)
 obtain ⟨fn0, tmps0, assign0, body0, hy0, hR0⟩ := hYH.out [] v0 wb0 JJ0 ⟨.n 1 2147483647, rfl, a0, b0, l0, lh0, hv0, hn0.1.grow gb0, hn0.2.grow gb0⟩
 clear hn0 hv0 ga0 gb0
 gi_wp2_with fail
 refine ⟨rfl, hR0.mono ?_⟩
 rintro e wc0 (⟨rfl, hj0, -⟩ | ⟨rfl, hx0⟩)
 rotate_left
 ·
  clear hy0 hR0
  gi_wp2_with fail
  go_end0
  exact ⟨⟨_, rfl⟩, .inr ⟨_, hx0⟩⟩
 clear hy0 hR0
 gi_wp2_with fail
 go_end0
 exact ⟨⟨_, rfl⟩, .inl ⟨_, rfl, hj0⟩⟩
set_option maxHeartbeats 4000000 in
theorem parts_8 (kb l : Nat) (W : World) (Kp : World → World → Prop) (J Jx : List Value → World → Prop) (hk : Blk W kb #[.int .i64 8] 3) (hJ : ∀ s A B, J s A → Grow.G A B → J s B) (hY : Rounds l Kp 8 J Jx) (h0 : J [] W) :
  CallsIn Fence.wide 0 Tryz.prog 55 #[.func (.yield l) #[] #[], ptr kb] W fun e W' => (∃ v, e = .returned v) ∧ ((∃ xs : List Value, xs.length = 1 ∧ J xs W') ∨ (∃ pre, Jx pre W')) := by
 refine callsIn_of_wp Tryz.func55 rfl trivial ?_
 simp only [Tryz.ntmps55, List.size_toArray, List.length_cons, List.length_nil, Nat.reduceAdd, Nat.reduceSub, Array.replicate_succ, Array.replicate_zero, List.push_toArray, List.append_toArray, List.nil_append, List.cons_append]
 have c0 := hk.cell 0
 simp at c0
 clear hk
 have hJH := Lib.hid hJ
 have hYH := Lib.hid hY
 clear hJ hY
 gi_wp2_with fail
 refine ⟨trivial, rfl, (callsIn_wide.2 (number_new 1 2147483647 _)).mono ?_⟩
 rintro e wa0 ⟨l0, lh0, rfl, hn0, -, ga0⟩
 gi_wp2_with fail
 refine ⟨trivial, rfl, (callsIn_wide.2 (hasint_new 57 _ _ _ _ _)).mono ?_⟩
 rintro e wb0 ⟨a0, b0, v0, rfl, hv0, gb0⟩
 have JJ0 := hJH.out _ _ _ h0 (ga0.trans gb0)
 obtain ⟨fn0, tmps0, assign0, body0, hy0, hR0⟩ := hYH.out [] v0 wb0 JJ0 ⟨.n 1 2147483647, rfl, a0, b0, l0, lh0, hv0, hn0.1.grow gb0, hn0.2.grow gb0⟩
 clear hn0 hv0 ga0 gb0
 gi_wp2_with fail
 refine ⟨rfl, hR0.mono ?_⟩
 rintro e wc0 (⟨rfl, hj0, -⟩ | ⟨rfl, hx0⟩)
 rotate_left
 ·
  clear hy0 hR0
  gi_wp2_with fail
  go_end0
  exact ⟨⟨_, rfl⟩, .inr ⟨_, hx0⟩⟩
 clear hy0 hR0
 gi_wp2_with fail
 go_end0
 exact ⟨⟨_, rfl⟩, .inl ⟨_, rfl, hj0⟩⟩
set_option maxHeartbeats 4000000 in
theorem parts_10 (kb l : Nat) (W : World) (Kp : World → World → Prop) (J Jx : List Value → World → Prop) (hk : Blk W kb #[.int .i64 10] 3) (hJ : ∀ s A B, J s A → Grow.G A B → J s B) (hY : Rounds l Kp 10 J Jx) (h0 : J [] W) :
  CallsIn Fence.wide 0 Tryz.prog 55 #[.func (.yield l) #[] #[], ptr kb] W fun e W' => (∃ v, e = .returned v) ∧ ((∃ xs : List Value, xs.length = 1 ∧ J xs W') ∨ (∃ pre, Jx pre W')) := by
 refine callsIn_of_wp Tryz.func55 rfl trivial ?_
 simp only [Tryz.ntmps55, List.size_toArray, List.length_cons, List.length_nil, Nat.reduceAdd, Nat.reduceSub, Array.replicate_succ, Array.replicate_zero, List.push_toArray, List.append_toArray, List.nil_append, List.cons_append]
 have c0 := hk.cell 0
 simp at c0
 clear hk
 have hJH := Lib.hid hJ
 have hYH := Lib.hid hY
 clear hJ hY
 gi_wp2_with fail
 refine ⟨trivial, rfl, (callsIn_wide.2 (text_new 69 _)).mono ?_⟩
 rintro e wa0 ⟨l0, rfl, hn0, ga0⟩
 gi_wp2_with fail
 refine ⟨trivial, rfl, (callsIn_wide.2 (hasstring_new 67 _ _ _ _ _)).mono ?_⟩
 rintro e wb0 ⟨a0, b0, v0, rfl, hv0, gb0⟩
 have JJ0 := hJH.out _ _ _ h0 (ga0.trans gb0)
 obtain ⟨fn0, tmps0, assign0, body0, hy0, hR0⟩ := hYH.out [] v0 wb0 JJ0 ⟨.nm false, rfl, a0, b0, l0, hv0, Blk.grow hn0 gb0⟩
 clear hn0 hv0 ga0 gb0
 gi_wp2_with fail
 refine ⟨rfl, hR0.mono ?_⟩
 rintro e wc0 (⟨rfl, hj0, -⟩ | ⟨rfl, hx0⟩)
 rotate_left
 ·
  clear hy0 hR0
  gi_wp2_with fail
  go_end0
  exact ⟨⟨_, rfl⟩, .inr ⟨_, hx0⟩⟩
 clear hy0 hR0
 gi_wp2_with fail
 go_end0
 exact ⟨⟨_, rfl⟩, .inl ⟨_, rfl, hj0⟩⟩
set_option maxHeartbeats 4000000 in
theorem parts_11 (kb l : Nat) (W : World) (Kp : World → World → Prop) (J Jx : List Value → World → Prop) (hk : Blk W kb #[.int .i64 11] 3) (hJ : ∀ s A B, J s A → Grow.G A B → J s B) (hY : Rounds l Kp 11 J Jx) (h0 : J [] W) :
  CallsIn Fence.wide 0 Tryz.prog 55 #[.func (.yield l) #[] #[], ptr kb] W fun e W' => (∃ v, e = .returned v) ∧ ((∃ xs : List Value, xs.length = 1 ∧ J xs W') ∨ (∃ pre, Jx pre W')) := by
 refine callsIn_of_wp Tryz.func55 rfl trivial ?_
 simp only [Tryz.ntmps55, List.size_toArray, List.length_cons, List.length_nil, Nat.reduceAdd, Nat.reduceSub, Array.replicate_succ, Array.replicate_zero, List.push_toArray, List.append_toArray, List.nil_append, List.cons_append]
 have c0 := hk.cell 0
 simp at c0
 clear hk
 have hJH := Lib.hid hJ
 have hYH := Lib.hid hY
 clear hJ hY
 gi_wp2_with fail
 refine ⟨trivial, rfl, (callsIn_wide.2 (text_new 69 _)).mono ?_⟩
 rintro e wa0 ⟨l0, rfl, hn0, ga0⟩
 gi_wp2_with fail
 refine ⟨trivial, rfl, (callsIn_wide.2 (hasstring_new 67 _ _ _ _ _)).mono ?_⟩
 rintro e wb0 ⟨a0, b0, v0, rfl, hv0, gb0⟩
 have JJ0 := hJH.out _ _ _ h0 (ga0.trans gb0)
 obtain ⟨fn0, tmps0, assign0, body0, hy0, hR0⟩ := hYH.out [] v0 wb0 JJ0 ⟨.nm false, rfl, a0, b0, l0, hv0, Blk.grow hn0 gb0⟩
 clear hn0 hv0 ga0 gb0
 gi_wp2_with fail
 refine ⟨rfl, hR0.mono ?_⟩
 rintro e wc0 (⟨rfl, hj0, -⟩ | ⟨rfl, hx0⟩)
 rotate_left
 ·
  clear hy0 hR0
  gi_wp2_with fail
  go_end0
  exact ⟨⟨_, rfl⟩, .inr ⟨_, hx0⟩⟩
 clear hy0 hR0
 gi_wp2_with fail
 go_end0
 exact ⟨⟨_, rfl⟩, .inl ⟨_, rfl, hj0⟩⟩
set_option maxHeartbeats 4000000 in
theorem parts_12 (kb l : Nat) (W : World) (Kp : World → World → Prop) (J Jx : List Value → World → Prop) (hk : Blk W kb #[.int .i64 12] 3) (hJ : ∀ s A B, J s A → Grow.G A B → J s B) (hY : Rounds l Kp 12 J Jx) (h0 : J [] W) :
  CallsIn Fence.wide 0 Tryz.prog 55 #[.func (.yield l) #[] #[], ptr kb] W fun e W' => (∃ v, e = .returned v) ∧ ((∃ xs : List Value, xs.length = 1 ∧ J xs W') ∨ (∃ pre, Jx pre W')) := by
 refine callsIn_of_wp Tryz.func55 rfl trivial ?_
 simp only [Tryz.ntmps55, List.size_toArray, List.length_cons, List.length_nil, Nat.reduceAdd, Nat.reduceSub, Array.replicate_succ, Array.replicate_zero, List.push_toArray, List.append_toArray, List.nil_append, List.cons_append]
 have c0 := hk.cell 0
 simp at c0
 clear hk
 have hJH := Lib.hid hJ
 have hYH := Lib.hid hY
 clear hJ hY
 gi_wp2_with fail
 refine ⟨trivial, rfl, (callsIn_wide.2 (text_new 73 _)).mono ?_⟩
 rintro e wa0 ⟨l0, rfl, hn0, ga0⟩
 gi_wp2_with fail
 refine ⟨trivial, rfl, (callsIn_wide.2 (hasstring_new 67 _ _ _ _ _)).mono ?_⟩
 rintro e wb0 ⟨a0, b0, v0, rfl, hv0, gb0⟩
 have JJ0 := hJH.out _ _ _ h0 (ga0.trans gb0)
 obtain ⟨fn0, tmps0, assign0, body0, hy0, hR0⟩ := hYH.out [] v0 wb0 JJ0 ⟨.nm true, rfl, a0, b0, l0, hv0, Blk.grow hn0 gb0⟩
 clear hn0 hv0 ga0 gb0
 gi_wp2_with fail
 refine ⟨rfl, hR0.mono ?_⟩
 rintro e wc0 (⟨rfl, hj0, -⟩ | ⟨rfl, hx0⟩)
 rotate_left
 ·
  clear hy0 hR0
  gi_wp2_with fail
  go_end0
  exact ⟨⟨_, rfl⟩, .inr ⟨_, hx0⟩⟩
 clear hy0 hR0
 gi_wp2_with fail
 go_end0
 exact ⟨⟨_, rfl⟩, .inl ⟨_, rfl, hj0⟩⟩
set_option maxHeartbeats 4000000 in
theorem parts_13 (kb l : Nat) (W : World) (Kp : World → World → Prop) (J Jx : List Value → World → Prop) (hk : Blk W kb #[.int .i64 13] 3) (hJ : ∀ s A B, J s A → Grow.G A B → J s B) (hY : Rounds l Kp 13 J Jx) (h0 : J [] W) :
  CallsIn Fence.wide 0 Tryz.prog 55 #[.func (.yield l) #[] #[], ptr kb] W fun e W' => (∃ v, e = .returned v) ∧ ((∃ xs : List Value, xs.length = 1 ∧ J xs W') ∨ (∃ pre, Jx pre W')) := by
 refine callsIn_of_wp Tryz.func55 rfl trivial ?_
 simp only [Tryz.ntmps55, List.size_toArray, List.length_cons, List.length_nil, Nat.reduceAdd, Nat.reduceSub, Array.replicate_succ, Array.replicate_zero, List.push_toArray, List.append_toArray, List.nil_append, List.cons_append]
 have c0 := hk.cell 0
 simp at c0
 clear hk
 have hJH := Lib.hid hJ
 have hYH := Lib.hid hY
 clear hJ hY
 gi_wp2_with fail
 refine ⟨trivial, rfl, (callsIn_wide.2 (text_new 73 _)).mono ?_⟩
 rintro e wa0 ⟨l0, rfl, hn0, ga0⟩
 gi_wp2_with fail
 refine ⟨trivial, rfl, (callsIn_wide.2 (hasstring_new 67 _ _ _ _ _)).mono ?_⟩
 rintro e wb0 ⟨a0, b0, v0, rfl, hv0, gb0⟩
 have JJ0 := hJH.out _ _ _ h0 (ga0.trans gb0)
 obtain ⟨fn0, tmps0, assign0, body0, hy0, hR0⟩ := hYH.out [] v0 wb0 JJ0 ⟨.nm true, rfl, a0, b0, l0, hv0, Blk.grow hn0 gb0⟩
 clear hn0 hv0 ga0 gb0
 gi_wp2_with fail
 refine ⟨rfl, hR0.mono ?_⟩
 rintro e wc0 (⟨rfl, hj0, -⟩ | ⟨rfl, hx0⟩)
 rotate_left
 ·
  clear hy0 hR0
  gi_wp2_with fail
  go_end0
  exact ⟨⟨_, rfl⟩, .inr ⟨_, hx0⟩⟩
 clear hy0 hR0
 gi_wp2_with fail
 go_end0
 exact ⟨⟨_, rfl⟩, .inl ⟨_, rfl, hj0⟩⟩
set_option maxHeartbeats 4000000 in
theorem parts_none (k : Int) (kb l : Nat) (W : World) (J Jx : List Value → World → Prop) (hk : Blk W kb #[.int .i64 k] 3) (e1 : (k == 1) = false) (e2 : (k == 2) = false) (e3 : (k == 3) = false) (e4 : (k == 4) = false) (e5 : (k == 5) = false) (e6 : (k == 6) = false) (e7 : (k == 7) = false) (e8 : (k == 8) = false) (e10 : (k == 10) = false) (e11 : (k == 11) = false) (e12 : (k == 12) = false) (e13 : (k == 13) = false) (h0 : J [] W) :
  CallsIn Fence.wide 0 Tryz.prog 55 #[.func (.yield l) #[] #[], ptr kb] W fun e W' => (∃ v, e = .returned v) ∧ ((∃ xs : List Value, xs.length = 0 ∧ J xs W') ∨ (∃ pre, Jx pre W')) := by
 refine callsIn_of_wp Tryz.func55 rfl trivial ?_
 simp only [Tryz.ntmps55, List.size_toArray, List.length_cons, List.length_nil, Nat.reduceAdd, Nat.reduceSub, Array.replicate_succ, Array.replicate_zero, List.push_toArray, List.append_toArray, List.nil_append, List.cons_append]
 have c0 := hk.cell 0
 simp at c0
 clear hk
 gi_wp2_with fail
 go_end0
 exact ⟨⟨_, rfl⟩, .inl ⟨_, rfl, h0⟩⟩
theorem parts_seq (k : Int) (kb : Nat) (w : World) (Kp : World → World → Prop) (hk : Blk w kb #[.int .i64 k] 3) :
  Iter.Seq Tryz.prog 55 #[ptr kb] (fun v => #[v]) (PartOk k) Kp (fun xs => xs.length = (PT.specs k).length) w := by
 intro l J Jx W hG hJ hJx hY h0
 replace hk := hk.grow hG
 clear hG hJx
 replace hY : Rounds l Kp k J Jx := hY
 refine (callsIn_wide (n := 0)).1 ?_
 by_cases h1 : k = 1
 ·
  subst h1
  exact parts_1 kb l W Kp J Jx hk hJ hY h0
 by_cases h2 : k = 2
 ·
  subst h2
  exact parts_2 kb l W Kp J Jx hk hJ hY h0
 by_cases h3 : k = 3
 ·
  subst h3
  exact parts_3 kb l W Kp J Jx hk hJ hY h0
 by_cases h4 : k = 4
 ·
  subst h4
  exact parts_4 kb l W Kp J Jx hk hJ hY h0
 by_cases h5 : k = 5
 ·
  subst h5
  exact parts_5 kb l W Kp J Jx hk hJ hY h0
 by_cases h6 : k = 6
 ·
  subst h6
  exact parts_6 kb l W Kp J Jx hk hJ hY h0
 by_cases h7 : k = 7
 ·
  subst h7
  exact parts_7 kb l W Kp J Jx hk hJ hY h0
 by_cases h8 : k = 8
 ·
  subst h8
  exact parts_8 kb l W Kp J Jx hk hJ hY h0
 by_cases h10 : k = 10
 ·
  subst h10
  exact parts_10 kb l W Kp J Jx hk hJ hY h0
 by_cases h11 : k = 11
 ·
  subst h11
  exact parts_11 kb l W Kp J Jx hk hJ hY h0
 by_cases h12 : k = 12
 ·
  subst h12
  exact parts_12 kb l W Kp J Jx hk hJ hY h0
 by_cases h13 : k = 13
 ·
  subst h13
  exact parts_13 kb l W Kp J Jx hk hJ hY h0
 have hs : PT.specs k = [] := by
  unfold PT.specs
  rw [if_neg h1, if_neg h2, if_neg h3, if_neg h4, if_neg (by omega), if_neg (by omega), if_neg (by omega)]
 rw [hs]
 exact parts_none k kb l W J Jx hk (by simpa using h1) (by simpa using h2) (by simpa using h3) (by simpa using h4) (by simpa using h5) (by simpa using h6) (by simpa using h7) (by simpa using h8) (by simpa using h10) (by simpa using h11) (by simpa using h12) (by simpa using h13) h0

theorem zip_one (p : Tmp) (v : Value) (t : Array Value) : ((#[p] : Array Tmp).zip #[v]).foldl (fun t (p, v) => t.setIfInBounds p v) t = t.setIfInBounds p v := by simp [← Array.foldl_toList, Array.toList_zip]
theorem partOk_book {k : Int} {pre : List Value} {x : Value} {A B : World} {n : Nat} (h : PartOk k pre x A) (b : Iter.Book n A B) : PartOk k pre x B := by
 obtain ⟨p, h1, h2⟩ := h
 exact ⟨p, h1, h2.book b⟩
def clrN (e : EvD) (i : Nat) : EvD := ((PT.specs e.k).take i).foldl PT.clr e
theorem clrN_succ {e : EvD} {i : Nat} {p : PT} (h : (PT.specs e.k)[i]? = some p) : clrN e (i + 1) = p.clr (clrN e i) := by
 unfold clrN
 rw [List.take_add_one, h, List.foldl_append]; rfl
theorem clrN_all (e : EvD) : clrN e (PT.specs e.k).length = e.rest := by unfold clrN EvD.rest; rw [List.take_length]
/-- The event that is being cleared: its box, its targets as they were, or none. -/
def RestI (w : World) (g : Nat) (e : EvD) (a : Option Addr) (pre : List Value) (W : World) : Prop :=
 ∃ a' c', Blk W g ((clrN e pre.length).cells a' c') 28 ∧ ((a' = a ∧ (clrN e pre.length).ts = e.ts) ∨ (clrN e pre.length).ts = []) ∧ Below w.heap.size w W
set_option maxHeartbeats 4000000 in
theorem erest_any (e : EvD) (a : Option Addr) (c : Nat) (w : World) :
  Calls Tryz.prog 31 #[.agg (e.cells a c)] w fun x w' => ∃ a' c', x = .returned (.agg (e.rest.cells a' c')) ∧ ((a' = a ∧ e.rest.ts = e.ts) ∨ e.rest.ts = []) ∧ Grow.G w w' := by
 have hEC : e.cells a c = #[.int .i64 e.k, .string e.nm, .string e.tg, .int .i64 e.n, .int .i64 e.dr, .string e.c.nm, .int .i64 e.c.im, .int .i64 e.c.co, .int .i64 e.c.mn, .int .i64 e.c.mx, .int .i64 e.c.gr, .string e.rn, .string e.rc, .slice a e.ts.length c, .int .i64 e.rr] := rfl
 refine (callsIn_wide (n := 0)).1 ?_
 refine callsIn_of_wp_marks Tryz.func31 rfl trivial ?_
 simp only [Tryz.ntmps31, List.size_toArray, List.length_cons, List.length_nil, Nat.reduceAdd, Nat.reduceSub, Array.replicate_succ, Array.replicate_zero, List.push_toArray, List.append_toArray, List.nil_append, List.cons_append]
 rw [hEC]
 gi_wp2_with fail
 refine ⟨trivial, rfl, (callsIn_wide.2 (parts_new _ _)).mono ?_⟩
 rintro x w1 ⟨kb, rfl, hkb, hk, hg1⟩
 gi_wp2_with fail
 have z0 : Array Value := #[]
 obtain ⟨W0, hW⟩ : ∃ W0, W0 = (w.alloc (.cells (e.cells a c) 28)).alloc (.cells (ev0.cells none 0) 28) := ⟨_, rfl⟩
 replace hg1 : Grow.G W0 w1 := by rw [hW]; exact hg1
 have hs0 : W0.heap.size = w.heap.size + 2 := by rw [hW]; simp
 have B0 : Blk w1 w.heap.size (e.cells a c) 28 := by
  have : Blk W0 w.heap.size (e.cells a c) 28 := by rw [hW]; exact (Blk.new w _ _).alloc _
  exact this.grow hg1
 have R0 : Blk w1 (w.heap.size + 1) (ev0.cells none 0) 28 := by
  have := Blk.new (w.alloc (.cells (e.cells a c) 28)) (ev0.cells none 0) 28
  rw [World.size_alloc] at this
  rw [← hW] at this
  exact this.grow hg1
 have G0 : Grow.G w w1 := by
  have : Grow.G w W0 := by rw [hW]; exact Grow.G.alloc (Grow.G.alloc (Grow.G.refl _) _) _
  exact this.trans hg1
 have hw1 := hg1.size
 clear hW
 refine Iter.range (gf := 55) (lb := #[ptr kb]) (encs := fun v => #[v]) (Ok := PartOk e.k) (Kp := fun _ _ => True) (S := fun xs => xs.length = (PT.specs e.k).length) rfl (enters_of Tryz.func55 (by kernel_rfl) rfl) (parts_seq e.k kb w1 _ hk) (Grow.G.refl _) (fun _ => rfl) (fun s x A B h b => partOk_book h b) (fun _ _ => trivial) (fun _ => trivial)
  (fun pre W => RestI w w.heap.size e a pre W ∧ Blk W (w.heap.size + 1) (ev0.cells none 0) 28) (fun _ _ _ => False) ?hI (fun _ _ _ _ h _ => h) ?h0 ?round ?done (fun _ _ _ h => h.elim)
 case hI =>
  rintro s A B ⟨⟨a', c', hb, ht, hB⟩, hr⟩ hbk
  exact ⟨⟨a', c', hb.book hbk, ht, hB.trans (hbk.below.mono (by have := hB.size; omega))⟩, hr.book hbk⟩
 case h0 => exact ⟨⟨a, c, B0, .inl ⟨rfl, rfl⟩, G0⟩, R0⟩
 case round =>
  rintro l pre x W hl ⟨⟨a', c', hb, ht, hB⟩, hr⟩ ⟨p, hp, hpt⟩
  obtain ⟨F1, F2, F3, F4, pa, pb, rfl, fs⟩ := part_fs hpt
  have CN := clrN_succ (e := e) hp
  have n1 := fs.e1
  unfold Ent at n1
  simp only [zip_one, List.setIfInBounds_toArray, List.set_cons_zero, List.set_cons_succ]
  gi_wp2_with fail
  refine ⟨Grow.G.alloc (Grow.G.refl _) _, fun W₂ hbk hok => ?_⟩
  have hgW := (Grow.G.alloc (Grow.G.refl W) (.cells #[.func (.func F1) #[] #[ptr pa], .func (.func F2) #[] #[ptr pb, ptr pa], .func (.func F3) #[] #[ptr pb, ptr pa], .func (.func F4) #[] #[ptr pb, ptr pa]] 73))
  have q0 := ((Blk.new W #[.func (.func F1) #[] #[ptr pa], .func (.func F2) #[] #[ptr pb, ptr pa], .func (.func F3) #[] #[ptr pb, ptr pa], .func (.func F4) #[] #[ptr pb, ptr pa]] 73).book hbk).cell 0
  simp at q0
  have P2 := (hpt.book (Iter.Book.grow (n := 0) hgW)).book hbk
  have C2 := (hb.grow hgW).book hbk
  gi_wp2_with fail
  refine ⟨trivial, rfl, (CallsIn.inRound l (callsIn_wide.2 (fs.clr _ _ _ _ _ P2 C2))).mono ?_⟩
  rintro y W₃ ⟨⟨v3, rfl⟩, ⟨a3, c3, hb3, ht3⟩, ch3⟩
  gi_wp2_with fail
  have hb2 := ((hB.trans (Below.mono hgW hB.size)).trans (hbk.below.mono (by have := hB.size; have := hgW.size; omega))).trans (ch3.below (B := w.heap.size) (by have := hB.size; have := hgW.size; have := hbk.size; omega) (fun k hk e => by have e : k = w.heap.size := e; omega))
  refine ⟨Chg.rest ch3 (fun k hk e => by have e : k = w.heap.size := e; omega), trivial, ⟨a3, c3, ?_, ?_, hb2⟩, ((hr.grow hgW).book hbk).chg ch3 (fun e => by have e : w.heap.size + 1 = w.heap.size := e; omega)⟩
  ·
   rw [List.length_append, List.length_singleton, CN]; exact hb3
  ·
   rw [List.length_append, List.length_singleton, CN]
   rcases ht3 with ⟨rfl, h2⟩ | h2
   ·
    rcases ht with ⟨rfl, h4⟩ | h4
    ·
     exact .inl ⟨rfl, h2.trans h4⟩
    ·
     exact .inr (h2.trans h4)
   ·
    exact .inr h2
 case done =>
  rintro xs W hS ⟨⟨a', c', hb, ht, hB⟩, hr⟩ hD
  replace hS : xs.length = (PT.specs e.k).length := hS
  rw [hS, clrN_all] at hb ht
  have HB := Lib.hid hb
  have HR := Lib.hid hr
  have HT := Lib.hid ht
  have hEC2 : e.rest.cells a' c' = #[.int .i64 e.rest.k, .string e.rest.nm, .string e.rest.tg, .int .i64 e.rest.n, .int .i64 e.rest.dr, .string e.rest.c.nm, .int .i64 e.rest.c.im, .int .i64 e.rest.c.co, .int .i64 e.rest.c.mn, .int .i64 e.rest.c.mx, .int .i64 e.rest.c.gr, .string e.rest.rn, .string e.rest.rc, .slice a' e.rest.ts.length c', .int .i64 e.rest.rr] := rfl
  have EC := Lib.hid hEC2
  generalize hER : e.rest = er at *
  have ER := Lib.hid hER
  clear hER
  obtain ⟨k', nm', tg', n', dr', ⟨cn', im', co', mn', mx', gr'⟩, rn', rc', ts', rr'⟩ := er
  dsimp only at *
  have e0 := (hb.cell 0).trans (show _ = some (.int .i64 k') from rfl); have f0 := hr.free 0; have r0 := (hr.cell 0).trans (show _ = some (.int .i64 0) from rfl)
  have e1 := (hb.cell 1).trans (show _ = some (.string nm') from rfl); have f1 := hr.free 1; have r1 := (hr.cell 1).trans (show _ = some (.string ε) from rfl)
  have e2 := (hb.cell 2).trans (show _ = some (.string tg') from rfl); have f2 := hr.free 2; have r2 := (hr.cell 2).trans (show _ = some (.string ε) from rfl)
  have e3 := (hb.cell 3).trans (show _ = some (.int .i64 n') from rfl); have f3 := hr.free 3; have r3 := (hr.cell 3).trans (show _ = some (.int .i64 0) from rfl)
  have e4 := (hb.cell 4).trans (show _ = some (.int .i64 dr') from rfl); have f4 := hr.free 4; have r4 := (hr.cell 4).trans (show _ = some (.int .i64 0) from rfl)
  have e5 := (hb.cell 5).trans (show _ = some (.string cn') from rfl); have f5 := hr.free 5; have r5 := (hr.cell 5).trans (show _ = some (.string ε) from rfl)
  have e6 := (hb.cell 6).trans (show _ = some (.int .i64 im') from rfl); have f6 := hr.free 6; have r6 := (hr.cell 6).trans (show _ = some (.int .i64 0) from rfl)
  have e7 := (hb.cell 7).trans (show _ = some (.int .i64 co') from rfl); have f7 := hr.free 7; have r7 := (hr.cell 7).trans (show _ = some (.int .i64 0) from rfl)
  have e8 := (hb.cell 8).trans (show _ = some (.int .i64 mn') from rfl); have f8 := hr.free 8; have r8 := (hr.cell 8).trans (show _ = some (.int .i64 0) from rfl)
  have e9 := (hb.cell 9).trans (show _ = some (.int .i64 mx') from rfl); have f9 := hr.free 9; have r9 := (hr.cell 9).trans (show _ = some (.int .i64 0) from rfl)
  have e10 := (hb.cell 10).trans (show _ = some (.int .i64 gr') from rfl); have f10 := hr.free 10; have r10 := (hr.cell 10).trans (show _ = some (.int .i64 0) from rfl)
  have e11 := (hb.cell 11).trans (show _ = some (.string rn') from rfl); have f11 := hr.free 11; have r11 := (hr.cell 11).trans (show _ = some (.string ε) from rfl)
  have e12 := (hb.cell 12).trans (show _ = some (.string rc') from rfl); have f12 := hr.free 12; have r12 := (hr.cell 12).trans (show _ = some (.string ε) from rfl)
  have e13 := (hb.cell 13).trans (show _ = some (Value.slice a' ts'.length c') from rfl); have f13 := hr.free 13; have r13 := (hr.cell 13).trans (show _ = some (.slice none 0 0) from rfl)
  have e14 := (hb.cell 14).trans (show _ = some (.int .i64 rr') from rfl); have f14 := hr.free 14; have r14 := (hr.cell 14).trans (show _ = some (.int .i64 0) from rfl)
  clear hb hr ht hEC2
  gi_wp2_with fail
  have CS : Chg (fun k => k = w.heap.size + 1) W _ := (Chg.setCell (G := fun k => k = w.heap.size + 1) (Chg.setCell (G := fun k => k = w.heap.size + 1) (Chg.setCell (G := fun k => k = w.heap.size + 1) (Chg.setCell (G := fun k => k = w.heap.size + 1) (Chg.setCell (G := fun k => k = w.heap.size + 1) (Chg.setCell (G := fun k => k = w.heap.size + 1) (Chg.setCell (G := fun k => k = w.heap.size + 1) (Chg.setCell (G := fun k => k = w.heap.size + 1) (Chg.setCell (G := fun k => k = w.heap.size + 1) (Chg.setCell (G := fun k => k = w.heap.size + 1) (Chg.setCell (G := fun k => k = w.heap.size + 1) (Chg.setCell (G := fun k => k = w.heap.size + 1) (Chg.setCell (G := fun k => k = w.heap.size + 1) (Chg.setCell (G := fun k => k = w.heap.size + 1) (Chg.setCell (G := fun k => k = w.heap.size + 1) (Chg.refl _ _) (fun _ => rfl) 0 (.int .i64 k')) (fun _ => rfl) 1 (.string nm')) (fun _ => rfl) 2 (.string tg')) (fun _ => rfl) 3 (.int .i64 n')) (fun _ => rfl) 4 (.int .i64 dr')) (fun _ => rfl) 5 (.string cn')) (fun _ => rfl) 6 (.int .i64 im')) (fun _ => rfl) 7 (.int .i64 co')) (fun _ => rfl) 8 (.int .i64 mn')) (fun _ => rfl) 9 (.int .i64 mx')) (fun _ => rfl) 10 (.int .i64 gr')) (fun _ => rfl) 11 (.string rn')) (fun _ => rfl) 12 (.string rc')) (fun _ => rfl) 13 (.slice a' ts'.length c')) (fun _ => rfl) 14 (.int .i64 rr'))
  have HR1 : Blk W (w.heap.size + 1) #[.int .i64 0, .string ε, .string ε, .int .i64 0, .int .i64 0, .string ε, .int .i64 0, .int .i64 0, .int .i64 0, .int .i64 0, .int .i64 0, .string ε, .string ε, .slice none 0 0, .int .i64 0] 28 := HR.out
  have BF := (((((((((((((((HR1.set 0 (.int .i64 k')).set 1 (.string nm')).set 2 (.string tg')).set 3 (.int .i64 n')).set 4 (.int .i64 dr')).set 5 (.string cn')).set 6 (.int .i64 im')).set 7 (.int .i64 co')).set 8 (.int .i64 mn')).set 9 (.int .i64 mx')).set 10 (.int .i64 gr')).set 11 (.string rn')).set 12 (.string rc')).set 13 (.slice a' ts'.length c')).set 14 (.int .i64 rr'))
  simp only [List.setIfInBounds_toArray, List.set_cons_zero, List.set_cons_succ] at BF
  have hK := CS.blk hD (fun e => by have e : w1.heap.size = w.heap.size + 1 := e; omega)
  have sW := hB.size
  refine ⟨by simp, .inl ⟨_, _, rfl, run_takeDeferred hK, ?_⟩⟩
  have BG := BF.book (Iter.Book.putObj (n := 0) (.deferred none) hK rfl (Nat.zero_le _))
  refine ⟨.agg #[.int .i64 k', .string nm', .string tg', .int .i64 n', .int .i64 dr', .string cn', .int .i64 im', .int .i64 co', .int .i64 mn', .int .i64 mx', .int .i64 gr', .string rn', .string rc', .slice a' ts'.length c', .int .i64 rr'], by simp [results, Tryz.results31, go_sem, BG.cell], ?_⟩
  refine ⟨a', c', by rw [ER.out]; rfl, by rw [ER.out]; exact HT.out, ?_⟩
  have h1 := hB.trans (CS.below (B := w.heap.size) sW (fun k hk e => by have e : k = w.heap.size + 1 := e; omega))
  exact h1.trans ((Iter.Book.putObj (n := w.heap.size) _ hK rfl (by omega)).below.mono (by have := h1.size; omega))
end Go.Proofs.YtnkekdmikopdgaaGreat

/- Whether event's empty finds nothing but a kind. -/
namespace Go.Proofs.YtnkekdmikopdgaaGreat
set_option maxRecDepth 100000
set_option linter.unusedVariables false
set_option linter.unusedSimpArgs false
set_option linter.unnecessarySimpa false
open Go.RowKit

def emptyB (e : EvD) : Bool := strE e.nm && strE e.tg && (e.n == 0) && (e.dr == 0) && cfgB e.c cfg0 && sameR e.rn e.rc e.ts e.rr ε ε [] 0
theorem strE_iff {s : ByteArray} : strE s = true ↔ s = ε := by
  constructor
  · intro h
    have := strE_size h
    obtain ⟨⟨l⟩⟩ := s
    have : l = [] := by cases l with
      | nil => rfl
      | cons x l => simp [ByteArray.size] at this
    subst this; rfl
  · rintro rfl; unfold strE; rw [ByteArray.toList_eq]; rfl
theorem emptyB_iff {e : EvD} : emptyB e = true ↔ e = { ev0 with k := e.k } := by
  obtain ⟨k, nm, tg, n, dr, c, rn, rc, ts, rr⟩ := e
  unfold emptyB ev0
  simp only [Bool.and_eq_true, strE_iff, beq_iff_eq, cfgB_iff, sameR_iff, EvD.mk.injEq, true_and, and_assoc]
  constructor
  · rintro ⟨h1, h2, h3, h4, h5, h6, h7, h8, h9⟩; exact ⟨h1, h2, h3, h4, h5, h6, h7, h9, h8⟩
  · rintro ⟨h1, h2, h3, h4, h5, h6, h7, h8, h9⟩; exact ⟨h1, h2, h3, h4, h5, h6, h7, h9, h8⟩
set_option maxHeartbeats 2000000 in
theorem eempty_any (e : EvD) (a : Option Addr) (c : Nat) (w : World) (ht : TgtSl w a e.ts) (hl : e.ts.length ≤ 1000) :
    Calls Tryz.prog 30 #[.agg (e.cells a c)] w fun x w' => x = .returned (.bool (emptyB e)) ∧ Grow.G w w' := by
  have RC := run_eql_cfg e.c cfg0
  have S := Lib.hid (fun w h => same_at e.rn e.rc a e.ts e.ts.length c e.rr ⟨#[]⟩ ⟨#[]⟩ none [] 0 0 0 w _ rfl rfl hl h (.inl rfl) rfl)
  have HT := Lib.hid ht
  have EB : Hid (emptyB e = (e.nm.toList.isEmpty && e.tg.toList.isEmpty && (e.n == 0) && (e.dr == 0) && cfgB e.c cfg0 && sameR e.rn e.rc e.ts e.rr ⟨#[]⟩ ⟨#[]⟩ [] 0)) := Lib.hid rfl
  generalize emptyB e = z at *
  obtain ⟨k, nm, tg, n, dr, ⟨cn, im, co, mn, mx, gr⟩, rn, rc, ts, rr⟩ := e
  unfold EvD.cells
  unfold Cfg.v cfg0 ε at RC
  unfold cfg0 ε at EB
  dsimp only at *
  generalize cfgB _ _ = cb at *
  generalize sameR rn rc ts rr _ _ _ _ = sb at *
  generalize ts.length = l at *
  clear ht hl
  go_enter Tryz.func30, Tryz.ntmps30
  go_wp2_with fail
  all_goals first
    | (refine (S.out _ (HT.out.later (by (repeat (first | with_reducible exact Grow.G.refl _ | with_reducible exact Below.refl _ _ | with_reducible refine Grow.G.alloc ?_ _ | with_reducible refine Grow.G.trans ?_ hb1 | ((with_reducible refine Below.setCell ?_ ?_ _); rotate_left; (focus (first | omega | (simp; done) | (simp; omega)))) | with_reducible assumption | with_reducible refine Grow.G.trans ?_ (by with_reducible assumption)))))).mono ?_
       rintro e w1 ⟨rfl, hb1⟩
       go_wp2_with fail
       go_ret
       refine ⟨ret_bool ?_, by (repeat (first | with_reducible exact Grow.G.refl _ | with_reducible exact Below.refl _ _ | with_reducible refine Grow.G.alloc ?_ _ | with_reducible refine Grow.G.trans ?_ hb1 | ((with_reducible refine Below.setCell ?_ ?_ _); rotate_left; (focus (first | omega | (simp; done) | (simp; omega)))) | with_reducible assumption | with_reducible refine Grow.G.trans ?_ (by with_reducible assumption)))⟩
       rw [EB.out]
       simp_all
       done)
    | (go_ret
       refine ⟨ret_bool ?_, by (repeat (first | with_reducible exact Grow.G.refl _ | with_reducible exact Below.refl _ _ | with_reducible refine Grow.G.alloc ?_ _ | with_reducible refine Grow.G.trans ?_ hb1 | ((with_reducible refine Below.setCell ?_ ?_ _); rotate_left; (focus (first | omega | (simp; done) | (simp; omega)))) | with_reducible assumption | with_reducible refine Grow.G.trans ?_ (by with_reducible assumption)))⟩
       rw [EB.out]
       simp_all
       done)
end Go.Proofs.YtnkekdmikopdgaaGreat

/- What event's Check tells. -/
namespace Go.Proofs.YtnkekdmikopdgaaGreat
set_option maxRecDepth 100000
set_option linter.unusedVariables false
set_option linter.unusedSimpArgs false
set_option linter.unnecessarySimpa false
open Go.RowKit
attribute [local go_sem] Oper.semAt_some

theorem EvBd.later {w w' : World} {e : EvD} {a : Option Addr} (h : EvBd w e a) (g : Grow.G w w') : EvBd w' e a := ⟨h.nm, h.tg, h.cn, h.rn, h.rc, h.tl, h.ts.later g, h.ok⟩
def errsN (e : EvD) (i : Nat) : Prop := ∀ j, j < i → ((PT.specs e.k).map (PT.err e)).getD j 0 = 0
/-- The event that is being checked: its box; nothing wrong so far. -/
def ChkI (w : World) (g : Nat) (e : EvD) (a : Option Addr) (c : Nat) (pre : List Value) (W : World) : Prop :=
 Blk W g (e.cells a c) 28 ∧ errsN e pre.length ∧ Below w.heap.size w W
set_option maxHeartbeats 4000000 in
theorem echk_any (e : EvD) (a : Option Addr) (c : Nat) (w : World) (hd : EvBd w e a) :
  Calls Tryz.prog 14 #[.agg (e.cells a c)] w fun x w' => x = .returned (.int .i64 e.chk) ∧ Grow.G w w' := by
 have hEC : e.cells a c = #[.int .i64 e.k, .string e.nm, .string e.tg, .int .i64 e.n, .int .i64 e.dr, .string e.c.nm, .int .i64 e.c.im, .int .i64 e.c.co, .int .i64 e.c.mn, .int .i64 e.c.mx, .int .i64 e.c.gr, .string e.rn, .string e.rc, .slice a e.ts.length c, .int .i64 e.rr] := rfl
 have CP := Lib.hid (chk_parts e)
 refine (callsIn_wide (n := 0)).1 ?_
 refine callsIn_of_wp_marks Tryz.func14 rfl trivial ?_
 simp only [Tryz.ntmps14, List.size_toArray, List.length_cons, List.length_nil, Nat.reduceAdd, Nat.reduceSub, Array.replicate_succ, Array.replicate_zero, List.push_toArray, List.append_toArray, List.nil_append, List.cons_append]
 rw [hEC]
 generalize e.chk = z at *
 gi_wp2_with fail
 have G2 : Grow.G w ((w.alloc (.cells (e.cells a c) 28)).alloc (.cells #[.int .i64 0] 33)) := Grow.G.alloc (Grow.G.alloc (Grow.G.refl _) _) _
 refine ⟨trivial, rfl, (callsIn_wide.2 (eknown_any _ _)).mono ?_⟩
 rintro x wx ⟨rfl, rfl⟩
 by_cases h0 : kindB e.k = true
 ·
  have hk0 : ¬ (e.k < 1 ∨ 13 < e.k) := by have := of_decide_eq_true h0; omega
  rw [h0]
  gi_wp2_with fail
  refine ⟨trivial, rfl, (callsIn_wide.2 (erest_any e a c _)).mono ?_⟩
  rintro x w1 ⟨a1, c1, rfl, ht1, hg1⟩
  have GA := G2.trans hg1
  have hl1 : e.rest.ts.length ≤ 1000 := by
   rcases ht1 with ⟨_, h⟩ | h
   ·
    rw [h]; exact hd.tl
   ·
    rw [h]; exact Nat.zero_le _
  have hts1 : TgtSl w1 a1 e.rest.ts := by
   rcases ht1 with ⟨rfl, h⟩ | h
   ·
    rw [h]; exact hd.ts.later GA
   ·
    exact .inl h
  have E1 := Lib.hid (fun w h => eempty_any e.rest a1 c1 w h hl1)
  have C0 : Hid (emptyB e.rest = true ↔ e.rest = { ev0 with k := e.k }) := Lib.hid (by rw [emptyB_iff, rest_k])
  have B0 : Blk w1 w.heap.size (e.cells a c) 28 := ((Blk.new w _ _).alloc _).grow hg1
  have R0 : Blk w1 (w.heap.size + 1) #[.int .i64 0] 33 := by
   have := Blk.new (w.alloc (.cells (e.cells a c) 28)) #[.int .i64 0] 33
   rw [World.size_alloc] at this
   exact this.grow hg1
  clear ht1 hl1 hg1 G2
  gi_wp2_with fail
  refine ⟨trivial, rfl, (callsIn_wide.2 (E1.out _ hts1)).mono ?_⟩
  rintro x w2 ⟨rfl, hg2⟩
  replace GA := GA.trans hg2
  replace B0 := B0.grow hg2
  replace R0 := R0.grow hg2
  clear E1 hts1 hg2
  have hw2 : w.heap.size + 2 ≤ w2.heap.size := by have := R0.lt; omega
  by_cases h1 : emptyB e.rest = true
  ·
   have hr : ¬ (e.rest ≠ { ev0 with k := e.k }) := fun h => h (C0.out.1 h1)
   have FZ : Hid (z = fst0 ((PT.specs e.k).map (PT.err e))) := Lib.hid (by rw [CP.out, if_neg hk0, if_neg hr])
   rw [h1]
   clear CP C0 hr
   have e0 := evcell B0 (i := 0) rfl
   gi_wp2_with fail
   refine ⟨trivial, rfl, (callsIn_wide.2 (parts_new _ _)).mono ?_⟩
   rintro x w3 ⟨kb, rfl, hkb, hk, hg3⟩
   gi_wp2_with fail
   replace GA := GA.trans hg3
   replace B0 := B0.grow hg3
   replace R0 := R0.grow hg3
   have hw3 : w.heap.size + 2 ≤ w3.heap.size := by have := hg3.size; omega
   clear e0 hg3
   refine Iter.range (gf := 55) (lb := #[ptr kb]) (encs := fun v => #[v]) (Ok := PartOk e.k) (Kp := fun _ _ => True) (S := fun xs => xs.length = (PT.specs e.k).length) rfl (enters_of Tryz.func55 (by kernel_rfl) rfl) (parts_seq e.k kb w3 _ hk) (Grow.G.refl _) (fun _ => rfl) (fun s x A B h b => partOk_book h b) (fun _ _ => trivial) (fun _ => trivial)
    (fun pre W => ChkI w w.heap.size e a c pre W ∧ Blk W (w.heap.size + 1) #[.int .i64 0] 33)
    (fun cd pre W => cd = .ret ∧ Blk W (w.heap.size + 1) #[.int .i64 z] 33 ∧ Below w.heap.size w W) ?hI ?hIx ?h0 ?round ?done ?stop
   case hI =>
    rintro s A B ⟨⟨hb, he, hB⟩, hr⟩ hbk
    exact ⟨⟨hb.book hbk, he, hB.trans (hbk.below.mono (by have := hB.size; omega))⟩, hr.book hbk⟩
   case hIx =>
    rintro cd s A B ⟨h1, h2, hB⟩ hbk
    exact ⟨h1, h2.book hbk, hB.trans (hbk.below.mono (by have := hB.size; omega))⟩
   case h0 => exact ⟨⟨B0, fun j hj => absurd hj (Nat.not_lt_zero _), GA⟩, R0⟩
   case round =>
    rintro l pre x W hl ⟨⟨hb, he, hB⟩, hr⟩ ⟨p, hp, hpt⟩
    obtain ⟨F1, F2, F3, F4, pa, pb, rfl, fs⟩ := part_fs hpt
    have n1 := fs.e2
    unfold Ent at n1
    simp only [zip_one, List.setIfInBounds_toArray, List.set_cons_zero, List.set_cons_succ]
    gi_wp2_with fail
    refine ⟨Grow.G.alloc (Grow.G.refl _) _, fun W₂ hbk hok => ?_⟩
    have hgW := (Grow.G.alloc (Grow.G.refl W) (.cells #[.func (.func F1) #[] #[ptr pa], .func (.func F2) #[] #[ptr pb, ptr pa], .func (.func F3) #[] #[ptr pb, ptr pa], .func (.func F4) #[] #[ptr pb, ptr pa]] 73))
    have q0 := ((Blk.new W #[.func (.func F1) #[] #[ptr pa], .func (.func F2) #[] #[ptr pb, ptr pa], .func (.func F3) #[] #[ptr pb, ptr pa], .func (.func F4) #[] #[ptr pb, ptr pa]] 73).book hbk).cell 1
    simp at q0
    have P2 := (hpt.book (Iter.Book.grow (n := 0) hgW)).book hbk
    have C2 := (hb.grow hgW).book hbk
    have R2 := (hr.grow hgW).book hbk
    have BW := ((hB.trans (Below.mono hgW hB.size)).trans (hbk.below.mono (by have := hB.size; have := hgW.size; omega)))
    have hD2 : EvBd W₂ e a := hd.later BW
    have AT : ((PT.specs e.k).map (PT.err e)).getD pre.length 0 = PT.err e p := by simp [List.getD, hp]
    have PL : pre.length < ((PT.specs e.k).map (PT.err e)).length := by
     rw [List.length_map]; exact (List.getElem?_eq_some_iff.1 hp).1
    gi_wp2_with fail
    refine ⟨trivial, rfl, (CallsIn.inRound l (callsIn_wide.2 (fs.chk _ _ _ _ _ P2 C2 hD2))).mono ?_⟩
    rintro y W₃ ⟨rfl, hg4⟩
    have HC := Lib.hid (C2.grow hg4)
    have HR := Lib.hid (R2.grow hg4)
    have r0 := evcell HR.out (i := 0) rfl
    have rf := HR.out.free 0
    have rl := HR.out.lt
    have HB4 := Lib.hid (And.intro he (BW.trans (Below.mono hg4 BW.size)))
    have HG4 := Lib.hid hg4
    have HAT := Lib.hid AT
    have HPL := Lib.hid PL
    clear AT PL hg4 C2 R2 BW hD2 P2 q0 hgW hbk hok hb hr hB he n1
    by_cases hz : PT.err e p = 0
    ·
     rw [hz]
     gi_wp2_with fail
     refine ⟨Iter.Rest.grow HG4.out, trivial, ⟨HC.out, ?_, HB4.out.2⟩, HR.out⟩
     intro j hj
     rw [List.length_append, List.length_singleton] at hj
     by_cases ej : j = pre.length
     ·
      rw [ej, HAT.out, hz]
     ·
      exact HB4.out.1 j (by omega)
    ·
     have hz' : (PT.err e p != 0) = true := by simpa using hz
     have ZE : z = PT.err e p := by rw [FZ.out, fst0_at _ _ HPL.out HB4.out.1 (by rw [HAT.out]; exact hz), HAT.out]
     rw [← ZE] at hz' ⊢
     clear hz ZE HAT HPL
     gi_wp2_with fail
     refine ⟨Iter.Rest.trans (Iter.Rest.grow HG4.out) (Iter.Rest.setCell _ _ _), rfl, HR.out.set 0 _, ?_⟩
     exact HB4.out.2.trans ((Chg.setCell (G := fun k => k = w.heap.size + 1) (Chg.refl _ W₃) (fun _ => rfl) 0 (.int .i64 z)).below (B := w.heap.size) (by have := HB4.out.2.size; omega) (fun k hk q => by have q : k = w.heap.size + 1 := q; omega))
   case done =>
    rintro xs W hS ⟨⟨hb, he, hB⟩, hr⟩ hD
    replace hS : xs.length = (PT.specs e.k).length := hS
    have ZZ : Hid (z = 0) := Lib.hid (by rw [FZ.out]; exact fst0_none _ fun j hj => he j (by rw [hS]; simpa using hj))
    have sW := hB.size
    have HB := Lib.hid hB
    have HR := Lib.hid hr
    have HDD := Lib.hid hD
    have r0 := evcell hr (i := 0) rfl
    have rf := hr.free 0
    have rl := hr.lt
    clear hb he hB hr hD hS
    gi_wp2_with fail
    have CS : Chg (fun k => k = w.heap.size + 1) W (W.setCell ⟨w.heap.size + 1, 0, none⟩ (.int .i64 0)) := Chg.setCell (G := fun k => k = w.heap.size + 1) (Chg.refl _ _) (fun _ => rfl) _ _
    have hK := CS.blk HDD.out (fun q => by have q : w3.heap.size = w.heap.size + 1 := q; omega)
    refine ⟨by simp, .inl ⟨_, _, rfl, run_takeDeferred hK, ?_⟩⟩
    have BG := (HR.out.set 0 (.int .i64 0)).book (Iter.Book.putObj (n := 0) (.deferred none) hK rfl (Nat.zero_le _))
    have hX := HB.out.trans (CS.below (B := w.heap.size) sW (fun k hk q => by have q : k = w.heap.size + 1 := q; omega))
    refine ⟨.int .i64 0, by simp [results, Tryz.results14, go_sem, BG.cell], by rw [ZZ.out], ?_⟩
    exact hX.trans ((Iter.Book.putObj (n := w.heap.size) _ hK rfl (by omega)).below.mono (by have := hX.size; omega))
   case stop =>
    rintro cd pre W ⟨rfl, hb, hB⟩ hD
    have sW := hB.size
    gi_wp2_with fail
    refine ⟨by simp, .inl ⟨_, _, rfl, run_takeDeferred hD, ?_⟩⟩
    have BG := hb.book (Iter.Book.putObj (n := 0) (.deferred none) hD rfl (Nat.zero_le _))
    refine ⟨.int .i64 z, by simp [results, Tryz.results14, go_sem, BG.cell], rfl, ?_⟩
    exact hB.trans ((Iter.Book.putObj (n := w.heap.size) _ hD rfl (by omega)).below.mono (by have := hB.size; omega))
  ·
   have hr : e.rest ≠ { ev0 with k := e.k } := fun h => h1 (C0.out.2 h)
   have ZZ : Hid (z = 2) := Lib.hid (by rw [CP.out, if_neg hk0, if_pos hr])
   rw [show emptyB e.rest = false by simpa using h1]
   clear hr C0 CP
   have HR := Lib.hid R0
   have r0 := evcell R0 (i := 0) rfl
   have rf := R0.free 0
   have rl := R0.lt
   clear R0 B0
   gi_wp2_with fail
   have BG := HR.out.set 0 (.int .i64 2)
   refine ⟨.int .i64 2, by simp [results, Tryz.results14, go_sem, BG.cell], by rw [ZZ.out], ?_⟩
   exact Below.trans GA ((Chg.setCell (G := fun k => k = w.heap.size + 1) (Chg.refl _ w2) (fun _ => rfl) 0 (.int .i64 2)).below (B := w.heap.size) (by omega) (fun k hk q => by have q : k = w.heap.size + 1 := q; omega))
 ·
  rw [show kindB e.k = false by simpa using h0]
  gi_wp2_with fail
  refine ⟨.int .i64 12, by simp [results, Tryz.results14, go_sem], ?_, (by (repeat (first | with_reducible exact Grow.G.refl _ | with_reducible exact Below.refl _ _ | with_reducible refine Grow.G.alloc ?_ _ | with_reducible refine Grow.G.trans ?_ hb1 | ((with_reducible refine Below.setCell ?_ ?_ _); rotate_left; (focus (first | omega | (simp; done) | (simp; omega)))) | with_reducible assumption | with_reducible refine Grow.G.trans ?_ (by with_reducible assumption))))⟩
  rw [CP.out, if_pos (by
   have : ¬ (1 ≤ e.k ∧ e.k ≤ 13) := fun h => h0 (decide_eq_true h)
   omega)]
end Go.Proofs.YtnkekdmikopdgaaGreat

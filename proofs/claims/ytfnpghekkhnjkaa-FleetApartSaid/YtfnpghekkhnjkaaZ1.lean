/- My own texts Base, Label, Rev, Text, Region, IntsV, Dig, Split, Split2, Split3, Known, Parse, laid in one file. -/
import Derived.Test.YtfnpghekkhnjkaaRows
import Derived.Test.YtfnpghekkhnjkaaShelf
import Derived.WalkKit
import Derived.WalkSpells
import Derived.WalkLawsBesides
import Derived.Lib.Hide
import Derived.Lib.OthersKept
import Derived.Deep.LoopGhost
import Derived.Deep.RegionHeld3
import Derived.Deep.QuietTactic
import Derived.BigQuiet
import Derived.Lib.LaidTab
import Derived.Lib.Strings
import Derived.Lib.ItoaNum
import Derived.OrdersHeld
import Derived.Below
import Derived.KernelRfl
import Derived.Lib.LastIndexByte

/- Small facts for every walk; within of each package of laws. -/
namespace Go.Proofs.Ytfnpghekkhnjkaa
set_option maxRecDepth 100000
set_option linter.unusedVariables false
set_option linter.unusedSimpArgs false
set_option linter.unnecessarySimpa false
open Go.RowKit

def withinI (a n : Int) : Int := if a.tmod n < 0 then a.tmod n + n else a.tmod n
theorem withinI_range (a n : Int) (h : 1 ≤ n) : 0 ≤ withinI a n ∧ withinI a n < n := by
  have h1 := Int.tmod_lt_of_pos a (show 0 < n by omega)
  have h2 : -n < a.tmod n := by
    have := Int.lt_tmod_of_pos a (show 0 < n by omega); omega
  unfold withinI
  split <;> omega
theorem ret_i64 {a b : Int} (h : a = b) : Ending.returned (.int .i64 a) = .returned (.int .i64 b) := by rw [h]

def wf64 (n : Int) : Prop := -9223372036854775808 ≤ n ∧ n ≤ 9223372036854775807
structure IntCells (w : World) (b off : Nat) (zs : List Int) : Prop where
  cell : ∀ i, i < zs.length → w.cell? ⟨b, off + i, none⟩ = some (.int .i64 (zs.getD i 0))
  wf : ∀ i, wf64 (zs.getD i 0)
  len : zs.length ≤ maxLen
def IntSlice (w : World) (v : Value) (zs : List Int) : Prop :=
  (∃ b off cap, v = .slice (some ⟨b, off, none⟩) zs.length cap ∧ IntCells w b off zs) ∨ (zs = [] ∧ ∃ a cap, v = .slice a 0 cap)
theorem IntSlice.below {w w' : World} {v : Value} {zs : List Int} (h : IntSlice w v zs) (hb : Below w.heap.size w w') : IntSlice w' v zs := by
  rcases h with ⟨b, off, cap, hv, h⟩ | h
  · exact .inl ⟨b, off, cap, hv, ⟨fun i hi => cell_later hb (h.cell i hi), h.wf, h.len⟩⟩
  · exact .inr h

theorem cell_new {w : World} {cs : Array Value} {t : TypeId} {b k : Nat} {v : Value} (h : cs[k]? = some v) (hb : b = w.heap.size) : (w.alloc (.cells cs t)).cell? ⟨b, k, none⟩ = some v := by
  subst hb
  simp [World.cell?_alloc_new, h]
set_option maxHeartbeats 400000 in
theorem within11_any (a n : Int) (w : World) (hn : 1 ≤ n) (hn2 : n ≤ 1000000000) (ha : -9223372036854775808 ≤ a) (ha2 : a ≤ 9223372036854775807) :
    Calls Try.prog 11 #[.int .i64 a, .int .i64 n] w fun e w' => e = .returned (.int .i64 (withinI a n)) ∧ w = w' := by
  have h1 := Int.tmod_lt_of_pos a (show 0 < n by omega)
  have h2 : -n < a.tmod n := by
    have := Int.lt_tmod_of_pos a (show 0 < n by omega); omega
  by_cases h : a.tmod n < 0
  · have E : Hid (withinI a n = a.tmod n + n) := Lib.hid (by unfold withinI; rw [if_pos h])
    go_enter Try.func11, Try.ntmps11
    go_wp2
    go_ret
    exact ⟨ret_i64 E.out.symm, rfl⟩
  · have E : Hid (withinI a n = a.tmod n) := Lib.hid (by unfold withinI; rw [if_neg h])
    go_enter Try.func11, Try.ntmps11
    go_wp2
    go_ret
    exact ⟨ret_i64 E.out.symm, rfl⟩

def sgn (c : Int) : Bool := decide (97 ≤ c ∧ c ≤ 122 ∨ 48 ≤ c ∧ c ≤ 57 ∨ c = 45)


def byteAt (s : ByteArray) (i : Nat) : Nat := (s.get! i).toNat
theorem byteAt_eq (s : ByteArray) (i : Nat) (h : i < s.size) : byteAt s i = s[i].toNat := by
  unfold byteAt
  simp [ByteArray.get!, getElem!_pos, h]
  rfl
def nameP (m : Nat) (s : ByteArray) : Prop := 1 ≤ s.size ∧ s.size ≤ m ∧ 97 ≤ byteAt s 0 ∧ byteAt s 0 ≤ 122 ∧ byteAt s (s.size - 1) ≠ 45 ∧ ∀ i, i < s.size → sgn (byteAt s i) = true
instance (m : Nat) (s : ByteArray) : Decidable (nameP m s) := by unfold nameP; infer_instance
def nameB (m : Nat) (s : ByteArray) : Bool := decide (nameP m s)


def Tab (w : World) : Prop := Lib.TabIs Try.prog w "internal/strconv.uint64pow10" .u64 Lib.pow10Tab
theorem Tab.below {w w' : World} (h : Tab w) (hb : Below w.heap.size w w') : Tab w' := by
  unfold Tab Lib.TabIs World.var? at *
  cases hg : Try.prog.globalNamed "internal/strconv.uint64pow10" with
  | none => rw [hg] at h; simp at h
  | some g =>
    rw [hg] at h
    simp only [Option.bind_some] at h ⊢
    have hlt : g < w.heap.size := by
      rcases Nat.lt_or_ge g w.heap.size with h' | h'
      · exact h'
      · rw [Array.getElem?_eq_none h'] at h; simp at h
    rw [hb.block g hlt]; exact h

def digS (n : Nat) : ByteArray := ⟨(Lib.decDigits n).toArray⟩

theorem digS_small {n : Nat} (h : n < 10) : digS n = ⟨#[UInt8.ofNat (48 + n)]⟩ := by unfold digS; rw [Lib.decDigits_one h]
theorem digS_big {n : Nat} (h : ¬ n < 10) : digS n = digS (n / 10) ++ digS (n % 10) := by
  unfold digS
  rw [Lib.decDigits_one (show n % 10 < 10 by omega)]
  conv => lhs; rw [Lib.decDigits, dif_neg h]
  apply ByteArray.ext
  simp [ByteArray.data_append]

theorem digS_size : ∀ (k n : Nat), n < 10 ^ (k + 1) → (digS n).size ≤ k + 1
  | 0, n, h => by rw [digS_small (by simpa using h)]; exact Nat.le_refl _
  | k + 1, n, h => by
    by_cases hs : n < 10
    · rw [digS_small hs]; show 1 ≤ _; omega
    · rw [digS_big hs, ByteArray.size_append, digS_small (show n % 10 < 10 by omega)]
      have := digS_size k (n / 10) (by rw [Nat.pow_succ] at h; omega)
      show _ + 1 ≤ _
      omega

def pieces : List ByteArray := [⟨#[97]⟩, ⟨#[122]⟩, ⟨#[48]⟩, ⟨#[57]⟩, ⟨#[45]⟩, ⟨#[98]⟩, ⟨#[49]⟩, ⟨#[65]⟩, ⟨#[95]⟩, ⟨#[195, 169]⟩, ⟨#[97]⟩, ⟨#[55]⟩]
def piece (k : Int) : ByteArray := pieces.getD (withinI k 12).toNat ⟨#[]⟩
end Go.Proofs.Ytfnpghekkhnjkaa

/- Regions whose order is open, where each operation may only read and make memory: one order stands for all. No program is named here. -/
namespace Go.Grow
set_option linter.unusedVariables false
open Go.RowKit

/-- w1 is w with more memory behind it. -/
abbrev G (w w1 : World) : Prop := Below w.heap.size w w1
theorem G.refl (w : World) : G w w := Below.refl _ _
theorem G.trans {a b c : World} (h : G a b) (k : G b c) : G a c := Below.trans h (Below.mono k h.size)
theorem G.drawn {w : World} (n : Nat) : G w { w with drawn := n } := ⟨rfl, rfl, rfl, Nat.le_refl _, fun _ _ => rfl⟩
theorem G.alloc {a w : World} (h : G a w) (o : Obj) : G a (w.alloc o) := Below.alloc h h.size o

section
variable {P : Program} {ops : Array Oper} {Q : Exit → Act → World → Prop} {md : Region.Mode}

/-- The computation s yields v in world w, and leaves a grown world. -/
def RunsG (P : Program) (s : Sem Next) (w : World) (v : Value) : Prop :=
  (∃ w2, s.run P w = .ok (.value v) w2 ∧ G w w2) ∨
  ∃ f args w2, s.run P w = .ok (.enter f args) w2 ∧ G w w2 ∧ Calls P f args w2 fun e w' => e = .returned v ∧ G w2 w'

/-- Operation o yields v in every world that has grown out of w. -/
def YieldsG (P : Program) (ops : Array Oper) (o : Oper) (v : Value) (a : Act) (w : World) : Prop :=
  (Region.wanted o (yielded ops a.tmps) = true ∧ ∀ w1, G w w1 → RunsG P (execOp a.eval o) w1 v) ∨
  (Region.wanted o (yielded ops a.tmps) = false ∧ v = undef)

theorem YieldsG.mono {o : Oper} {v : Value} {a : Act} {w w1 : World} (h : YieldsG P ops o v a w) (g : G w w1) : YieldsG P ops o v a w1 :=
  h.imp (fun ⟨hw, hv⟩ => ⟨hw, fun w2 g2 => hv w2 (g.trans g2)⟩) id

theorem YieldsG.same {o : Oper} {v : Value} {a a' : Act} {w : World} (h : YieldsG P ops o v a w) (he : execOp a'.eval o = execOp a.eval o)
    (hw : Region.wanted o (yielded ops a'.tmps) = Region.wanted o (yielded ops a.tmps)) : YieldsG P ops o v a' w := by
  unfold YieldsG at *
  rw [he, hw]; exact h

theorem YieldsG.op {i : Nat} {o : Oper} {v : Value} {a : Act} {w : World} (hi : ops[i]? = some o) (hy : YieldsG P ops o v a w)
    {K : Act → World → Prop} (h : ∀ w1, G w w1 → K (a.put o.dst v) w1) : wpOp P ops Q i K a w := by
  unfold wpOp
  simp only [hi]
  rcases hy with ⟨hw, hv⟩ | ⟨hw, rfl⟩
  · simp only [hw, if_true]
    refine .inl ?_
    unfold Oper.wp
    rcases hv w (G.refl w) with ⟨w2, hr, g⟩ | ⟨f, args, w2, hr, g, hc⟩
    · rw [hr]; exact h w2 g
    · rw [hr]
      exact Calls.mono hc fun e w' ⟨he, g'⟩ => by subst he; exact h w' (g.trans g')
  · simp only [hw, Bool.false_eq_true, if_false]
    exact h w (G.refl w)

/-- What oj does is the same with oi's value laid ahead of it, and oi does the same behind it. -/
theorem commute {j : Nat} {oi oj : Oper} {v : Value} (hj : ops[j]? = some oj) (hap : oi.apart ops oj = true)
    (hsi : ∀ cs b, oi.op ≠ .select cs b) (hsj : ∀ cs b, oj.op ≠ .select cs b)
    (hQ : ∀ c a w, Q (.panic c) (a.put oi.dst v) w → Q (.panic c) a w) {K : Act → World → Prop} {a : Act} {w : World}
    (h : wpOp P ops Q j K (a.put oi.dst v) w) :
    wpOp P ops Q j (fun a' w' => (execOp a'.eval oi = execOp a.eval oi ∧ Region.wanted oi (yielded ops a'.tmps) = Region.wanted oi (yielded ops a.tmps)) ∧ K (a'.put oi.dst v) w') a w := by
  obtain ⟨h1, h2, h3⟩ := Oper.apart_spec hap
  have keep : ∀ (b : Act) u, execOp (b.put oj.dst u).eval oi = execOp b.eval oi ∧ Region.wanted oi (yielded ops (b.put oj.dst u).tmps) = Region.wanted oi (yielded ops b.tmps) :=
    fun b u => ⟨execOp_put oi hsi b oj.dst u h3, wanted_put oi b oj.dst u h3⟩
  unfold wpOp at h ⊢
  simp only [hj] at h ⊢
  rw [wanted_put oj a oi.dst v h1] at h
  by_cases hw : Region.wanted oj (yielded ops a.tmps) = true
  · simp only [hw, if_true] at h ⊢
    rcases h with h | ⟨hasks, hlets⟩
    · refine .inl ?_
      unfold Oper.wp at h ⊢
      rw [execOp_put oj hsj a oi.dst v h1] at h
      cases hr : (execOp a.eval oj).run P w with
      | ok n w' =>
        rw [hr] at h
        cases n <;> simp only [Oper.upon] at h ⊢
        case value u => exact ⟨keep a u, by rw [← Act.put_comm a v u h2]; exact h⟩
        case skip => exact ⟨keep a undef, by rw [← Act.put_comm a v undef h2]; exact h⟩
        case defer d =>
          refine ⟨keep { a with defers := d :: a.defers } undef, ?_⟩
          rw [← Act.put_comm _ v undef h2, ← Act.put_defers]
          exact h
        case enter f args =>
          refine Calls.mono h fun e w'' he => ?_
          cases e with
          | returned u => exact ⟨keep a u, by rw [← Act.put_comm a v u h2]; exact he⟩
          | panicked c => exact hQ _ _ _ he
          | outgrown => exact he
        case row row args => exact Rows.mono h fun u w'' he => ⟨keep a u, by rw [← Act.put_comm a v u h2]; exact he⟩
      | halt x w' =>
        rw [hr] at h
        cases x <;> simp only [Oper.upon] at h ⊢
        case panic u => exact hQ _ _ _ h
    · exact .inr ⟨by unfold Oper.asks at hasks ⊢; rw [execOp_put oj hsj a oi.dst v h1] at hasks; exact hasks, hlets⟩
  · simp only [hw] at h ⊢
    exact ⟨keep a undef, by rw [← Act.put_comm a v undef h2]; exact h⟩

/-- Whatever order is picked from here on, in whatever world has grown out of this one. -/
def wpAnyG (P : Program) (md : Region.Mode) (ops : Array Oper) (Q : Exit → Act → World → Prop) : Nat → Array Bool → Act → World → Prop
  | 0, listed, a, w => Region.ready md ops listed = [] ∧ ∀ w1, G w w1 → Q .normal a w1
  | fuel + 1, listed, a, w => ∀ w1, G w w1 → (Region.ready md ops listed = [] → Q .normal a w1) ∧
    ∀ i ∈ Region.ready md ops listed, wpOp P ops Q i (fun a' w' => G w1 w' ∧ wpAnyG P md ops Q fuel (listed.setIfInBounds i true) a' w') a w1

theorem wpAnyG.any : ∀ (fuel : Nat) (listed : Array Bool) (a : Act) (w : World), wpAnyG P md ops Q fuel listed a w → wpAny P md ops Q fuel listed a w
  | 0, _, _, w, h => ⟨h.1, h.2 w (G.refl w)⟩
  | fuel + 1, _, _, w, h => ⟨(h w (G.refl w)).1, fun i hi => wpOp_mono (fun a' w' h' => wpAnyG.any fuel _ a' w' h'.2) ((h w (G.refl w)).2 i hi)⟩
theorem wpAnyG.mono {listed : Array Bool} {a : Act} {w w1 : World} : ∀ {fuel : Nat}, wpAnyG P md ops Q fuel listed a w → G w w1 → wpAnyG P md ops Q fuel listed a w1
  | 0, h, g => ⟨h.1, fun w2 g2 => h.2 w2 (g.trans g2)⟩
  | _ + 1, h, g => fun w2 g2 => h w2 (g.trans g2)

theorem take {i : Nat} {oi : Oper} {v : Value} (hi : ops[i]? = some oi) (hsel : Region.noSelect ops = true)
    (hQ : ∀ c a w, Q (.panic c) (a.put oi.dst v) w → Q (.panic c) a w) :
    ∀ (fuel : Nat) (listed : Array Bool) (a : Act) (w : World),
      (∀ j oj, ops[j]? = some oj → j ≠ i → listed.getD j true = false → (∀ e ∈ oj.after, Region.binds md e = true → e.on ≠ i) → oi.apart ops oj = true) →
      i ∈ Region.ready md ops listed → YieldsG P ops oi v a w →
      wpAnyG P md ops Q fuel (listed.setIfInBounds i true) (a.put oi.dst v) w → wpAnyG P md ops Q (fuel + 1) listed a w := by
  intro fuel
  induction fuel with
  | zero =>
    intro listed a w hfree hr hy H w1 g
    refine ⟨fun h => absurd hr (by rw [h]; simp), fun j hj => ?_⟩
    by_cases hji : j = i
    · subst hji
      exact (hy.mono g).op hi fun w2 g2 => ⟨g2, H.mono (g.trans g2)⟩
    · have h1 := ready_mono hj hji
      rw [H.1] at h1; cases h1
  | succ fuel ih =>
    intro listed a w hfree hr hy H w1 g
    refine ⟨fun h => absurd hr (by rw [h]; simp), fun j hj => ?_⟩
    by_cases hji : j = i
    · subst hji
      exact (hy.mono g).op hi fun w2 g2 => ⟨g2, H.mono (g.trans g2)⟩
    · have h1 := (H w1 g).2 j (ready_mono hj hji)
      obtain ⟨hjun, oj, hoj, hall⟩ := mem_ready.1 hj
      have hnot : ∀ e ∈ oj.after, Region.binds md e = true → e.on ≠ i := fun e he hb heq => by
        have h2 := hall e he hb
        have h0 := (mem_ready.1 hr).1
        rw [heq] at h2
        rcases Nat.lt_or_ge i listed.size with h' | h'
        · simp [h'] at h0 h2; rw [h0] at h2; cases h2
        · simp [Array.getElem?_eq_none h'] at h2
      have h2 := commute hoj (hfree j oj hoj hji hjun hnot) (fun cs b => Region.noSelect_spec hsel i oi cs b hi) (fun cs b => Region.noSelect_spec hsel j oj cs b hoj) hQ h1
      refine wpOp_mono (fun a' w' h3 => ?_) h2
      obtain ⟨⟨he, hw⟩, g3, h4⟩ := h3
      refine ⟨g3, ih (listed.setIfInBounds j true) a' w' (fun k ok hk hki hun hno => ?_) (ready_mono hr (Ne.symm hji)) (((hy.mono g).mono g3).same he hw) ?_⟩
      · refine hfree k ok hk hki ?_ hno
        by_cases hjk : j = k
        · subst hjk; exact hjun
        · rw [getD_set_ne true hjk] at hun; exact hun
      · rw [Array.setIfInBounds_comm _ _ hji]; exact h4

/-- The region in one order, the world closed under growth. -/
def seqG (P : Program) (ops : Array Oper) (Q : Exit → Act → World → Prop) : List Nat → Act → World → Prop
  | [], a, w => ∀ w1, G w w1 → Q .normal a w1
  | i :: rest, a, w => ∃ o v, ops[i]? = some o ∧ YieldsG P ops o v a w ∧ seqG P ops Q rest (a.put o.dst v) w

theorem seqG.value {i : Nat} {rest : List Nat} {a : Act} {w : World} {o : Oper} (v : Value) (hi : ops[i]? = some o) (hw : Region.wanted o (yielded ops a.tmps) = true)
    (hv : ∀ w1, G w w1 → (execOp a.eval o).run P w1 = .ok (.value v) w1) (h : seqG P ops Q rest (a.put o.dst v) w) : seqG P ops Q (i :: rest) a w :=
  ⟨o, v, hi, .inl ⟨hw, fun w1 g => .inl ⟨w1, hv w1 g, G.refl w1⟩⟩, h⟩
theorem seqG.idle {i : Nat} {rest : List Nat} {a : Act} {w : World} {o : Oper} (hi : ops[i]? = some o) (hw : Region.wanted o (yielded ops a.tmps) = false)
    (h : seqG P ops Q rest (a.put o.dst undef) w) : seqG P ops Q (i :: rest) a w :=
  ⟨o, undef, hi, .inr ⟨hw, rfl⟩, h⟩
theorem seqG.call {i : Nat} {rest : List Nat} {a : Act} {w : World} {o : Oper} (v : Value) (f : FuncId) (args : Array Value) (hi : ops[i]? = some o) (hw : Region.wanted o (yielded ops a.tmps) = true)
    (hv : ∀ w1, (execOp a.eval o).run P w1 = .ok (.enter f args) w1) (hc : ∀ w1, G w w1 → Calls P f args w1 fun e w' => e = .returned v ∧ G w1 w')
    (h : seqG P ops Q rest (a.put o.dst v) w) : seqG P ops Q (i :: rest) a w :=
  ⟨o, v, hi, .inl ⟨hw, fun w1 g => .inr ⟨f, args, w1, hv w1, G.refl w1, hc w1 g⟩⟩, h⟩
theorem seqG.done {a : Act} {w : World} (h : ∀ w1, G w w1 → Q .normal a w1) : seqG P ops Q [] a w := h

/-- The same, the operations taken in the text's order, off the list itself. -/
def seqT (P : Program) (ops : Array Oper) (Q : Exit → Act → World → Prop) : List Oper → Act → World → Prop
  | [], a, w => ∀ w1, G w w1 → Q .normal a w1
  | o :: rest, a, w => ∃ v, YieldsG P ops o v a w ∧ seqT P ops Q rest (a.put o.dst v) w
theorem seqT.value {rest : List Oper} {a : Act} {w : World} {o : Oper} (v : Value) (hw : Region.wanted o (yielded ops a.tmps) = true)
    (hv : ∀ w1, G w w1 → (execOp a.eval o).run P w1 = .ok (.value v) w1) (h : seqT P ops Q rest (a.put o.dst v) w) : seqT P ops Q (o :: rest) a w :=
  ⟨v, .inl ⟨hw, fun w1 g => .inl ⟨w1, hv w1 g, G.refl w1⟩⟩, h⟩
theorem seqT.idle {rest : List Oper} {a : Act} {w : World} {o : Oper} (hw : Region.wanted o (yielded ops a.tmps) = false)
    (h : seqT P ops Q rest (a.put o.dst undef) w) : seqT P ops Q (o :: rest) a w :=
  ⟨undef, .inr ⟨hw, rfl⟩, h⟩
theorem seqT.call {rest : List Oper} {a : Act} {w : World} {o : Oper} (v : Value) (f : FuncId) (args : Array Value) (hw : Region.wanted o (yielded ops a.tmps) = true)
    (hv : ∀ w1, (execOp a.eval o).run P w1 = .ok (.enter f args) w1) (hc : ∀ w1, G w w1 → Calls P f args w1 fun e w' => e = .returned v ∧ G w1 w')
    (h : seqT P ops Q rest (a.put o.dst v) w) : seqT P ops Q (o :: rest) a w :=
  ⟨v, .inl ⟨hw, fun w1 g => .inr ⟨f, args, w1, hv w1, G.refl w1, hc w1 g⟩⟩, h⟩
theorem seqT.done {a : Act} {w : World} (h : ∀ w1, G w w1 → Q .normal a w1) : seqT P ops Q [] a w := h
end
end Go.Grow

/- A row of numbers as values; a pointer to a block's first cell. -/
namespace Go.Proofs.Ytfnpghekkhnjkaa
abbrev pz (b : Nat) : Value := .pointer (some ⟨b, 0, none⟩)
abbrev intsV (l : List Int) : List Value := l.map (Value.int .i64)
end Go.Proofs.Ytfnpghekkhnjkaa

/- Numerals and revisions' names: plain facts about bytes. -/
namespace Go.Proofs.Ytfnpghekkhnjkaa
set_option maxRecDepth 100000
set_option linter.unusedVariables false
set_option linter.unusedSimpArgs false
set_option linter.unnecessarySimpa false
open Go.RowKit

def valL (l : List UInt8) : Nat := l.foldl (fun v c => v * 10 + (c.toNat - 48)) 0
theorem valL_snoc (l : List UInt8) (c : UInt8) : valL (l ++ [c]) = valL l * 10 + (c.toNat - 48) := by
  simp [valL, List.foldl_append]
def dgU (c : UInt8) : Prop := 48 ≤ c.toNat ∧ c.toNat ≤ 57
def numL (l : List UInt8) : Prop := l ≠ [] ∧ l.head? ≠ some 48 ∧ ∀ c, c ∈ l → dgU c

theorem toNat_ofNat_dig {d : Nat} (h : d < 10) : (UInt8.ofNat (48 + d)).toNat = 48 + d := by
  simp only [UInt8.toNat_ofNat']
  omega
theorem dec_num (n : Nat) : 1 ≤ n → numL (Lib.decDigits n) ∧ valL (Lib.decDigits n) = n := by
  induction n using Nat.strongRecOn with
  | _ n ih =>
    intro h
    by_cases hs : n < 10
    · rw [Lib.decDigits_one hs]
      have e := toNat_ofNat_dig hs
      refine ⟨⟨by simp, ?_, ?_⟩, ?_⟩
      · intro hc
        have : UInt8.ofNat (48 + n) = 48 := by simpa only [List.head?_cons, Option.some.injEq] using hc
        rw [this] at e
        have : (48 : UInt8).toNat = 48 := rfl
        omega
      · intro c hc
        rw [List.mem_singleton] at hc; subst hc; unfold dgU; omega
      · have := valL_snoc [] (UInt8.ofNat (48 + n))
        simp only [List.nil_append] at this
        rw [this, e]; simp [valL]
    · rw [Lib.decDigits, dif_neg hs]
      obtain ⟨⟨h1, h2, h3⟩, h4⟩ := ih (n / 10) (by omega) (by omega)
      have e := toNat_ofNat_dig (show n % 10 < 10 by omega)
      refine ⟨⟨by simp, ?_, ?_⟩, ?_⟩
      · cases hl : Lib.decDigits (n / 10) with
        | nil => exact absurd hl h1
        | cons a t => rw [hl] at h2; simpa using h2
      · intro c hc
        rcases List.mem_append.1 hc with hc | hc
        · exact h3 c hc
        · rw [List.mem_singleton] at hc; subst hc; unfold dgU; omega
      · rw [valL_snoc, h4, e]; omega

/-- A revision's name, and its parts. -/
def IsRev (s c : ByteArray) (n : Int) : Prop := nameB 16 c = true ∧ 1 ≤ n ∧ n ≤ 999999 ∧ s = c ++ ⟨#[45]⟩ ++ digS n.toNat

def IsNum (t : ByteArray) (n : Int) : Prop := 1 ≤ n ∧ n ≤ 999999 ∧ t = digS n.toNat
theorem digS_list (n : Nat) : (digS n).data.toList = Lib.decDigits n := rfl
theorem IsNum.num {t : ByteArray} {n : Int} (h : IsNum t n) : numL t.data.toList ∧ (valL t.data.toList : Int) = n := by
  have := dec_num n.toNat (by have := h.1; omega)
  rw [h.2.2, digS_list]
  exact ⟨this.1, by rw [this.2]; have := h.1; omega⟩

def numAns (t : ByteArray) (e : Ending) : Prop :=
  (∃ n, IsNum t n ∧ e = .returned (.tuple #[.int .i64 n, .bool true])) ∨ ((∀ n, ¬ IsNum t n) ∧ e = .returned (.tuple #[.int .i64 0, .bool false]))
theorem numAns.no {t : ByteArray} (h : ∀ n, ¬ IsNum t n) : numAns t (.returned (.tuple #[.int .i64 0, .bool false])) := .inr ⟨h, rfl⟩


def splitAns (s : ByteArray) (e : Ending) : Prop :=
  (∃ c n, IsRev s c n ∧ e = .returned (.tuple #[.string c, .int .i64 n, .bool true])) ∨ ((∀ c n, ¬ IsRev s c n) ∧ e = .returned (.tuple #[.string ⟨#[]⟩, .int .i64 0, .bool false]))
theorem splitAns.no {s : ByteArray} (h : ∀ c n, ¬ IsRev s c n) : splitAns s (.returned (.tuple #[.string ⟨#[]⟩, .int .i64 0, .bool false])) := .inr ⟨h, rfl⟩

theorem IsRev.data {s c : ByteArray} {n : Int} (h : IsRev s c n) : s.data.toList = c.data.toList ++ 45 :: Lib.decDigits n.toNat := by
  rw [h.2.2.2]
  simp [ByteArray.data_append, digS]
theorem IsRev.num {s c : ByteArray} {n : Int} (h : IsRev s c n) : numL (Lib.decDigits n.toNat) ∧ valL (Lib.decDigits n.toNat) = n.toNat := dec_num _ (by have := h.2.1; omega)
theorem IsRev.size {s c : ByteArray} {n : Int} (h : IsRev s c n) : s.size = c.size + 1 + (Lib.decDigits n.toNat).length := by
  have := congrArg List.length h.data
  simp at this
  have h1 : s.size = s.data.size := rfl
  have h2 : c.size = c.data.size := rfl
  omega
theorem byteAt_list (s : ByteArray) (i : Nat) (h : i < s.size) : byteAt s i = (s.data.toList[i]'(by simpa using h)).toNat := by
  rw [byteAt_eq s i h]; rfl
theorem IsRev.dash {s c : ByteArray} {n : Int} (h : IsRev s c n) : byteAt s c.size = 45 := by
  have hz := h.size
  rw [byteAt_list s _ (by omega)]
  have e := h.data
  have : s.data.toList[c.size]? = some 45 := by
    rw [e, List.getElem?_append_right (by simp)]
    simp
  rw [List.getElem?_eq_getElem (by simp; show c.size < s.size; omega)] at this
  rw [Option.some.inj this]; rfl
theorem IsRev.dig {s c : ByteArray} {n : Int} (h : IsRev s c n) (i : Nat) (h1 : c.size < i) (h2 : i < s.size) : 48 ≤ byteAt s i ∧ byteAt s i ≤ 57 := by
  have hz := h.size
  rw [byteAt_list s _ h2]
  have e := h.data
  have hlt : i - c.size - 1 < (Lib.decDigits n.toNat).length := by omega
  have : s.data.toList[i]? = some ((Lib.decDigits n.toNat)[i - c.size - 1]) := by
    have hcs : c.data.toList.length = c.size := rfl
    rw [e, List.getElem?_append_right (by omega), hcs]
    obtain ⟨j, hj⟩ : ∃ j, i - c.size = j + 1 := ⟨i - c.size - 1, by omega⟩
    simp only [hj, List.getElem?_cons_succ, Nat.add_sub_cancel]
    rw [List.getElem?_eq_getElem (by omega)]
  rw [List.getElem?_eq_getElem (by simp; exact h2)] at this
  rw [Option.some.inj this]
  exact h.num.1.2.2 _ (List.getElem_mem _)
/-- the last dash parts it -/
theorem IsRev.at {s c : ByteArray} {n : Int} (h : IsRev s c n) (k : Nat) (hk : k < s.size) (hd : byteAt s k = 45) (hl : ∀ j, k < j → j < s.size → byteAt s j ≠ 45) : c.size = k := by
  have hz := h.size
  have hd2 := h.dash
  have hp : 0 < (Lib.decDigits n.toNat).length := List.length_pos_iff.2 h.num.1.1
  rcases Nat.lt_trichotomy c.size k with h1 | h1 | h1
  · have := h.dig k h1 hk; omega
  · exact h1
  · exact absurd hd2 (hl c.size h1 (by omega))
theorem extract_list (s : ByteArray) (a b : Nat) : (s.extract a b).data.toList = (s.data.toList.drop a).take (b - a) := by
  rw [ByteArray.data_extract]
  simp
theorem IsRev.left {s c : ByteArray} {n : Int} (h : IsRev s c n) : s.extract 0 c.size = c := by
  apply ByteArray.ext
  apply Array.toList_inj.1
  rw [extract_list, h.data]
  have hcs : c.data.toList.length = c.size := rfl
  simp
theorem IsRev.right {s c : ByteArray} {n : Int} (h : IsRev s c n) : s.extract (c.size + 1) s.size = digS n.toNat := by
  apply ByteArray.ext
  apply Array.toList_inj.1
  have hz := h.size
  rw [extract_list, h.data, digS_list]
  have hcs : c.data.toList.length = c.size := rfl
  have e : s.size - (c.size + 1) = (Lib.decDigits n.toNat).length := by omega
  rw [e, ← hcs, ← List.drop_drop, List.drop_left]
  simp

def tl (s : ByteArray) (p : Nat) : List UInt8 := s.data.toList.drop p
theorem tl_cons (s : ByteArray) (p : Nat) (h : p < s.size) : tl s p = s[p] :: tl s (p + 1) := by
  unfold tl
  rw [List.drop_eq_getElem_cons (by simpa using h)]; rfl
theorem tl_extract (s : ByteArray) (p : Nat) : (s.extract p s.size).data.toList = tl s p := by
  rw [extract_list]; unfold tl
  rw [List.take_of_length_le (by simp)]

def dgs (l : List UInt8) : Prop := ∀ c, c ∈ l → dgU c
theorem IsRev.dgs {s c : ByteArray} {n : Int} (h : IsRev s c n) : dgs (tl s (c.size + 1)) := by
  rw [← tl_extract, h.right]; exact h.num.1.2.2
theorem dec_len {n : Nat} (h : n ≤ 999999) : (Lib.decDigits n).length ≤ 6 := by
  have := digS_size 5 n (by omega)
  have e : (digS n).size = (Lib.decDigits n).length := by show (Lib.decDigits n).toArray.size = _; simp
  omega
/-- where the digits end -/
theorem IsRev.stop {s c : ByteArray} {n : Int} (h : IsRev s c n) (p k : Nat) (hp : p + k = s.size) (hk : k ≤ 6) (hd : Go.Proofs.Ytfnpghekkhnjkaa.dgs (tl s p))
    (hs : p = 0 ∨ ¬ (48 ≤ byteAt s (p - 1) ∧ byteAt s (p - 1) ≤ 57) ∨ k = 6) : p = c.size + 1 := by
  have hz := h.size
  have hlen : (Lib.decDigits n.toNat).length ≤ 6 := dec_len (by have := h.2.2.1; omega)
  have h1 : c.size < p := by
    rcases Nat.lt_or_ge c.size p with h1 | h1
    · exact h1
    · have hm : s[c.size]'(by omega) ∈ tl s p := by
        have : tl s c.size = s[c.size]'(by omega) :: tl s (c.size + 1) := tl_cons s c.size (by omega)
        have h2 : tl s c.size = (tl s p).drop (c.size - p) := by unfold tl; rw [List.drop_drop]; congr 1; omega
        have h3 : s[c.size]'(by omega) ∈ (tl s p).drop (c.size - p) := by rw [← h2, this]; simp
        exact List.mem_of_mem_drop h3
      have := hd _ hm
      have hb := h.dash
      rw [byteAt_eq s _ (by omega)] at hb
      unfold dgU at this; omega
  rcases hs with h0 | h0 | h0
  · omega
  · rcases Nat.lt_or_ge (c.size + 1) p with h2 | h2
    · exact absurd (h.dig (p - 1) (by omega) (by omega)) h0
    · omega
  · omega


end Go.Proofs.Ytfnpghekkhnjkaa

/- The parts of a revision's name, as a function that can be run. -/
namespace Go.Proofs.Ytfnpghekkhnjkaa
set_option maxRecDepth 100000
set_option linter.unusedVariables false
set_option linter.unusedSimpArgs false
open Go.RowKit

end Go.Proofs.Ytfnpghekkhnjkaa

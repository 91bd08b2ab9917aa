/- My own texts LnP, OffRow, LnM, Ln1, Ln2, Ln3, Clear1, laid in one file. -/
import Derived.Test.YtlnffdkaleapbaaZ1
import Derived.Test.YtlnffdkaleapbaaZ2
import Derived.Test.YtlnffdkaleapbaaZ48
import Derived.ArgAppend
import Derived.Test.YtlnffdkaleapbaaZ29
import Derived.Test.YtlnffdkaleapbaaZ37
import Derived.RangeFuncNested
import Derived.RangeFuncBound
import Derived.Shelf.Abstract
import Derived.Shelf.RegionOpen
import Derived.OwnWalkIn
import Derived.TacticsInMore
import Derived.LoopNIn
import Derived.LoopIn
import Derived.Handy

/- Who waits: plain facts. -/
namespace Go.Proofs.Ytlnffdkaleapbaa
set_option maxRecDepth 100000
set_option linter.unusedVariables false
set_option linter.unusedSimpArgs false
open Go.RowKit

/-- A line: how many may wait, who does, and until when. -/
structure Ln where
  c : Int
  l : List (Int × Int)
namespace Ln
def new (c : Int) : Ln := ⟨c, []⟩
def ids (s : Ln) : List Int := s.l.map Prod.fst
def push (s : Ln) (x : Int) : Int := if x ∈ s.ids then 5 else if s.c ≤ s.l.length then 8 else 0
def aftPush (s : Ln) (x u : Int) : Ln := if s.push x = 0 then ⟨s.c, s.l ++ [(x, u)]⟩ else s
def pop (s : Ln) : Int := (s.ids).headD 0
def popB (s : Ln) : Bool := !s.l.isEmpty
def aftPop (s : Ln) : Ln := ⟨s.c, s.l.drop 1⟩
def overL (l : List (Int × Int)) (n : Int) : List (Int × Int) := l.filter fun p => decide (p.2 ≤ n)
def leftL (l : List (Int × Int)) (n : Int) : List (Int × Int) := l.filter fun p => !decide (p.2 ≤ n)
def late (s : Ln) (n : Int) : List Int := (overL s.l n).map Prod.fst
def aftLate (s : Ln) (n : Int) : Ln := ⟨s.c, leftL s.l n⟩
/-- What is so of each line. -/
structure ok (s : Ln) : Prop where
  len : (s.l.length : Int) ≤ s.c
  c : 0 ≤ s.c ∧ s.c ≤ 1000
theorem ok.l {s : Ln} (h : s.ok) : s.l.length ≤ 1000 := by have := h.len; have := h.c; omega
theorem ok_new {c : Int} (h : 0 ≤ c ∧ c ≤ 1000) : (new c).ok := ⟨h.1, h⟩
theorem push_no {s : Ln} {x : Int} (h : x ∈ s.ids) : s.push x = 5 := if_pos h
theorem push_full {s : Ln} {x : Int} (h : x ∉ s.ids) (k : s.c ≤ s.l.length) : s.push x = 8 := by unfold push; rw [if_neg h, if_pos k]
theorem push_yes {s : Ln} {x : Int} (h : x ∉ s.ids) (k : (s.l.length : Int) < s.c) : s.push x = 0 := by unfold push; rw [if_neg h, if_neg (by omega)]
theorem aft_same {s : Ln} {x u : Int} (h : s.push x ≠ 0) : s.aftPush x u = s := if_neg h
theorem aft_one {s : Ln} {x u : Int} (h : s.push x = 0) : s.aftPush x u = ⟨s.c, s.l ++ [(x, u)]⟩ := if_pos h
theorem ok_one {s : Ln} (h : s.ok) {x u : Int} (k : (s.l.length : Int) < s.c) : ok ⟨s.c, s.l ++ [(x, u)]⟩ := ⟨by show ((s.l ++ [(x, u)]).length : Int) ≤ s.c; rw [List.length_append]; show (((s.l.length + 1 : Nat)) : Int) ≤ _; omega, h.c⟩
theorem ok_pop {s : Ln} (h : s.ok) : s.aftPop.ok := ⟨by show ((s.l.drop 1).length : Int) ≤ s.c; rw [List.length_drop]; have := h.len; omega, h.c⟩
theorem ok_late {s : Ln} (h : s.ok) (n : Int) : (s.aftLate n).ok := ⟨by
  have h1 := h.len
  have h2 := List.length_filter_le (fun p : Int × Int => !decide (p.2 ≤ n)) s.l
  show ((leftL s.l n).length : Int) ≤ s.c
  unfold leftL; omega, h.c⟩
theorem ids_len (s : Ln) : s.ids.length = s.l.length := by unfold ids; rw [List.length_map]
theorem late_len (s : Ln) (n : Int) : (s.late n).length ≤ s.l.length := by unfold late overL; rw [List.length_map]; exact List.length_filter_le _ _
theorem over_snoc {l : List (Int × Int)} {k : Nat} {p : Int × Int} (h : l[k]? = some p) (n : Int) : overL (l.take (k + 1)) n = if p.2 ≤ n then overL (l.take k) n ++ [p] else overL (l.take k) n := by
  unfold overL
  rw [List.take_add_one, h]
  show List.filter _ (_ ++ [p]) = _
  rw [List.filter_append]
  split
  · rename_i e; rw [List.filter_cons_of_pos (by simpa using e), List.filter_nil]
  · rename_i e; rw [List.filter_cons_of_neg (by simpa using e), List.filter_nil, List.append_nil]
theorem left_snoc {l : List (Int × Int)} {k : Nat} {p : Int × Int} (h : l[k]? = some p) (n : Int) : leftL (l.take (k + 1)) n = if p.2 ≤ n then leftL (l.take k) n else leftL (l.take k) n ++ [p] := by
  unfold leftL
  rw [List.take_add_one, h]
  show List.filter _ (_ ++ [p]) = _
  rw [List.filter_append]
  split
  · rename_i e; rw [List.filter_cons_of_neg (by simpa using e), List.filter_nil, List.append_nil]
  · rename_i e; rw [List.filter_cons_of_pos (by simpa using e), List.filter_nil]
end Ln
end Go.Proofs.Ytlnffdkaleapbaa

/- A row of a call's own that may begin behind its block's first cell (x[1:]): an append onto it, its exact frame. No program is named here. -/
namespace Go
set_option linter.unusedVariables false
set_option linter.unusedSimpArgs false
open Go.RowKit Go.Lib

def World.offRow (w : World) (base : Nat) (e : TypeId) (size : Nat) (v : Value) (n : Nat) (xs : List Value) : Prop :=
  xs.length = n * size ∧
  ((v = .slice none 0 0 ∧ n = 0) ∨
   ∃ g off cap cur, v = .slice (some ⟨g, off, none⟩) n cap ∧ base ≤ g ∧ Blk w g cur e ∧ n ≤ cap ∧ cap ≤ maxLen ∧ off + cap * size ≤ cur.size ∧ (cur.toList.drop off).take (n * size) = xs)
theorem Blk.setCells {w : World} {g : Nat} {T : TypeId} : ∀ (vs : List Value) (o : Nat) (w : World) (cur : Array Value), Blk w g cur T → o + vs.length ≤ cur.size → Blk (w.setCells g o vs) g (cur.toList.take o ++ vs ++ cur.toList.drop (o + vs.length)).toArray T
  | [], o, w, cur, h, _ => by
    rw [World.setCells, List.append_nil, List.length_nil, Nat.add_zero, List.take_append_drop]
    exact h
  | v :: r, o, w, cur, h, hl => by
    rw [List.length_cons] at hl
    rw [World.setCells]
    have := Blk.setCells (T := T) (w := w) r (o + 1) (w.setCell ⟨g, o, none⟩ v) (cur.setIfInBounds o v) (h.set o v) (by rw [Array.size_setIfInBounds]; omega)
    rw [Array.toList_setIfInBounds] at this
    have hl2 : o < cur.toList.length := by rw [Array.length_toList]; omega
    have e1 : (cur.toList.set o v).take (o + 1) = cur.toList.take o ++ [v] := by
      rw [List.take_add_one, List.take_set_of_le (Nat.le_refl _), List.getElem?_set_self hl2]; rfl
    have e2 : (cur.toList.set o v).drop (o + 1 + r.length) = cur.toList.drop (o + (v :: r).length) := by
      rw [List.drop_set_of_lt (by omega), List.length_cons]
      congr 1; omega
    rw [e1, e2, List.append_assoc (cur.toList.take o) [v] r] at this
    exact this
theorem Chg.setCells {g : Nat} : ∀ (vs : List Value) (o : Nat) (w : World), Chg (fun k => k = g) w (w.setCells g o vs)
  | [], o, w => Chg.refl _ _
  | v :: r, o, w => by
    rw [World.setCells]
    exact (Chg.setCell (G := fun k => k = g) (Chg.refl _ _) (fun _ => rfl) o v).trans (Chg.setCells r (o + 1) _)
section
variable {w w' : World} {base e sz n : Nat} {v : Value} {xs : List Value}
theorem World.ownsRow.off (h : w.ownsRow base e sz v n xs) : w.offRow base e sz v n xs := by
  refine ⟨h.1, h.2.imp id ?_⟩
  rintro ⟨g, cap, cur, hv, hb, hg, hn, hm, hs, ht⟩
  exact ⟨g, 0, cap, cur, hv, hb, hg, hn, hm, by omega, by rw [List.drop_zero]; exact ht⟩
theorem World.offRow.lt (h : w.offRow base e sz v n xs) : ∀ k, v.ownBlock = some k → base ≤ k ∧ k < w.heap.size := by
  intro k hk
  rcases h.2 with ⟨rfl, _⟩ | ⟨g, off, cap, cur, rfl, hb, hg, _⟩
  · cases hk
  · cases hk
    exact ⟨hb, hg.lt⟩
theorem Chg.offRow {G : Nat → Prop} (h : Chg G w w') (ho : w.offRow base e sz v n xs) (hg : ∀ k, v.ownBlock = some k → ¬ G k) : w'.offRow base e sz v n xs := by
  refine ⟨ho.1, ho.2.imp id ?_⟩
  rintro ⟨k, off, cap, cur, hv, hb, hh, rest⟩
  exact ⟨k, off, cap, cur, hv, hb, hh.chg h (hg k (by rw [hv]; rfl)), rest⟩
theorem World.offRow.later (ho : w.offRow base e sz v n xs) (g : Grow.G w w') : w'.offRow base e sz v n xs := (Chg.grow (G := fun _ => False) g).offRow ho (fun _ _ => id)
theorem World.offRow.base' {b' : Nat} (ho : w.offRow base e sz v n xs) (hb : b' ≤ base) : w.offRow b' e sz v n xs :=
  ⟨ho.1, ho.2.imp id fun ⟨k, off, cap, cur, hv, h, rest⟩ => ⟨k, off, cap, cur, hv, Nat.le_trans hb h, rest⟩⟩
theorem World.offRow.shape (h : w.offRow base e sz v n xs) : ∃ a c, v = .slice a n c := by
  rcases h.2 with ⟨rfl, rfl⟩ | ⟨g, off, cap, cur, rfl, _⟩
  · exact ⟨none, 0, rfl⟩
  · exact ⟨_, cap, rfl⟩
/-- A cell of it. -/
theorem World.offRow.cell {g off c : Nat} (h : w.offRow base e sz (.slice (some ⟨g, off, none⟩) n c) n xs) {j : Nat} {u : Value} (hj : xs[j]? = some u) : w.cell? ⟨g, off + j, none⟩ = some u := by
  rcases h.2 with ⟨h1, _⟩ | ⟨g', off', cap, cur, hv, hb, hg, hn, hm, hs, ht⟩
  · cases h1
  · cases hv
    rw [hg.cell, ← Array.getElem?_toList]
    rw [← ht, List.getElem?_take] at hj
    split at hj
    · rw [List.getElem?_drop] at hj; exact hj
    · cases hj
theorem offRow_nil (w : World) (base e sz : Nat) : w.offRow base e sz (.slice none 0 0) 0 [] := ⟨by simp, .inl ⟨rfl, rfl⟩⟩
/-- How a row stands. -/
theorem World.offRow.at (h : w.offRow base e sz v n xs) : (v = .slice none 0 0 ∧ n = 0 ∧ xs = []) ∨ ∃ g off c, v = .slice (some ⟨g, off, none⟩) n c ∧ n ≤ c ∧ base ≤ g ∧ g < w.heap.size ∧ ∀ j u, xs[j]? = some u → w.cell? ⟨g, off + j, none⟩ = some u := by
  have h0 := h
  rcases h.2 with ⟨h1, h2⟩ | ⟨g, off, cap, cur, hv, hb, hg, hn, hm, hs, ht⟩
  · exact .inl ⟨h1, h2, List.eq_nil_of_length_eq_zero (by rw [h.1, h2, Nat.zero_mul])⟩
  · rw [hv] at h0
    exact .inr ⟨g, off, cap, hv, hn, hb, hg.lt, fun j u hj => h0.cell hj⟩
/-- x[1:]. -/
theorem World.offRow.tail {g off c : Nat} (h : w.offRow base e sz (.slice (some ⟨g, off, none⟩) n c) n xs) (h1 : 1 ≤ n) {off' : Nat} (ho : off' = off + sz ∨ (c = 1 ∧ off' ≤ off)) : w.offRow base e sz (.slice (some ⟨g, off', none⟩) (n - 1) (c - 1)) (n - 1) (xs.drop sz) := by
  rcases h.2 with ⟨h2, _⟩ | ⟨g', o2, cap, cur, hv, hb, hg, hn, hm, hs, ht⟩
  · cases h2
  · cases hv
    refine ⟨by rw [List.length_drop, h.1, Nat.sub_mul, Nat.one_mul], .inr ⟨g, off', c - 1, cur, rfl, hb, hg, by omega, by omega, ?_, ?_⟩⟩
    · rcases ho with rfl | ⟨rfl, h3⟩
      · have : sz ≤ c * sz := Nat.le_mul_of_pos_left _ (by omega)
        rw [Nat.sub_mul, Nat.one_mul]; omega
      · rw [Nat.sub_self, Nat.zero_mul]
        omega
    · rcases ho with rfl | ⟨rfl, h3⟩
      · rw [← ht, List.drop_take, List.drop_drop, Nat.sub_mul, Nat.one_mul]
      · have : n = 1 := by omega
        subst this
        rw [Nat.sub_self, Nat.zero_mul, List.take_zero]
        exact (List.drop_eq_nil_of_le (by rw [h.1]; omega)).symm
end
namespace Fr
section
variable {P : Program} (w : World)
theorem run_append_off (base : Nat) (t ty e : TypeId) (i : TypeInfo) (z : Value) (size bytes : Nat) (ht : P.underlying t = some (.slice e)) (hi : P.info? e = some i) (hz : i.zero = some z)
    (hsize : i.size = size) (hby : i.bytes = bytes) (hzs : z.cells.size = size) (hsz : 0 < size)
    (v : Value) (n : Nat) (xs : List Value) (hown : w.offRow base e size v n xs)
    (a : Option Addr) (m c : Nat) (news : List Value) (hl : news.length = m * size) (hnews : Src w a news) (h1 : ∀ u ∈ news, u.oneCell' = true)
    (h63 : n + m ≤ maxLen) (hbytes : (n + m) * bytes ≤ 140737488355328) (hbase : base ≤ w.heap.size) :
    ∃ v' w', (Builtin.append_ #[t, t] ty #[v, .slice a m c]).run P w = .ok v' w' ∧ w'.offRow base e size v' (n + m) (xs ++ news) ∧ Fr w w' v v' := by
  rcases hown.2 with ⟨rfl, rfl⟩ | ⟨g, off, cap, cur, rfl, hb, hg, hn, hm, hs, htk⟩
  · obtain ⟨v', w', q1, q2, q3⟩ := run_append_src (P := P) w base t ty e i z size bytes ht hi hz hsize hby hzs hsz _ 0 xs ⟨hown.1, .inl ⟨rfl, rfl⟩⟩ a m c news hl hnews h1 h63 hbytes hbase
    exact ⟨v', w', q1, q2.off, q3⟩
  · have hlen : (xs ++ news).length = (n + m) * size := by rw [List.length_append, hown.1, hl, Nat.add_mul]
    rcases hnews with ⟨rfl, rfl⟩ | ⟨ad, rfl, hc⟩
    · have hm0 : m = 0 := by
        rcases Nat.eq_zero_or_pos m with h | h
        · exact h
        · have h2 := Nat.mul_pos h hsz
          have h3 : (0 : Nat) = m * size := hl
          omega
      subst hm0
      refine ⟨_, w, ?_, by simpa using hown, Fr.grow (Grow.G.refl _) _⟩
      simp [Builtin.append_, run_underlying ht, sizeOf, typeInfo, hi, Builtin.lenOf, Builtin.firstCells, hn, storeCells]
    · subst hsize hby
      by_cases hroom : n + m ≤ cap
      · have hfit : off + n * i.size + news.length ≤ cur.size := by
          have : (n + m) * i.size ≤ cap * i.size := Nat.mul_le_mul_right _ hroom
          rw [Nat.add_mul] at this
          rw [hl]; omega
        have hr := run_append_room_cells (P := P) w t ty e i ht hi g off n cap ad m c news hl hc h1 hroom (fun j hj => by
          rw [hg.cell, Array.getElem?_eq_getElem (by omega)]; rfl) (fun j hj => hg.free _)
        have hB := Blk.setCells (T := e) (w := w) news (off + n * i.size) w cur hg hfit
        refine ⟨_, _, hr, ⟨hlen, .inr ⟨g, off, cap, _, rfl, hb, hB, hroom, hm, ?_, ?_⟩⟩, ?_, .inl rfl⟩
        · simp only [List.size_toArray, List.length_append, List.length_take, List.length_drop, Array.length_toList]; omega
        · have hx : xs.length = n * i.size := hown.1
          have e1 : ((cur.toList.take (off + n * i.size) ++ news ++ cur.toList.drop (off + n * i.size + news.length)).drop off) = xs ++ news ++ cur.toList.drop (off + n * i.size + news.length) := by
            rw [List.append_assoc, List.drop_append_of_le_length (by rw [List.length_take, Array.length_toList]; omega), List.drop_take, Nat.add_sub_cancel_left, htk, List.append_assoc]
          show (List.drop off (List.toArray _).toList).take _ = _
          rw [e1, ← hlen]
          exact List.take_left
        · have C := Chg.setCells (g := g) news (off + n * i.size) w
          exact ⟨C.os, C.tape, C.output, C.size, fun k hk hne => C.block k hk (fun e => hne (by rw [e]; rfl))⟩
      · have holds : ∀ j u, xs[j]? = some u → w.cell? ((⟨g, off, none⟩ : Addr).add j) = some u := fun j u hj => by
          have e1 : (⟨g, off, none⟩ : Addr).add j = ⟨g, off + j, none⟩ := by unfold Addr.add; split <;> simp_all
          rw [e1]; exact hown.cell hj
        have hsmall : n + m ≤ 9223372036854775807 := by simp only [maxLen] at h63; omega
        have hr := run_append_grow (P := P) w t ty e i z ht hi hz ⟨g, off, none⟩ n cap xs hown.1 holds ad m c news hl hc (by omega) (by omega) (growslice_fits (by omega) hbytes)
        refine ⟨_, _, hr, World.ownsRow.off ⟨hlen, .inr ⟨w.heap.size, _, _, rfl, hbase, heap_alloc_new w.drew _, grownCap_ge w (n + m) cap e, grownCap_le_maxLen w (n + m) cap e h63, ?_, ?_⟩⟩, ⟨rfl, rfl, rfl, by simp, fun k hk _ => (Grow.G.trans (Grow.G.drawn _) (Grow.G.alloc (Grow.G.refl w.drew) _)).block k hk⟩, .inr ⟨_, rfl, Nat.le_refl _⟩⟩
        · have hge := grownCap_ge w (n + m) cap e
          simp only [Array.size_append, List.size_toArray, size_zeroCells, hzs, hown.1, hl, ← Nat.add_mul]
          congr 1
          omega
        · simp only [Array.toList_append, List.append_assoc]
          rw [← List.append_assoc, ← hlen]
          exact List.take_left
theorem wp_append_off {o : Oper} {a : Act} {K : Act → World → Prop} {Q : Exit → Act → World → Prop} (s x : Operand) (t : TypeId)
    (ho : o.op = .call { callee := .builtin .append, args := #[s, x], argTypes := #[t, t] })
    (base : Nat) (e : TypeId) (i : TypeInfo) (z : Value) (size bytes : Nat) (ht : P.underlying t = some (.slice e)) (hi : P.info? e = some i) (hz : i.zero = some z)
    (hsize : i.size = size) (hby : i.bytes = bytes) (hzs : z.cells.size = size) (hsz : 0 < size)
    (v : Value) (n : Nat) (xs : List Value) (hs : a.eval s = v) (hown : w.offRow base e size v n xs)
    (ad : Option Addr) (m c : Nat) (news : List Value) (hx : a.eval x = .slice ad m c) (hl : news.length = m * size) (hnews : Src w ad news) (h1 : ∀ u ∈ news, u.oneCell' = true)
    (h63 : n + m ≤ maxLen) (hbytes : (n + m) * bytes ≤ 140737488355328) (hbase : base ≤ w.heap.size)
    (h : ∀ v' w', w'.offRow base e size v' (n + m) (xs ++ news) → Fr w w' v v' → K (a.put o.dst v') w') : o.wp P a w K Q := by
  obtain ⟨v', w', hr, h2, h3⟩ := run_append_off (P := P) w base t o.type e i z size bytes ht hi hz hsize hby hzs hsz v n xs hown ad m c news hl hnews h1 h63 hbytes hbase
  unfold Oper.wp execOp
  simp only [ho, resolve, invoke, builtin, Sem.run_bind, Sem.run_pure, Result.andThen_ok, List.map_toArray, List.map_cons, List.map_nil, hs, hx, hr]
  exact h v' w' h2 h3
theorem wpList_append_off {ops : Array Oper} {rest : List Oper} {o : Oper} {a : Act} {Q : Exit → Act → World → Prop} (hgd : o.guard = none) (s x : Operand) (t : TypeId)
    (ho : o.op = .call { callee := .builtin .append, args := #[s, x], argTypes := #[t, t] })
    (base : Nat) (e : TypeId) (i : TypeInfo) (z : Value) (size bytes : Nat) (ht : P.underlying t = some (.slice e)) (hi : P.info? e = some i) (hz : i.zero = some z)
    (hsize : i.size = size) (hby : i.bytes = bytes) (hzs : z.cells.size = size) (hsz : 0 < size)
    (v : Value) (n : Nat) (xs : List Value) (hs : a.eval s = v) (hown : w.offRow base e size v n xs)
    (ad : Option Addr) (m c : Nat) (news : List Value) (hx : a.eval x = .slice ad m c) (hl : news.length = m * size) (hnews : Src w ad news) (h1 : ∀ u ∈ news, u.oneCell' = true)
    (h63 : n + m ≤ maxLen) (hbytes : (n + m) * bytes ≤ 140737488355328) (hbase : base ≤ w.heap.size)
    (h : ∀ v' w', w'.offRow base e size v' (n + m) (xs ++ news) → Fr w w' v v' → wpList P ops Q rest (a.put o.dst v') w') : wpList P ops Q (o :: rest) a w :=
  wpList_plain hgd fun _ hK => wp_append_off w s x t ho base e i z size bytes ht hi hz hsize hby hzs hsz v n xs hs hown ad m c news hx hl hnews h1 h63 hbytes hbase fun v' w' h2 h3 => hK _ _ (h v' w' h2 h3)
end
end Fr
end Go

/- What a line is in memory: the program's, and the second form's. -/
namespace Go.Proofs.Ytlnffdkaleapbaa
set_option maxRecDepth 100000
set_option linter.unusedVariables false
set_option linter.unusedSimpArgs false
open Go.RowKit Go.Args

abbrev lineT : TypeId := 44
abbrev plcT : TypeId := 52
def plc (p : Int × Int) : List Value := [.int .i64 p.1, .int .i64 p.2]
abbrev plcs (l : List (Int × Int)) : List Value := l.flatMap plc
theorem plc_len (p : Int × Int) : (plc p).length = 2 := rfl
theorem plcs_len (l : List (Int × Int)) : (plcs l).length = l.length * 2 := by
  induction l with
  | nil => rfl
  | cons p l ih => rw [plcs, List.flatMap_cons, List.length_append, plc_len, ih, List.length_cons]; omega
def lnC (s : Ln) (v : Value) : List Value := [.int .i64 s.c, v]
structure LnIn (w : World) (g : Nat) (s : Ln) (v : Value) : Prop where
  hb : Blk w g (lnC s v).toArray lineT
  ho : w.ownsRow 0 plcT 2 v s.l.length (plcs s.l)
  ok : s.ok
def LnF (g : Nat) (v : Value) (k : Nat) : Prop := k = g ∨ v.ownBlock = some k
def LnP (g : Nat) (s : Ln) : Hp := fun w F => ∃ v, LnIn w g s v ∧ ∀ k, F k ↔ LnF g v k
theorem LnIn.lt {w : World} {g : Nat} {s : Ln} {v : Value} (h : LnIn w g s v) : ∀ k, LnF g v k → k < w.heap.size := by
  rintro k (rfl | hk)
  · exact h.hb.lt
  · exact (h.ho.lt k hk).2
theorem LnIn.chg {w w' : World} {g : Nat} {s : Ln} {v : Value} {G : Nat → Prop} (h : LnIn w g s v) (c : Chg G w w') (hG : ∀ k, LnF g v k → ¬ G k) : LnIn w' g s v :=
  ⟨h.hb.chg c (hG _ (.inl rfl)), c.own h.ho (fun k hk => hG _ (.inr hk)), h.ok⟩
theorem LnIn.grow {w w' : World} {g : Nat} {s : Ln} {v : Value} (h : LnIn w g s v) (c : Grow.G w w') : LnIn w' g s v := h.chg (Chg.grow (G := fun _ => False) c) (fun _ _ => id)
theorem LnP.foot (g : Nat) (s : Ln) : Foot (LnP g s) where
  lt := fun ⟨m, h, e⟩ k hk => h.lt k ((e k).1 hk)
  frame := fun ⟨m, h, e⟩ c hs => ⟨m, h.chg c (fun k hk => hs k ((e k).2 hk)), e⟩
theorem LnP.same {g : Nat} {s : Ln} {w w' : World} {F : Nat → Prop} (h : LnP g s w F) (c : Grow.G w w') : EndS w w' F (LnP g s) :=
  ⟨F, (LnP.foot g s).grow h c, Chg.grow c, Fresh.refl _ _⟩
theorem LnP.fin {g : Nat} {s' : Ln} {v v' : Value} {w w' : World} {F : Nat → Prop} (e : ∀ k, F k ↔ LnF g v k) (h : LnIn w' g s' v') (c : Chg (LnF g v) w w') (hm : ∀ b, v'.ownBlock = some b → v.ownBlock = some b ∨ w.heap.size ≤ b) : EndS w w' F (LnP g s') := by
  refine ⟨LnF g v', ⟨v', h, fun k => Iff.rfl⟩, c.sub fun k hk => (e k).2 hk, fun k hk => ?_⟩
  rcases hk with rfl | hk
  · exact .inl ((e _).2 (.inl rfl))
  · rcases hm k hk with q | q
    · exact .inl ((e k).2 (.inr q))
    · exact .inr q
theorem LnIn.ne {w : World} {g : Nat} {s : Ln} {v : Value} (h : LnIn w g s v) : v.ownBlock ≠ some g := own_blk_types h.ho h.hb (by decide)
theorem LnIn.c0 {w : World} {g : Nat} {s : Ln} {v : Value} (h : LnIn w g s v) : w.cell? ⟨g, 0, none⟩ = some (.int .i64 s.c) := (h.hb.cell 0).trans rfl
theorem LnIn.c1 {w : World} {g : Nat} {s : Ln} {v : Value} (h : LnIn w g s v) : w.cell? ⟨g, 1, none⟩ = some v := (h.hb.cell 1).trans rfl
theorem LnIn.sl {w : World} {g : Nat} {s : Ln} {v : Value} (h : LnIn w g s v) : ∃ a c, v = .slice a s.l.length c := own_shape h.ho
/-- How a row of places stands. -/
theorem own_plcs {w : World} {base c : Nat} {a : Option Addr} {T : TypeId} {l : List (Int × Int)} (h : w.ownsRow base T 2 (.slice a l.length c) l.length (plcs l)) :
    (a = none ∧ c = 0 ∧ l = []) ∨ ∃ g, a = some ⟨g, 0, none⟩ ∧ l.length ≤ c ∧ g < w.heap.size ∧ ∀ k p, l[k]? = some p → w.cell? ⟨g, k * 2, none⟩ = some (.int .i64 p.1) ∧ w.cell? ⟨g, k * 2 + 1, none⟩ = some (.int .i64 p.2) := by
  rcases h.2 with ⟨h1, h2⟩ | ⟨g, cap, cur, hv, hb, hg, hn, hm, hs, ht⟩
  · injection h1 with e1 e2 e3
    exact .inl ⟨e1, e3, List.eq_nil_of_length_eq_zero h2⟩
  · injection hv with e1 e2 e3
    subst e1 e3
    refine .inr ⟨g, rfl, hn, Chg.lt_of hg, fun k p hk => ⟨?_, ?_⟩⟩
    · have := flat_at (cells := plc) (n := 2) (j := 0) plc_len (x := p) (v := .int .i64 p.1) rfl hk
      exact own_cell h this
    · have := flat_at (cells := plc) (n := 2) (j := 1) plc_len (x := p) (v := .int .i64 p.2) rfl hk
      exact own_cell h this
/-! ### the second form's -/
abbrev rlineT : TypeId := 47
abbrev oneT : TypeId := 49
structure RlIn (w : World) (g : Nat) (s : Ln) (v : Value) : Prop where
  hb : Blk w g (lnC s v).toArray rlineT
  ho : w.offRow 0 oneT 2 v s.l.length (plcs s.l)
  ok : s.ok
def RlP (g : Nat) (s : Ln) : Hp := fun w F => ∃ v, RlIn w g s v ∧ ∀ k, F k ↔ LnF g v k
theorem RlIn.lt {w : World} {g : Nat} {s : Ln} {v : Value} (h : RlIn w g s v) : ∀ k, LnF g v k → k < w.heap.size := by
  rintro k (rfl | hk)
  · exact h.hb.lt
  · exact (h.ho.lt k hk).2
theorem RlIn.chg {w w' : World} {g : Nat} {s : Ln} {v : Value} {G : Nat → Prop} (h : RlIn w g s v) (c : Chg G w w') (hG : ∀ k, LnF g v k → ¬ G k) : RlIn w' g s v :=
  ⟨h.hb.chg c (hG _ (.inl rfl)), c.offRow h.ho (fun k hk => hG _ (.inr hk)), h.ok⟩
theorem RlIn.grow {w w' : World} {g : Nat} {s : Ln} {v : Value} (h : RlIn w g s v) (c : Grow.G w w') : RlIn w' g s v := h.chg (Chg.grow (G := fun _ => False) c) (fun _ _ => id)
theorem RlP.foot (g : Nat) (s : Ln) : Foot (RlP g s) where
  lt := fun ⟨m, h, e⟩ k hk => h.lt k ((e k).1 hk)
  frame := fun ⟨m, h, e⟩ c hs => ⟨m, h.chg c (fun k hk => hs k ((e k).2 hk)), e⟩
theorem RlP.same {g : Nat} {s : Ln} {w w' : World} {F : Nat → Prop} (h : RlP g s w F) (c : Grow.G w w') : EndS w w' F (RlP g s) :=
  ⟨F, (RlP.foot g s).grow h c, Chg.grow c, Fresh.refl _ _⟩
theorem RlP.fin {g : Nat} {s' : Ln} {v v' : Value} {w w' : World} {F : Nat → Prop} (e : ∀ k, F k ↔ LnF g v k) (h : RlIn w' g s' v') (c : Chg (LnF g v) w w') (hm : ∀ b, v'.ownBlock = some b → v.ownBlock = some b ∨ w.heap.size ≤ b) : EndS w w' F (RlP g s') := by
  refine ⟨LnF g v', ⟨v', h, fun k => Iff.rfl⟩, c.sub fun k hk => (e k).2 hk, fun k hk => ?_⟩
  rcases hk with rfl | hk
  · exact .inl ((e _).2 (.inl rfl))
  · rcases hm k hk with q | q
    · exact .inl ((e k).2 (.inr q))
    · exact .inr q
theorem off_blk_types {w : World} {base e sz n k : Nat} {v : Value} {xs : List Value} {cs : Array Value} {T : TypeId} (h : w.offRow base e sz v n xs) (hb : Blk w k cs T) (hne : e ≠ T) : ¬ v.ownBlock = some k := by
  rcases h.2 with ⟨rfl, _⟩ | ⟨b, off, cap, cur, rfl, _, hh, _⟩
  · intro q; cases q
  · intro q
    have e1 : b = k := Option.some.inj q
    subst e1
    unfold Blk at hb hh
    rw [hh] at hb
    cases hb
    exact hne rfl
theorem RlIn.ne {w : World} {g : Nat} {s : Ln} {v : Value} (h : RlIn w g s v) : v.ownBlock ≠ some g := off_blk_types h.ho h.hb (by decide)
theorem RlIn.c0 {w : World} {g : Nat} {s : Ln} {v : Value} (h : RlIn w g s v) : w.cell? ⟨g, 0, none⟩ = some (.int .i64 s.c) := (h.hb.cell 0).trans rfl
theorem RlIn.c1 {w : World} {g : Nat} {s : Ln} {v : Value} (h : RlIn w g s v) : w.cell? ⟨g, 1, none⟩ = some v := (h.hb.cell 1).trans rfl
theorem RlIn.sl {w : World} {g : Nat} {s : Ln} {v : Value} (h : RlIn w g s v) : ∃ a c, v = .slice a s.l.length c := h.ho.shape
theorem off_plcs {w : World} {base c : Nat} {a : Option Addr} {T : TypeId} {l : List (Int × Int)} (h : w.offRow base T 2 (.slice a l.length c) l.length (plcs l)) :
    (a = none ∧ c = 0 ∧ l = []) ∨ ∃ g off, a = some ⟨g, off, none⟩ ∧ l.length ≤ c ∧ g < w.heap.size ∧ ∀ k p, l[k]? = some p → w.cell? ⟨g, off + k * 2, none⟩ = some (.int .i64 p.1) ∧ w.cell? ⟨g, off + k * 2 + 1, none⟩ = some (.int .i64 p.2) := by
  rcases h.at with ⟨h1, h2, h3⟩ | ⟨g, off, c', hv, hn, hb, hg, hc⟩
  · injection h1 with e1 e2 e3
    exact .inl ⟨e1, e3, List.eq_nil_of_length_eq_zero h2⟩
  · injection hv with e1 e2 e3
    subst e1 e3
    refine .inr ⟨g, off, rfl, hn, hg, fun k p hk => ⟨?_, ?_⟩⟩
    · have := flat_at (cells := plc) (n := 2) (j := 0) plc_len (x := p) (v := .int .i64 p.1) rfl hk
      exact hc _ _ this
    · have := flat_at (cells := plc) (n := 2) (j := 1) plc_len (x := p) (v := .int .i64 p.2) rfl hk
      exact hc _ _ this
end Go.Proofs.Ytlnffdkaleapbaa

/- wait's queue: count, each. -/
namespace Go.Proofs.Ytlnffdkaleapbaa
set_option maxRecDepth 100000
set_option linter.unusedVariables false
set_option linter.unusedSimpArgs false
set_option linter.unnecessarySimpa false
open Go.RowKit Go.Args
attribute [local go_sem] Oper.semAt_some

theorem qcount_any (g : Nat) (s : Ln) (v : Value) (w : World) (h : LnIn w g s v) :
    Calls Try.prog 27 #[pz g] w fun e w' => e = .returned (.int .i64 s.l.length) ∧ w = w' := by
  obtain ⟨a, c, rfl⟩ := h.sl
  have c1 := h.c1
  have hl := h.hb.lt
  clear h
  go_enter Try.func27, Try.ntmps27
  go_wp2_with fail
  go_ret
  exact ⟨rfl, rfl⟩
theorem each_new (g : Nat) (w : World) : Calls Try.prog 30 #[pz g] w fun e w' => ∃ b, e = .returned (.func (.func 32) #[] #[pz b]) ∧ w.heap.size ≤ b ∧ Blk w' b #[pz g] 50 ∧ Grow.G w w' := by
  go_enter Try.func30, Try.ntmps30
  go_wp2
  go_ret
  refine ⟨w.heap.size, rfl, Nat.le_refl _, Blk.new w _ _, ?_⟩
  (repeat (first | with_reducible exact Grow.G.refl _ | with_reducible exact Below.refl _ _ | with_reducible refine Grow.G.alloc ?_ _ | with_reducible refine Grow.G.trans ?_ hb1 | ((with_reducible refine Below.setCell ?_ ?_ _); rotate_left; (focus (first | omega | (simp; done) | (simp; omega)))) | with_reducible assumption | with_reducible refine Grow.G.trans ?_ (by with_reducible assumption)))
def plE (p : Int × Int) : Array Value := #[.int .i64 p.1, .int .i64 p.2]
def PlOk (l : List (Int × Int)) (pre : List (Int × Int)) (x : Int × Int) (W : World) : Prop := pre = l.take pre.length ∧ l[pre.length]? = some x
theorem PlOk.next {l pre : List (Int × Int)} {x : Int × Int} {W : World} (h : PlOk l pre x W) : pre ++ [x] = l.take (pre.length + 1) := by
  rw [List.take_add_one, h.2, ← h.1]; rfl
set_option maxHeartbeats 4000000 in
theorem each_seq (bb g : Nat) (s : Ln) (v : Value) (w : World) (hk : Blk w bb #[pz g] 50) (hs : LnIn w g s v) :
    Iter.Seq Try.prog 32 #[pz bb] plE (PlOk s.l) (Iter.KeepP (fun k => v.ownBlock = some k)) (fun xs => xs = s.l) w := by
  intro ln J Jx W hG hJ hJx hY h0
  obtain ⟨a, c, rfl⟩ := hs.sl
  have b0 := Blk.at (cs := [pz g]) (k := 0) (hk.grow hG) rfl
  have hbb := (hk.grow hG).lt
  have c1 := (hs.grow hG).c1
  have hgl := (hs.grow hG).hb.lt
  have HS := Lib.hid (own_later hs.ho hG)
  have HJ := Lib.hid hJ
  have HY := Lib.hid hY
  have H0 := Lib.hid h0
  have hll := hs.ok.l
  clear hk hs hG hJ hJx hY h0
  generalize s.l = l at *
  refine (callsIn_wide (n := 0)).1 ?_
  refine callsIn_of_wp Try.func32 rfl trivial ?_
  simp only [Try.ntmps32, List.size_toArray, List.length_cons, List.length_nil, Nat.reduceAdd, Nat.reduceSub, Array.replicate_succ, Array.replicate_zero, List.push_toArray, List.append_toArray, List.nil_append, List.cons_append]
  gi_wp2_with fail
  clear b0 c1
  gi_loopw [10] (fun i wr => ∃ (pre : List (Int × Int)) (k : Nat), k ≤ l.length ∧ i = .int .i64 k ∧ Hid (pre = l.take k ∧ wr.ownsRow 0 plcT 2 (.slice a l.length c) l.length (plcs l) ∧ J pre wr)) (fun i _ => l.length - (intOf i).toNat)
  case atStart => exact ⟨[], 0, by omega, rfl, Lib.hid ⟨by simp, HS.out, H0.out⟩⟩
  case round =>
    obtain ⟨pre, k, hk, rfl, HI⟩ := hrel
    by_cases hlt : k < l.length
    · obtain ⟨p, hp⟩ : ∃ p, l[k]? = some p := ⟨_, List.getElem?_eq_getElem hlt⟩
      obtain ⟨hpl, hsl, hj⟩ := HI.out
      have hpk : pre.length = k := by rw [hpl, List.length_take]; omega
      obtain ⟨r, rfl, hc, hr, hcl⟩ := (own_plcs hsl).resolve_left (fun e => by rw [e.2.2] at hlt; simp at hlt)
      obtain ⟨c0, c1⟩ := hcl k p hp
      obtain ⟨x, u⟩ := p
      dsimp only at c0 c1
      have hk1 : IntKind.i64.wrap ((k : Int) + 1) = (k : Int) + 1 := IntWalk.i64_in _ ⟨by omega, by omega⟩
      have d0 : decide ((k : Int) < (l.length : Int)) = true := decide_eq_true (by omega)
      have g1 := Grow.G.alloc (Grow.G.refl wr) (.cells #[.int .i64 x, .int .i64 u] plcT)
      obtain ⟨fn, tmps, assign, body, hy, hR⟩ := HY.out pre (x, u) _ (HJ.out _ _ _ hj g1) ⟨by rw [hpk]; exact hpl, by rw [hpk]; exact hp⟩
      (try unfold plE at hy); (try unfold plE at hR)
      (try dsimp only at hy); (try dsimp only at hR)
      have HN := Lib.hid (And.intro (show pre ++ [(x, u)] = l.take (k + 1) by rw [List.take_add_one, hp, ← hpl]; rfl) (own_later hsl g1))
      clear hpl hsl hj HI hc hp g1 hcl
      gi_wp2_with fail
      refine ⟨rfl, hR.mono ?_⟩
      rintro e w3 (⟨rfl, hj3, hk3⟩ | ⟨rfl, hx3⟩)
      · have HK := Lib.hid (And.intro hj3 hk3)
        clear hj3 hk3 hR hy
        gi_wp2_with fail
        go_roundw
        case rel => exact ⟨pre ++ [_], k + 1, by omega, by go_num, Lib.hid ⟨HN.out.1, own_keep HN.out.2 (fun j hj => HK.out.2.2 j hj (HN.out.2.lt j hj).2), HK.out.1⟩⟩
        case measure => simp [intOf]; omega
      · have HX := Lib.hid hx3
        clear hx3 hR hy
        gi_wp2_with fail
        refine bodyPost_ret (results_none rfl _ _ _) rfl ?_
        exact ⟨⟨_, rfl⟩, .inr ⟨_, HX.out⟩⟩
    · have d0 : decide ((k : Int) < (l.length : Int)) = false := decide_eq_false (by omega)
      obtain ⟨hpl, hsl, hj⟩ := HI.out
      have HN := Lib.hid (And.intro hj (show pre = l by rw [hpl]; exact List.take_of_length_le (by omega)))
      clear hpl hsl hj HI
      gi_wp2_with fail
      go_end0
      exact ⟨⟨_, rfl⟩, .inl ⟨pre, HN.out.2, HN.out.1⟩⟩

/-- While it has not been found. -/
def HasI (w : World) (x : Int) (pre : List (Int × Int)) (W : World) : Prop :=
  Blk W w.heap.size #[.int .i64 x] 3 ∧ Blk W (w.heap.size + 1) #[.bool false] 4 ∧ Below w.heap.size w W ∧ x ∉ pre.map Prod.fst
set_option maxHeartbeats 4000000 in
theorem qhas_any (g : Nat) (s : Ln) (v : Value) (x : Int) (w : World) (h : LnIn w g s v) :
    Calls Try.prog 31 #[pz g, .int .i64 x] w fun e w' => e = .returned (.bool (decide (x ∈ s.ids))) ∧ Grow.G w w' := by
  have HP := Lib.hid h
  clear h
  refine (callsIn_wide (n := 0)).1 ?_
  refine callsIn_of_wp_marks Try.func31 rfl trivial ?_
  simp only [Try.ntmps31, List.size_toArray, List.length_cons, List.length_nil, Nat.reduceAdd, Nat.reduceSub, Array.replicate_succ, Array.replicate_zero, List.push_toArray, List.append_toArray, List.nil_append, List.cons_append]
  gi_wp2_with fail
  refine ⟨trivial, rfl, (callsIn_wide.2 (each_new g _)).mono ?_⟩
  rintro e w1 ⟨bb, rfl, hbb, hk, hg1⟩
  have G0 : Grow.G w ((w.alloc (.cells #[.int .i64 x] 3)).alloc (.cells #[.bool false] 4)) := by (repeat (first | with_reducible exact Grow.G.refl _ | with_reducible exact Below.refl _ _ | with_reducible refine Grow.G.alloc ?_ _ | with_reducible refine Grow.G.trans ?_ hb1 | ((with_reducible refine Below.setCell ?_ ?_ _); rotate_left; (focus (first | omega | (simp; done) | (simp; omega)))) | with_reducible assumption | with_reducible refine Grow.G.trans ?_ (by with_reducible assumption)))
  have B1 := (((Blk.new w #[.int .i64 x] 3).alloc (.cells #[.bool false] 4)).grow hg1)
  have B2 := (Blk.new (w.alloc (.cells #[.int .i64 x] 3)) #[.bool false] 4).grow hg1
  simp only [World.size_alloc] at B2 hbb
  have GA := G0.trans hg1
  have P1 := Lib.hid (HP.out.grow GA)
  have hw1 : w.heap.size + 1 < w1.heap.size := B2.lt
  clear G0 hg1
  gi_wp2_with fail
  refine Iter.range (gf := 32) (lb := #[pz bb]) (encs := plE) (Ok := PlOk s.l) (Kp := Iter.KeepP (fun k => v.ownBlock = some k)) (S := fun xs => xs = s.l) rfl (enters_of Try.func32 (by kernel_rfl) rfl) (each_seq bb g s v w1 hk P1.out) (Grow.G.refl _) (fun _ => rfl) (fun s x A B h b => h) Iter.KeepP.trans (fun h => Iter.KeepP.book h (fun k hk => (P1.out.ho.lt k hk).2))
    (HasI w x) (fun cd pre W => cd = .ret ∧ Blk W (w.heap.size + 1) #[.bool true] 4 ∧ Below w.heap.size w W ∧ x ∈ s.ids) ?hI ?hIx ?h0 ?round ?done ?stop
  case hI =>
    rintro s A B ⟨h1, h2, hB, hP⟩ hbk
    exact ⟨h1.book hbk, h2.book hbk, hB.trans (hbk.below.mono (by have := hB.size; omega)), hP⟩
  case hIx =>
    rintro cd s A B ⟨h1, h2, hB, hP⟩ hbk
    exact ⟨h1, h2.book hbk, hB.trans (hbk.below.mono (by have := hB.size; omega)), hP⟩
  case h0 => exact ⟨B1, B2, GA, by simp⟩
  case round =>
    rintro ln pre ⟨y, u⟩ W hl ⟨hb1, hb2, hB, hP⟩ ⟨hpre, hat⟩
    simp only [plE, Iter.zip2, List.setIfInBounds_toArray, List.set_cons_zero, List.set_cons_succ]
    gi_wp2_with fail
    refine ⟨Grow.G.refl _, fun W₂ hbk _ => ?_⟩
    have C1 := hb1.book hbk
    have C2 := hb2.book hbk
    have BW := hB.trans (hbk.below.mono (by have := hB.size; omega))
    have r1 := Blk.at (cs := [Value.int .i64 x]) (k := 0) C1 rfl
    have r2 := Blk.at (cs := [Value.bool false]) (k := 0) C2 rfl
    have f2 := C2.free 0
    have sW := BW.size
    have lW := C2.lt
    have H := Lib.hid (And.intro C1 (And.intro C2 BW))
    by_cases e : y = x
    · have d0 : (y == x) = true := by simpa using e
      have HM : Hid (x ∈ s.ids) := Lib.hid (by unfold Ln.ids; rw [← e]; exact List.mem_map_of_mem (f := Prod.fst) (List.mem_of_getElem? hat))
      clear hb1 hb2 hB hP hbk C1 C2 BW hat hpre e
      gi_wp2_with fail
      have CS : Chg (fun k => k = w.heap.size + 1) W₂ (W₂.setCell ⟨w.heap.size + 1, 0, none⟩ (.bool true)) := Chg.setCell (G := fun k => k = w.heap.size + 1) (Chg.refl _ _) (fun _ => rfl) _ _
      exact ⟨Iter.Rest.setCell _ _ _, rfl, H.out.2.1.set 0 (.bool true), H.out.2.2.trans (CS.below (B := w.heap.size) (by omega) (fun k hk e => by have e : k = w.heap.size + 1 := e; omega)), HM.out⟩
    · have d0 : (y == x) = false := by simpa using e
      have HX : Hid (x ∉ (pre ++ [(y, u)]).map Prod.fst) := Lib.hid (by
        rw [List.map_append, List.mem_append]
        rintro (q | q)
        · exact hP q
        · simp at q; exact e q.symm)
      clear hb1 hb2 hB hP hbk C1 C2 BW hat hpre e
      gi_wp2_with fail
      exact ⟨Iter.Rest.refl _ _, ⟨Nat.le_refl _, fun _ _ _ => rfl⟩, H.out.1, H.out.2.1, H.out.2.2, HX.out⟩
  case done =>
    rintro xs W hS ⟨hb1, hb2, hB, hP⟩ hD
    replace hS : xs = s.l := hS
    have HX : Hid (decide (x ∈ s.ids) = false) := Lib.hid (decide_eq_false (by rw [hS] at hP; exact hP))
    have r2 := Blk.at (cs := [Value.bool false]) (k := 0) hb2 rfl
    have f2 := hb2.free 0
    have l2 := hb2.lt
    have H := Lib.hid (And.intro hb2 (And.intro hD hB))
    clear hb1 hb2 hB hP hD hS
    gi_wp2_with fail
    have CS : Chg (fun k => k = w.heap.size + 1) W (W.setCell ⟨w.heap.size + 1, 0, none⟩ (.bool false)) := Chg.setCell (G := fun k => k = w.heap.size + 1) (Chg.refl _ _) (fun _ => rfl) _ _
    have DB := H.out.1.set 0 (.bool false)
    have hK := CS.blk H.out.2.1 (fun q => by have q : w1.heap.size = w.heap.size + 1 := q; omega)
    have sW := H.out.2.2.size
    refine ⟨by simp, .inl ⟨_, _, rfl, run_takeDeferred hK, ?_⟩⟩
    have BG := DB.book (Iter.Book.putObj (n := 0) (.deferred none) hK rfl (Nat.zero_le _))
    have hX := H.out.2.2.trans (CS.below (B := w.heap.size) sW (fun k hk q => by have q : k = w.heap.size + 1 := q; omega))
    refine ⟨.bool false, by simp [results, Try.results31, go_sem, BG.cell], by rw [HX.out], ?_⟩
    exact hX.trans ((Iter.Book.putObj (n := w.heap.size) _ hK rfl (by omega)).below.mono (by have := hX.size; omega))
  case stop =>
    rintro cd pre W ⟨rfl, hb, hB, hM⟩ hD
    have H := Lib.hid (And.intro hb (And.intro hD hB))
    have HX : Hid (decide (x ∈ s.ids) = true) := Lib.hid (decide_eq_true hM)
    clear hb hB hD hM
    gi_wp2_with fail
    have sW := H.out.2.2.size
    refine ⟨by simp, .inl ⟨_, _, rfl, run_takeDeferred H.out.2.1, ?_⟩⟩
    have BG := H.out.1.book (Iter.Book.putObj (n := 0) (.deferred none) H.out.2.1 rfl (Nat.zero_le _))
    refine ⟨.bool true, by simp [results, Try.results31, go_sem, BG.cell], by rw [HX.out], ?_⟩
    exact H.out.2.2.trans ((Iter.Book.putObj (n := w.heap.size) _ H.out.2.1 rfl (by omega)).below.mono (by omega))

theorem infoInt8 : (Try.prog.info? 3).map (fun i => (i.zero, i.size, i.bytes)) = some (some (.int .i64 0), 1, 8) := by kernel_rfl
theorem infoPlc : (Try.prog.info? 52).map (fun i => (i.zero, i.size, i.bytes)) = some (some (.agg #[.int .i64 0, .int .i64 0]), 2, 16) := by kernel_rfl
theorem infoOne : (Try.prog.info? 49).map (fun i => (i.zero, i.size, i.bytes)) = some (some (.agg #[.int .i64 0, .int .i64 0]), 2, 16) := by kernel_rfl
theorem keep_below8 {p : Nat → Prop} {B : Nat} {w w' : World} (h : Below B w w') (hp : ∀ k, p k → k < B) : Iter.KeepP p w w' := ⟨h.size, fun k hk hs => h.block k (hp k hk)⟩
def ListI (w : World) (pre : List (Int × Int)) (W : World) : Prop :=
  ∃ u, Blk W w.heap.size #[u] 22 ∧ W.ownsRow w.heap.size 3 1 u pre.length (intsV (pre.map Prod.fst)) ∧ Below w.heap.size w W
set_option maxHeartbeats 4000000 in
theorem qlist_any (g : Nat) (s : Ln) (v : Value) (w : World) (h : LnIn w g s v) :
    Calls Try.prog 28 #[pz g] w fun e w' => ∃ u, e = .returned u ∧ w'.ownsRow w.heap.size 3 1 u s.ids.length (intsV s.ids) ∧ Grow.G w w' := by
  have HP := Lib.hid h
  have hvlt : ∀ k, v.ownBlock = some k → k < w.heap.size := fun k hk => (h.ho.lt k hk).2
  have HVL := Lib.hid hvlt
  have hll := h.ok.l
  clear h hvlt
  refine (callsIn_wide (n := 0)).1 ?_
  refine callsIn_of_wp_marks Try.func28 rfl trivial ?_
  simp only [Try.ntmps28, List.size_toArray, List.length_cons, List.length_nil, Nat.reduceAdd, Nat.reduceSub, Array.replicate_succ, Array.replicate_zero, List.push_toArray, List.append_toArray, List.nil_append, List.cons_append]
  gi_wp2_with fail
  refine ⟨trivial, rfl, (callsIn_wide.2 (each_new g _)).mono ?_⟩
  rintro e w1 ⟨bb, rfl, hbb, hk, hg1⟩
  have B1 := (Blk.new w #[.slice none 0 0] 22).grow hg1
  have GA := (Grow.G.alloc (Grow.G.refl w) (.cells #[.slice none 0 0] 22)).trans hg1
  simp only [World.size_alloc] at hbb
  have P1 := Lib.hid (HP.out.grow GA)
  have hw1 : w.heap.size < w1.heap.size := B1.lt
  clear hg1
  gi_wp2_with fail
  refine Iter.range (gf := 32) (lb := #[pz bb]) (encs := plE) (Ok := PlOk s.l) (Kp := Iter.KeepP (fun k => v.ownBlock = some k)) (S := fun xs => xs = s.l) rfl (enters_of Try.func32 (by kernel_rfl) rfl) (each_seq bb g s v w1 hk P1.out) (Grow.G.refl _) (fun _ => rfl) (fun s x A B h b => h) Iter.KeepP.trans (fun h => Iter.KeepP.book h (fun k hk => (P1.out.ho.lt k hk).2))
    (ListI w) (fun _ _ _ => False) ?hI (fun _ _ _ _ h _ => h) ?h0 ?round ?done (fun _ _ _ h => h.elim)
  case hI =>
    rintro s A B ⟨u, hv, ho, hB⟩ hbk
    exact ⟨u, hv.book hbk, own_book' ho hbk, hB.trans (hbk.below.mono (by have := hB.size; omega))⟩
  case h0 => exact ⟨_, B1, World.ownsRow_nil _ _ _ _, GA⟩
  case round =>
    rintro ln pre ⟨y, z⟩ W hl2 ⟨u, hv, ho, hB⟩ hok
    have hlt : pre.length < s.l.length := (List.getElem?_eq_some_iff.1 hok.2).1
    simp only [plE, Iter.zip2, List.setIfInBounds_toArray, List.set_cons_zero, List.set_cons_succ]
    gi_wp2_with fail
    refine ⟨Grow.G.refl _, fun W₂ hbk _ => ?_⟩
    have V2 := hv.book hbk
    have O2 := own_book' ho hbk
    have BW := hB.trans (hbk.below.mono (by have := hB.size; omega))
    have NV : ¬ u.ownBlock = some w.heap.size := own_blk_types O2 V2 (by decide)
    have v0 := Blk.at (cs := [u]) (k := 0) V2 rfl
    obtain ⟨i0, hi, hz0, hz1, hz2⟩ := info_parts infoInt8
    have H := Lib.hid (And.intro V2 (And.intro O2 (And.intro BW NV)))
    have sW2 := BW.size
    clear V2 O2 BW hbk hok hv hB ho NV
    gi_wp2_with (gi_at_builtin; refine Fr.wpListIn_append_fr _ rfl _ _ 22 rfl w.heap.size 3 i0 (.int .i64 0) 1 8 Try.underlying22 hi hz0 hz1 hz2 rfl (by decide) _ _ _ rfl (own_later H.out.2.1 (Grow.G.alloc (Grow.G.refl _) _)) ⟨W₂.heap.size, 0, none⟩ 1 1 [.int .i64 y] rfl rfl (news_new _ _ _ _ rfl) (one1 rfl) (by unfold maxLen; omega) (by omega) (by simp; omega) ?_; intro v' w' hown hfr; obtain ⟨g9, c9, rfl, hg9⟩ := own_some hown (by omega); have V3 := (H.out.1.grow (Grow.G.alloc (Grow.G.refl _) _)).chg (Chg.ofFr hfr) H.out.2.2.2; have e0 := Blk.at (cs := [u]) (k := 0) V3 rfl; have f0 := V3.free 0; have l0 := V3.lt; have AP := Chg.trans (Chg.grow (Grow.G.alloc (Grow.G.refl _) _)) (Chg.ofFr hfr); have HW := Lib.hid (And.intro V3 (And.intro AP hown)); clear V3 AP hown hfr)
    obtain ⟨V3, AP, OW⟩ := HW.out
    obtain ⟨V2, O2, BW, NV⟩ := H.out
    have CS : Chg (fun k => k = w.heap.size) w' (w'.setCell ⟨w.heap.size, 0, none⟩ (.slice (some ⟨g9, 0, none⟩) (pre.length + 1) c9)) := Chg.setCell (G := fun k => k = w.heap.size) (Chg.refl _ _) (fun _ => rfl) _ _
    have VZ := V3.set 0 (.slice (some ⟨g9, 0, none⟩) (pre.length + 1) c9)
    have RZ := CS.own OW (fun k hk q => by have q : k = w.heap.size := q; subst q; exact own_blk_types OW V3 (by decide) hk)
    have hrow : ∀ k, u.ownBlock = some k → w.heap.size ≤ k := fun k hk => (O2.lt k hk).1
    have BZ := (AP.below (B := w.heap.size) BW.size (fun k hk q => by have := hrow k q; omega)).trans (CS.below (B := w.heap.size) (by have := AP.size; omega) (fun k hk q => by have q : k = w.heap.size := q; omega))
    refine ⟨(AP.rest (fun k _ q o ho => own_cells' O2 q ho)).trans (Iter.Rest.setCell _ _ _), keep_below8 BZ HVL.out, _, VZ, ?_, BW.trans BZ⟩
    rw [List.length_append, List.length_singleton, List.map_append]
    show World.ownsRow _ _ _ _ _ _ (List.map _ (_ ++ _))
    rw [List.map_append]
    exact RZ
  case done =>
    rintro xs W hS ⟨u, hv, ho, hB⟩ hD
    replace hS : xs = s.l := hS
    have v0 := Blk.at (cs := [u]) (k := 0) hv rfl
    have HO := Lib.hid (show W.ownsRow w.heap.size 3 1 u s.ids.length (intsV s.ids) from by rw [Ln.ids_len]; rw [hS] at ho; exact ho)
    have HB := Lib.hid hB
    have HDD := Lib.hid hD
    clear ho hB hv hD hS
    gi_wp2_with fail
    have sW := HB.out.size
    refine ⟨by simp, .inl ⟨_, _, rfl, run_takeDeferred HDD.out, ?_⟩⟩
    have BK : Iter.Book w.heap.size W (W.putObj w1.heap.size (.deferred none)) := Iter.Book.putObj _ HDD.out rfl (by omega)
    exact ⟨u, by simp [results, Try.results28, go_sem], u, rfl, own_book' HO.out BK, HB.out.trans (BK.below.mono (by omega))⟩
end Go.Proofs.Ytlnffdkaleapbaa

/- clear of one element behind a row. No program is named here. -/
namespace Go
set_option linter.unusedVariables false
set_option linter.unusedSimpArgs false
open Go.RowKit Go.Lib

section
variable {P : Program} (w : World)
theorem run_clear1 (t ty e : TypeId) (i : TypeInfo) (z : Value) (ht : P.underlying t = some (.slice e)) (hi : P.info? e = some i) (hz : i.zero = some z) {size : Nat} (hzs : z.cells.size = size)
    {g off c : Nat} {cur : Array Value} {T : TypeId} (hb : Blk w g cur T) (hfit : off + size ≤ cur.size) (h1 : ∀ u ∈ (Builtin.zeroCells z.cells 1).toList, u.oneCell' = true) :
    ∃ w', (Builtin.clear_ #[t] ty #[.slice (some ⟨g, off, none⟩) 1 c]).run P w = .ok (.tuple #[]) w' ∧ (∃ cur', Blk w' g cur' T ∧ cur'.size = cur.size ∧ cur'.toList.take off = cur.toList.take off) ∧ Chg (fun k => k = g) w w' := by
  have hl : (Builtin.zeroCells z.cells 1).toList.length = size := by rw [Array.length_toList, size_zeroCells, hzs, Nat.one_mul]
  have hrun := run_storeCells_at (P := P) g off T (Builtin.zeroCells z.cells 1).toList 0 cur w hb (by rw [hl]; omega) h1
  simp only [Nat.add_zero] at hrun
  refine ⟨w.setRow g (cur.toList.take off ++ (Builtin.zeroCells z.cells 1).toList ++ cur.toList.drop (off + (Builtin.zeroCells z.cells 1).toList.length)).toArray, ?_, ⟨_, setRow_heap w g cur _ T _ hb, ?_, ?_⟩, ?_⟩
  · simp [Builtin.clear_, run_underlying ht, zeroValue, typeInfo, hi, hz, hrun]
  · simp only [List.size_toArray, List.length_append, List.length_take, List.length_drop, Array.length_toList] at hl ⊢
    omega
  · simp only [List.append_assoc]
    rw [List.take_append_of_le_length (by rw [List.length_take, Array.length_toList]; omega), List.take_take, Nat.min_self]
  · refine ⟨rfl, rfl, rfl, by simp [World.setRow], fun k _ hk => ?_⟩
    simp only [World.setRow, Array.getElem?_modify]
    rw [if_neg (fun e => hk e.symm)]
theorem wpList_clear1 {ops : Array Oper} {rest : List Oper} {o : Oper} {a : Act} {Q : Exit → Act → World → Prop} (hgd : o.guard = none) (s : Operand) (t : TypeId)
    (ho : o.op = .call { callee := .builtin .clear, args := #[s], argTypes := #[t] })
    (e : TypeId) (i : TypeInfo) (z : Value) (ht : P.underlying t = some (.slice e)) (hi : P.info? e = some i) (hz : i.zero = some z) (size : Nat) (hzs : z.cells.size = size)
    {g off c : Nat} (hs : a.eval s = .slice (some ⟨g, off, none⟩) 1 c) {cur : Array Value} {T : TypeId} (hb : Blk w g cur T) (hfit : off + size ≤ cur.size) (h1 : ∀ u ∈ (Builtin.zeroCells z.cells 1).toList, u.oneCell' = true)
    (h : ∀ w', (∃ cur', Blk w' g cur' T ∧ cur'.size = cur.size ∧ cur'.toList.take off = cur.toList.take off) → Chg (fun k => k = g) w w' → wpList P ops Q rest (a.put o.dst (.tuple #[])) w') : wpList P ops Q (o :: rest) a w := by
  refine wpList_plain hgd fun K hK => ?_
  obtain ⟨w', hr, h2, h3⟩ := run_clear1 (P := P) w t o.type e i z ht hi hz hzs (c := c) hb hfit h1
  unfold Oper.wp execOp
  simp only [ho, resolve, invoke, builtin, Sem.run_bind, Sem.run_pure, Result.andThen_ok, List.map_toArray, List.map_cons, List.map_nil, hs, hr]
  exact hK _ _ (h w' h2 h3)
end
namespace Fr
section
variable {P : Program} (w : World)
/-- An append that has room: where it lies. -/
theorem run_append_in (base : Nat) (t ty e : TypeId) (i : TypeInfo) (z : Value) (size bytes : Nat) (ht : P.underlying t = some (.slice e)) (hi : P.info? e = some i) (hz : i.zero = some z)
    (hsize : i.size = size) (hby : i.bytes = bytes) (hzs : z.cells.size = size) (hsz : 0 < size)
    (g n cap : Nat) (xs : List Value) (hown : w.ownsRow base e size (.slice (some ⟨g, 0, none⟩) n cap) n xs)
    (a : Addr) (m c : Nat) (news : List Value) (hl : news.length = m * size) (hnews : ∀ j u, news[j]? = some u → w.cell? (a.add j) = some u) (h1 : ∀ u ∈ news, u.oneCell' = true)
    (hroom : n + m ≤ cap) (hbytes : (n + m) * bytes ≤ 140737488355328) (hbase : base ≤ w.heap.size) :
    ∃ w', (Builtin.append_ #[t, t] ty #[.slice (some ⟨g, 0, none⟩) n cap, .slice (some a) m c]).run P w = .ok (.slice (some ⟨g, 0, none⟩) (n + m) cap) w' ∧ w'.ownsRow base e size (.slice (some ⟨g, 0, none⟩) (n + m) cap) (n + m) (xs ++ news) ∧ Chg (fun k => k = g) w w' := by
  obtain ⟨v', w', hr, h2, h3⟩ := run_append_fr (P := P) w base t ty e i z size bytes ht hi hz hsize hby hzs hsz _ n xs hown a m c news hl hnews h1 (by
    rcases hown.2 with ⟨q, _⟩ | ⟨g', cap', cur, hv, hb, hg, hn, hm, hs, ht⟩
    · cases q
    · cases hv; omega) hbytes hbase
  subst hsize hby
  rcases hown.2 with ⟨q, _⟩ | ⟨g', cap', cur, hv, hb, hg, hn, hm, hs, htk⟩
  · cases q
  · cases hv
    have hfit : n * i.size + news.length ≤ cur.size := by rw [hl, hs, ← Nat.add_mul]; exact Nat.mul_le_mul_right _ hroom
    have hr' := run_append_room (P := P) w t ty e i ht hi g n cap cur hg a m c news hl hnews h1 hroom hfit
    have e1 := hr.symm.trans hr'
    injection e1 with e1 e2
    subst e1
    exact ⟨w', hr, h2, (Chg.ofFr h3).mono fun k _ q => by have q : g = k := Option.some.inj q; exact q.symm⟩
theorem own_in {ops : Array Oper} {Q : Exit → Act → World → Prop} {i : Nat} {o : Oper} {rest : List Oper} {a : Act} {w : World} {K : Act → World → Prop} (hi' : ops.toList.drop i = o :: rest) (hw : Region.wanted o (yielded ops a.tmps) = true) (s x : Operand) (t : TypeId)
    (ho : o.op = .call { callee := .builtin .append, args := #[s, x], argTypes := #[t, t] })
    (base : Nat) (e : TypeId) (i' : TypeInfo) (z : Value) (size bytes : Nat) (ht : P.underlying t = some (.slice e)) (hi : P.info? e = some i') (hz : i'.zero = some z)
    (hsize : i'.size = size) (hby : i'.bytes = bytes) (hzs : z.cells.size = size) (hsz : 0 < size)
    (g n cap : Nat) (xs : List Value) (hs : a.eval s = .slice (some ⟨g, 0, none⟩) n cap) (hown : w.ownsRow base e size (.slice (some ⟨g, 0, none⟩) n cap) n xs)
    (ad : Addr) (m c : Nat) (news : List Value) (hx : a.eval x = .slice (some ad) m c) (hl : news.length = m * size) (hnews : ∀ j u, news[j]? = some u → w.cell? (ad.add j) = some u) (h1 : ∀ u ∈ news, u.oneCell' = true)
    (hroom : n + m ≤ cap) (hbytes : (n + m) * bytes ≤ 140737488355328) (hbase : base ≤ w.heap.size)
    (h : ∀ w', w'.ownsRow base e size (.slice (some ⟨g, 0, none⟩) (n + m) cap) (n + m) (xs ++ news) → Chg (fun k => k = g) w w' → K (a.put o.dst (.slice (some ⟨g, 0, none⟩) (n + m) cap)) w') : wpOp P ops Q i K a w := by
  obtain ⟨w', hr, h2, h3⟩ := run_append_in (P := P) w base t o.type e i' z size bytes ht hi hz hsize hby hzs hsz g n cap xs hown ad m c news hl hnews h1 hroom hbytes hbase
  unfold wpOp
  simp only [Evo.at_drop hi', hw, if_true]
  refine .inl ?_
  unfold Oper.wp execOp
  simp only [ho, resolve, invoke, builtin, Sem.run_bind, Sem.run_pure, Result.andThen_ok, List.map_toArray, List.map_cons, List.map_nil, hs, hx, hr]
  exact h w' h2 h3
end
end Fr
end Go

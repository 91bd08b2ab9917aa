/- My own texts OffRow, IntO, laid in one file. -/
import Derived.Test.YtfnpghekkhnjkaaZ2
import Derived.Test.YtfnpghekkhnjkaaZ48
import Derived.ArgAppend
import Derived.Test.YtfnpghekkhnjkaaZ29
import Derived.Test.YtfnpghekkhnjkaaZ1

/- A row of a call's own that may begin behind its block's first cell (x[1:]): an append onto it, its exact frame. No program is named here. -/
namespace Go
set_option linter.unusedVariables false
set_option linter.unusedSimpArgs false
open Go.RowKit Go.Lib

def World.offRow (w : World) (base : Nat) (e : TypeId) (size : Nat) (v : Value) (n : Nat) (xs : List Value) : Prop :=
  xs.length = n * size ∧
  ((v = .slice none 0 0 ∧ n = 0) ∨
   ∃ g off cap cur, v = .slice (some ⟨g, off, none⟩) n cap ∧ base ≤ g ∧ Blk w g cur e ∧ n ≤ cap ∧ cap ≤ maxLen ∧ off + cap * size ≤ cur.size ∧ (cur.toList.drop off).take (n * size) = xs)
theorem Blk.setCells {w : World} {g : Nat} {T : TypeId} : ∀ (vs : List Value) (o : Nat) (w : World) (cur : Array Value), Blk w g cur T → o + vs.length ≤ cur.size → Blk (w.setCells g o vs) g (cur.toList.take o ++ vs ++ cur.toList.drop (o + vs.length)).toArray T
  | [], o, w, cur, h, _ => by
    rw [World.setCells, List.append_nil, List.length_nil, Nat.add_zero, List.take_append_drop]
    exact h
  | v :: r, o, w, cur, h, hl => by
    rw [List.length_cons] at hl
    rw [World.setCells]
    have := Blk.setCells (T := T) (w := w) r (o + 1) (w.setCell ⟨g, o, none⟩ v) (cur.setIfInBounds o v) (h.set o v) (by rw [Array.size_setIfInBounds]; omega)
    rw [Array.toList_setIfInBounds] at this
    have hl2 : o < cur.toList.length := by rw [Array.length_toList]; omega
    have e1 : (cur.toList.set o v).take (o + 1) = cur.toList.take o ++ [v] := by
      rw [List.take_add_one, List.take_set_of_le (Nat.le_refl _), List.getElem?_set_self hl2]; rfl
    have e2 : (cur.toList.set o v).drop (o + 1 + r.length) = cur.toList.drop (o + (v :: r).length) := by
      rw [List.drop_set_of_lt (by omega), List.length_cons]
      congr 1; omega
    rw [e1, e2, List.append_assoc (cur.toList.take o) [v] r] at this
    exact this
theorem Chg.setCells {g : Nat} : ∀ (vs : List Value) (o : Nat) (w : World), Chg (fun k => k = g) w (w.setCells g o vs)
  | [], o, w => Chg.refl _ _
  | v :: r, o, w => by
    rw [World.setCells]
    exact (Chg.setCell (G := fun k => k = g) (Chg.refl _ _) (fun _ => rfl) o v).trans (Chg.setCells r (o + 1) _)
section
variable {w w' : World} {base e sz n : Nat} {v : Value} {xs : List Value}
theorem World.ownsRow.off (h : w.ownsRow base e sz v n xs) : w.offRow base e sz v n xs := by
  refine ⟨h.1, h.2.imp id ?_⟩
  rintro ⟨g, cap, cur, hv, hb, hg, hn, hm, hs, ht⟩
  exact ⟨g, 0, cap, cur, hv, hb, hg, hn, hm, by omega, by rw [List.drop_zero]; exact ht⟩
theorem World.offRow.lt (h : w.offRow base e sz v n xs) : ∀ k, v.ownBlock = some k → base ≤ k ∧ k < w.heap.size := by
  intro k hk
  rcases h.2 with ⟨rfl, _⟩ | ⟨g, off, cap, cur, rfl, hb, hg, _⟩
  · cases hk
  · cases hk
    exact ⟨hb, hg.lt⟩
theorem Chg.offRow {G : Nat → Prop} (h : Chg G w w') (ho : w.offRow base e sz v n xs) (hg : ∀ k, v.ownBlock = some k → ¬ G k) : w'.offRow base e sz v n xs := by
  refine ⟨ho.1, ho.2.imp id ?_⟩
  rintro ⟨k, off, cap, cur, hv, hb, hh, rest⟩
  exact ⟨k, off, cap, cur, hv, hb, hh.chg h (hg k (by rw [hv]; rfl)), rest⟩
theorem World.offRow.later (ho : w.offRow base e sz v n xs) (g : Grow.G w w') : w'.offRow base e sz v n xs := (Chg.grow (G := fun _ => False) g).offRow ho (fun _ _ => id)
theorem World.offRow.base' {b' : Nat} (ho : w.offRow base e sz v n xs) (hb : b' ≤ base) : w.offRow b' e sz v n xs :=
  ⟨ho.1, ho.2.imp id fun ⟨k, off, cap, cur, hv, h, rest⟩ => ⟨k, off, cap, cur, hv, Nat.le_trans hb h, rest⟩⟩
theorem World.offRow.shape (h : w.offRow base e sz v n xs) : ∃ a c, v = .slice a n c := by
  rcases h.2 with ⟨rfl, rfl⟩ | ⟨g, off, cap, cur, rfl, _⟩
  · exact ⟨none, 0, rfl⟩
  · exact ⟨_, cap, rfl⟩
/-- A cell of it. -/
theorem World.offRow.cell {g off c : Nat} (h : w.offRow base e sz (.slice (some ⟨g, off, none⟩) n c) n xs) {j : Nat} {u : Value} (hj : xs[j]? = some u) : w.cell? ⟨g, off + j, none⟩ = some u := by
  rcases h.2 with ⟨h1, _⟩ | ⟨g', off', cap, cur, hv, hb, hg, hn, hm, hs, ht⟩
  · cases h1
  · cases hv
    rw [hg.cell, ← Array.getElem?_toList]
    rw [← ht, List.getElem?_take] at hj
    split at hj
    · rw [List.getElem?_drop] at hj; exact hj
    · cases hj
theorem offRow_nil (w : World) (base e sz : Nat) : w.offRow base e sz (.slice none 0 0) 0 [] := ⟨by simp, .inl ⟨rfl, rfl⟩⟩
/-- How a row stands. -/
theorem World.offRow.at (h : w.offRow base e sz v n xs) : (v = .slice none 0 0 ∧ n = 0 ∧ xs = []) ∨ ∃ g off c, v = .slice (some ⟨g, off, none⟩) n c ∧ n ≤ c ∧ base ≤ g ∧ g < w.heap.size ∧ ∀ j u, xs[j]? = some u → w.cell? ⟨g, off + j, none⟩ = some u := by
  have h0 := h
  rcases h.2 with ⟨h1, h2⟩ | ⟨g, off, cap, cur, hv, hb, hg, hn, hm, hs, ht⟩
  · exact .inl ⟨h1, h2, List.eq_nil_of_length_eq_zero (by rw [h.1, h2, Nat.zero_mul])⟩
  · rw [hv] at h0
    exact .inr ⟨g, off, cap, hv, hn, hb, hg.lt, fun j u hj => h0.cell hj⟩
end
namespace Fr
section
variable {P : Program} (w : World)
theorem run_append_off (base : Nat) (t ty e : TypeId) (i : TypeInfo) (z : Value) (size bytes : Nat) (ht : P.underlying t = some (.slice e)) (hi : P.info? e = some i) (hz : i.zero = some z)
    (hsize : i.size = size) (hby : i.bytes = bytes) (hzs : z.cells.size = size) (hsz : 0 < size)
    (v : Value) (n : Nat) (xs : List Value) (hown : w.offRow base e size v n xs)
    (a : Option Addr) (m c : Nat) (news : List Value) (hl : news.length = m * size) (hnews : Src w a news) (h1 : ∀ u ∈ news, u.oneCell' = true)
    (h63 : n + m ≤ maxLen) (hbytes : (n + m) * bytes ≤ 140737488355328) (hbase : base ≤ w.heap.size) :
    ∃ v' w', (Builtin.append_ #[t, t] ty #[v, .slice a m c]).run P w = .ok v' w' ∧ w'.offRow base e size v' (n + m) (xs ++ news) ∧ Fr w w' v v' := by
  rcases hown.2 with ⟨rfl, rfl⟩ | ⟨g, off, cap, cur, rfl, hb, hg, hn, hm, hs, htk⟩
  · obtain ⟨v', w', q1, q2, q3⟩ := run_append_src (P := P) w base t ty e i z size bytes ht hi hz hsize hby hzs hsz _ 0 xs ⟨hown.1, .inl ⟨rfl, rfl⟩⟩ a m c news hl hnews h1 h63 hbytes hbase
    exact ⟨v', w', q1, q2.off, q3⟩
  · have hlen : (xs ++ news).length = (n + m) * size := by rw [List.length_append, hown.1, hl, Nat.add_mul]
    rcases hnews with ⟨rfl, rfl⟩ | ⟨ad, rfl, hc⟩
    · have hm0 : m = 0 := by
        rcases Nat.eq_zero_or_pos m with h | h
        · exact h
        · have h2 := Nat.mul_pos h hsz
          have h3 : (0 : Nat) = m * size := hl
          omega
      subst hm0
      refine ⟨_, w, ?_, by simpa using hown, Fr.grow (Grow.G.refl _) _⟩
      simp [Builtin.append_, run_underlying ht, sizeOf, typeInfo, hi, Builtin.lenOf, Builtin.firstCells, hn, storeCells]
    · subst hsize hby
      by_cases hroom : n + m ≤ cap
      · have hfit : off + n * i.size + news.length ≤ cur.size := by
          have : (n + m) * i.size ≤ cap * i.size := Nat.mul_le_mul_right _ hroom
          rw [Nat.add_mul] at this
          rw [hl]; omega
        have hr := run_append_room_cells (P := P) w t ty e i ht hi g off n cap ad m c news hl hc h1 hroom (fun j hj => by
          rw [hg.cell, Array.getElem?_eq_getElem (by omega)]; rfl) (fun j hj => hg.free _)
        have hB := Blk.setCells (T := e) (w := w) news (off + n * i.size) w cur hg hfit
        refine ⟨_, _, hr, ⟨hlen, .inr ⟨g, off, cap, _, rfl, hb, hB, hroom, hm, ?_, ?_⟩⟩, ?_, .inl rfl⟩
        · simp only [List.size_toArray, List.length_append, List.length_take, List.length_drop, Array.length_toList]; omega
        · have hx : xs.length = n * i.size := hown.1
          have e1 : ((cur.toList.take (off + n * i.size) ++ news ++ cur.toList.drop (off + n * i.size + news.length)).drop off) = xs ++ news ++ cur.toList.drop (off + n * i.size + news.length) := by
            rw [List.append_assoc, List.drop_append_of_le_length (by rw [List.length_take, Array.length_toList]; omega), List.drop_take, Nat.add_sub_cancel_left, htk, List.append_assoc]
          show (List.drop off (List.toArray _).toList).take _ = _
          rw [e1, ← hlen]
          exact List.take_left
        · have C := Chg.setCells (g := g) news (off + n * i.size) w
          exact ⟨C.os, C.tape, C.output, C.size, fun k hk hne => C.block k hk (fun e => hne (by rw [e]; rfl))⟩
      · have holds : ∀ j u, xs[j]? = some u → w.cell? ((⟨g, off, none⟩ : Addr).add j) = some u := fun j u hj => by
          have e1 : (⟨g, off, none⟩ : Addr).add j = ⟨g, off + j, none⟩ := by unfold Addr.add; split <;> simp_all
          rw [e1]; exact hown.cell hj
        have hsmall : n + m ≤ 9223372036854775807 := by simp only [maxLen] at h63; omega
        have hr := run_append_grow (P := P) w t ty e i z ht hi hz ⟨g, off, none⟩ n cap xs hown.1 holds ad m c news hl hc (by omega) (by omega) (growslice_fits (by omega) hbytes)
        refine ⟨_, _, hr, World.ownsRow.off ⟨hlen, .inr ⟨w.heap.size, _, _, rfl, hbase, heap_alloc_new w.drew _, grownCap_ge w (n + m) cap e, grownCap_le_maxLen w (n + m) cap e h63, ?_, ?_⟩⟩, ⟨rfl, rfl, rfl, by simp, fun k hk _ => (Grow.G.trans (Grow.G.drawn _) (Grow.G.alloc (Grow.G.refl w.drew) _)).block k hk⟩, .inr ⟨_, rfl, Nat.le_refl _⟩⟩
        · have hge := grownCap_ge w (n + m) cap e
          simp only [Array.size_append, List.size_toArray, size_zeroCells, hzs, hown.1, hl, ← Nat.add_mul]
          congr 1
          omega
        · simp only [Array.toList_append, List.append_assoc]
          rw [← List.append_assoc, ← hlen]
          exact List.take_left
theorem wp_append_off {o : Oper} {a : Act} {K : Act → World → Prop} {Q : Exit → Act → World → Prop} (s x : Operand) (t : TypeId)
    (ho : o.op = .call { callee := .builtin .append, args := #[s, x], argTypes := #[t, t] })
    (base : Nat) (e : TypeId) (i : TypeInfo) (z : Value) (size bytes : Nat) (ht : P.underlying t = some (.slice e)) (hi : P.info? e = some i) (hz : i.zero = some z)
    (hsize : i.size = size) (hby : i.bytes = bytes) (hzs : z.cells.size = size) (hsz : 0 < size)
    (v : Value) (n : Nat) (xs : List Value) (hs : a.eval s = v) (hown : w.offRow base e size v n xs)
    (ad : Option Addr) (m c : Nat) (news : List Value) (hx : a.eval x = .slice ad m c) (hl : news.length = m * size) (hnews : Src w ad news) (h1 : ∀ u ∈ news, u.oneCell' = true)
    (h63 : n + m ≤ maxLen) (hbytes : (n + m) * bytes ≤ 140737488355328) (hbase : base ≤ w.heap.size)
    (h : ∀ v' w', w'.offRow base e size v' (n + m) (xs ++ news) → Fr w w' v v' → K (a.put o.dst v') w') : o.wp P a w K Q := by
  obtain ⟨v', w', hr, h2, h3⟩ := run_append_off (P := P) w base t o.type e i z size bytes ht hi hz hsize hby hzs hsz v n xs hown ad m c news hl hnews h1 h63 hbytes hbase
  unfold Oper.wp execOp
  simp only [ho, resolve, invoke, builtin, Sem.run_bind, Sem.run_pure, Result.andThen_ok, List.map_toArray, List.map_cons, List.map_nil, hs, hx, hr]
  exact h v' w' h2 h3
theorem wpList_append_off {ops : Array Oper} {rest : List Oper} {o : Oper} {a : Act} {Q : Exit → Act → World → Prop} (hgd : o.guard = none) (s x : Operand) (t : TypeId)
    (ho : o.op = .call { callee := .builtin .append, args := #[s, x], argTypes := #[t, t] })
    (base : Nat) (e : TypeId) (i : TypeInfo) (z : Value) (size bytes : Nat) (ht : P.underlying t = some (.slice e)) (hi : P.info? e = some i) (hz : i.zero = some z)
    (hsize : i.size = size) (hby : i.bytes = bytes) (hzs : z.cells.size = size) (hsz : 0 < size)
    (v : Value) (n : Nat) (xs : List Value) (hs : a.eval s = v) (hown : w.offRow base e size v n xs)
    (ad : Option Addr) (m c : Nat) (news : List Value) (hx : a.eval x = .slice ad m c) (hl : news.length = m * size) (hnews : Src w ad news) (h1 : ∀ u ∈ news, u.oneCell' = true)
    (h63 : n + m ≤ maxLen) (hbytes : (n + m) * bytes ≤ 140737488355328) (hbase : base ≤ w.heap.size)
    (h : ∀ v' w', w'.offRow base e size v' (n + m) (xs ++ news) → Fr w w' v v' → wpList P ops Q rest (a.put o.dst v') w') : wpList P ops Q (o :: rest) a w :=
  wpList_plain hgd fun _ hK => wp_append_off w s x t ho base e i z size bytes ht hi hz hsize hby hzs hsz v n xs hs hown ad m c news hx hl hnews h1 h63 hbytes hbase fun v' w' h2 h3 => hK _ _ (h v' w' h2 h3)
end
end Fr
end Go

/- Rows of numbers of a call's own, wherever they begin, among what a law holds. -/
namespace Go.Proofs.Ytfnpghekkhnjkaa
set_option maxRecDepth 100000
set_option linter.unusedVariables false
set_option linter.unusedSimpArgs false
open Go.RowKit Go.Args

theorem infoIntO : (Try.prog.info? 3).map (fun i => (i.zero, i.size, i.bytes)) = some (some (.int .i64 0), 1, 8) := by kernel_rfl
/-- A row of numbers, wherever it begins. -/
def IntO (v : Value) (l : List Int) : Hp := fun w F => w.offRow 0 3 1 v l.length (intsV l) ∧ ∀ k, F k ↔ v.ownBlock = some k
theorem IntO.foot (v : Value) (l : List Int) : Foot (IntO v l) where
  lt := fun ⟨h, q⟩ k hk => (h.lt k ((q k).1 hk)).2
  frame := fun ⟨h, q⟩ c hs => ⟨c.offRow h fun k hk => hs k ((q k).2 hk), q⟩
theorem IntO.nil (w : World) : IntO (.slice none 0 0) [] w (fun _ => False) := ⟨offRow_nil _ _ _ _, fun k => ⟨False.elim, fun e => by cases e⟩⟩
/-- How a row of numbers reads. -/
def IntR (w : World) (a : Option Addr) (l : List Int) : Prop := l = [] ∨ ∃ g off, a = some ⟨g, off, none⟩ ∧ ∀ k x, l[k]? = some x → w.cell? ⟨g, off + k, none⟩ = some (.int .i64 x)
theorem IntR.grow {w w' : World} {a : Option Addr} {l : List Int} (h : IntR w a l) (g : Grow.G w w') : IntR w' a l := h.imp id fun ⟨b, off, e, hc⟩ => ⟨b, off, e, fun k x hk => cell_later g (hc k x hk)⟩
theorem off_intR {w : World} {base c : Nat} {a : Option Addr} {l : List Int} (h : w.offRow base 3 1 (.slice a l.length c) l.length (intsV l)) : IntR w a l := by
  rcases h.at with ⟨_, _, h3⟩ | ⟨g, off, c', hv, hn, hb, hg, hc⟩
  · exact .inl (by simpa using h3)
  · cases hv
    exact .inr ⟨g, off, rfl, fun k x hk => hc k _ (by rw [List.getElem?_map, hk]; rfl)⟩
section
variable {w0 w w' : World} {L : List MBox} {A B : Hp} {v v' : Value} {l : List Int} {x : Int}
/-- How the row reads. -/
theorem hold_reads8 (h : Hold w0 w L (Sep A (Sep (IntO v l) B))) : w.offRow 0 3 1 v l.length (intsV l) := by
  obtain ⟨F, ⟨F1, F2, _, ⟨F3, F4, ho, _⟩, _⟩, _⟩ := h.st
  exact ho.1
end
end Go.Proofs.Ytfnpghekkhnjkaa

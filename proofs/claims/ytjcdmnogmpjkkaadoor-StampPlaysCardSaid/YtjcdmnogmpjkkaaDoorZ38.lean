/- My own texts TabP, Tab1, Tab2, laid in one file. -/
import Derived.Test.YtjcdmnogmpjkkaaDoorZ36
import Derived.Test.YtjcdmnogmpjkkaaDoorZ1
import Derived.Test.YtjcdmnogmpjkkaaDoorZ2
import Derived.Sort.Walk0

/- Tables, plainly: Shares, tags; rows of them in memory. -/
namespace Go.Proofs.YtjcdmnogmpjkkaaDoor
set_option maxRecDepth 100000
set_option linter.unusedVariables false
set_option linter.unusedSimpArgs false
set_option linter.unnecessarySimpa false
open Go.RowKit Go.Args

structure Shr where
  rev : ByteArray
  w : Int
structure Tgo where
  tag : ByteArray
  rev : ByteArray
def Shr.cells (s : Shr) : List Value := [.string s.rev, .int .i64 s.w]
def Tgo.cells (t : Tgo) : List Value := [.string t.tag, .string t.rev]
def Shr.ok (s : Shr) : Prop := wf64 s.w ∧ s.rev.size ≤ 140737488351232
def Tgo.ok (t : Tgo) : Prop := t.tag.size ≤ 140737488351232 ∧ t.rev.size ≤ 140737488351232
/-- Less, by bytes. -/
def ltS (a b : ByteArray) : Bool := Op.bytesLess a.toList b.toList
def sumW : List Shr → Int
  | [] => 0
  | s :: r => s.w + sumW r
theorem ltS_eq (a b : ByteArray) : ltS a b = decide (a.data.toList < b.data.toList) := by
  unfold ltS
  rw [Go.Proofs.bytesLess_eq, ByteArray.toList_eq, ByteArray.toList_eq]
theorem ltS_irr (a : ByteArray) : ltS a a = false := by
  rw [ltS_eq]; exact decide_eq_false (List.lt_irrefl _)
theorem ltS_tr {a b c : ByteArray} (h : ltS a b = true) (k : ltS b c = true) : ltS a c = true := by
  rw [ltS_eq] at *
  exact decide_eq_true (List.lt_trans (of_decide_eq_true h) (of_decide_eq_true k))
/-- No less or the same is greater. -/
theorem le_not (a b : ByteArray) : (Op.bytesLess a.toList b.toList || a.toList == b.toList) = !ltS b a := by
  have h1 : Op.bytesLess a.toList b.toList = ltS a b := rfl
  rw [h1, ltS_eq, ltS_eq, ByteArray.toList_eq, ByteArray.toList_eq]
  have tri : a.data.toList < b.data.toList ∨ a.data.toList = b.data.toList ∨ b.data.toList < a.data.toList := by
    by_cases h1 : a.data.toList < b.data.toList
    · exact .inl h1
    · by_cases h2 : b.data.toList < a.data.toList
      · exact .inr (.inr h2)
      · exact .inr (.inl (List.le_antisymm h2 h1))
  rcases tri with h | h | h
  · have : ¬ b.data.toList < a.data.toList := fun q => List.lt_irrefl _ (List.lt_trans h q)
    simp [h, this]
  · rw [h]; simp [List.lt_irrefl]
  · have : ¬ a.data.toList < b.data.toList := fun q => List.lt_irrefl _ (List.lt_trans h q)
    have h2 : ¬ a.data.toList = b.data.toList := fun q => by rw [q] at h; exact List.lt_irrefl _ h
    simp [h, this, h2]
    exact fun e => h2 (by rw [e])
/-- What is known of a row of Shares, of tags, in memory. -/
abbrev ShSl (w : World) (a : Option Addr) (l : List Shr) : Prop := SlOf w Shr.cells 2 a l
abbrev TgSl (w : World) (a : Option Addr) (l : List Tgo) : Prop := SlOf w Tgo.cells 2 a l
theorem ShSl.at {w : World} {a : Option Addr} {l : List Shr} (h : ShSl w a l) {k : Nat} {s : Shr} (hk : l[k]? = some s) : ∃ b off, a = some ⟨b, off, none⟩ ∧ ∀ w', Grow.G w w' → w'.cell? ⟨b, off + k * 2, none⟩ = some (.string s.rev) ∧ w'.cell? ⟨b, off + k * 2 + 1, none⟩ = some (.int .i64 s.w) := by
  obtain ⟨b, off, ha, hc⟩ := h.spot (List.getElem?_eq_some_iff.1 hk).1
  exact ⟨b, off, ha, fun w' g => ⟨cell_later g (hc k s hk 0 _ rfl), cell_later g (hc k s hk 1 _ rfl)⟩⟩
theorem TgSl.at {w : World} {a : Option Addr} {l : List Tgo} (h : TgSl w a l) {k : Nat} {s : Tgo} (hk : l[k]? = some s) : ∃ b off, a = some ⟨b, off, none⟩ ∧ ∀ w', Grow.G w w' → w'.cell? ⟨b, off + k * 2, none⟩ = some (.string s.tag) ∧ w'.cell? ⟨b, off + k * 2 + 1, none⟩ = some (.string s.rev) := by
  obtain ⟨b, off, ha, hc⟩ := h.spot (List.getElem?_eq_some_iff.1 hk).1
  exact ⟨b, off, ha, fun w' g => ⟨cell_later g (hc k s hk 0 _ rfl), cell_later g (hc k s hk 1 _ rfl)⟩⟩
/-- Rows of a call's own as such. -/
theorem SlOf.own {α : Type} {cells : α → List Value} {n : Nat} {w : World} {base e c : Nat} {a : Option Addr} {l : List α} (hcl : ∀ x, (cells x).length = n) (h : w.ownsRow base e n (.slice a l.length c) l.length (l.flatMap cells)) : SlOf w cells n a l := by
  rcases h.2 with ⟨_, h0⟩ | ⟨b, cap, cur, hv, hb, hh, rest⟩
  · exact .inl (List.eq_nil_of_length_eq_zero h0)
  · cases hv
    refine .inr ⟨b, 0, rfl, fun i x hi j v hj => ?_⟩
    have hc := h.cells (g := b) rfl (i * n + j) v ?_
    · rw [Args.addr_add0, Nat.zero_add] at hc
      rw [Nat.zero_add]; exact hc
    · clear hh rest hb h
      induction l generalizing i with
      | nil => simp at hi
      | cons y l ih =>
        rw [List.flatMap_cons]
        cases i with
        | zero =>
          simp only [List.getElem?_cons_zero, Option.some.injEq] at hi
          subst hi
          rw [Nat.zero_mul, Nat.zero_add, List.getElem?_append_left (List.getElem?_eq_some_iff.1 hj).1]
          exact hj
        | succ i =>
          rw [List.getElem?_cons_succ] at hi
          rw [List.getElem?_append_right (by rw [hcl, Nat.succ_mul]; omega), hcl, show (i + 1) * n + j - n = i * n + j by rw [Nat.succ_mul]; omega]
          exact ih i hi
theorem SlOf.book {α : Type} {cells : α → List Value} {n m : Nat} {w w' : World} {a : Option Addr} {l : List α} (h : SlOf w cells n a l) (k : Iter.Book m w w') : SlOf w' cells n a l :=
  h.imp id fun ⟨b, off, ha, hc⟩ => ⟨b, off, ha, fun i x hi j v hj => k.cell (hc i x hi j v hj)⟩


end Go.Proofs.YtjcdmnogmpjkkaaDoor

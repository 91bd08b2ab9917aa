/- My own texts Tab6, Tab7, laid in one file. -/
import Derived.Test.YtjhfjjkfnmnkgaaZ40
import Derived.Test.YtjhfjjkfnmnkgaaZ37
import Derived.Test.YtjhfjjkfnmnkgaaZ29

/- What table's rows yields. -/
namespace Go.Proofs.Ytjhfjjkfnmnkgaa
set_option maxRecDepth 100000
set_option linter.unusedVariables false
set_option linter.unusedSimpArgs false
set_option linter.unnecessarySimpa false
open Go.RowKit Go.Args
attribute [local go_sem] Oper.semAt_some

structure R3 where
  x : ByteArray
  y : ByteArray
  z : ByteArray
def R3.cells (r : R3) : List Value := [.string r.x, .string r.y, .string r.z]
def R3.v (r : R3) : Value := .agg #[.string r.x, .string r.y, .string r.z]
def rowS (s : Shr) : R3 := ⟨s.rev, ⟨#[58]⟩, digS s.w.toNat⟩
def rowT (t : Tgo) : R3 := ⟨t.tag, ⟨#[61]⟩, t.rev⟩
def rowsL (l : List Shr) (m : List Tgo) : List R3 := l.map rowS ++ m.map rowT
def IsTab (k : Nat) : Prop := Try.prog.globalNamed "internal/strconv.uint64pow10" = some k
theorem Tab.keep {A B : World} (h : Tab A) (k : ∀ g, IsTab g → B.heap[g]? = A.heap[g]?) : Tab B := by
  unfold Tab Lib.TabIs World.var? at *
  unfold IsTab at k
  cases hg : Try.prog.globalNamed "internal/strconv.uint64pow10" with
  | none => rw [hg] at h; simp at h
  | some g =>
    rw [hg] at h
    simp only [Option.bind_some] at h ⊢
    rw [k g hg]; exact h
theorem Tab.lt {w : World} (h : Tab w) {g : Nat} (hg : IsTab g) : g < w.heap.size := by
  unfold Tab Lib.TabIs World.var? at h
  unfold IsTab at hg
  rw [hg] at h
  simp only [Option.bind_some] at h
  rcases Nat.lt_or_ge g w.heap.size with h' | h'
  · exact h'
  · rw [Array.getElem?_eq_none h'] at h; simp at h
/-- The blocks that rows reads. -/
def RP (l : List Shr) (a : Option Addr) (m : List Tgo) (a' : Option Addr) (bb : Nat) (k : Nat) : Prop := Iter.blkOf l a k ∨ Iter.blkOf m a' k ∨ k = bb ∨ IsTab k
structure RowI (l : List Shr) (a : Option Addr) (c : Nat) (m : List Tgo) (a' : Option Addr) (c' : Nat) (bb : Nat) (W : World) : Prop where
  sh : ShSl W a l
  tg : TgSl W a' m
  bx : Blk W bb #[.slice a l.length c, .slice a' m.length c'] 40
  tab : Tab W
section
variable {l : List Shr} {a : Option Addr} {c : Nat} {m : List Tgo} {a' : Option Addr} {c' : Nat} {bb : Nat} {A B : World}
theorem RowI.keep (h : RowI l a c m a' c' bb A) (k : Iter.KeepP (RP l a m a' bb) A B) : RowI l a c m a' c' bb B :=
  ⟨k.slOf h.sh (fun _ h => .inl h), k.slOf h.tg (fun _ h => .inr (.inl h)), k.blk h.bx (.inr (.inr (.inl rfl))), h.tab.keep fun g hg => k.2 g (.inr (.inr (.inr hg))) (h.tab.lt hg)⟩
theorem RowI.grow (h : RowI l a c m a' c' bb A) (g : Grow.G A B) : RowI l a c m a' c' bb B := h.keep (Iter.KeepP.grow g)
theorem RowI.lt (h : RowI l a c m a' c' bb A) {k : Nat} (hk : RP l a m a' bb k) : k < A.heap.size := by
  rcases hk with q | q | rfl | q
  · exact q.lt h.sh (fun x => by simp [Shr.cells])
  · exact q.lt h.tg (fun x => by simp [Tgo.cells])
  · exact h.bx.lt
  · exact h.tab.lt q
end
def RowOk (l : List Shr) (m : List Tgo) (pre : List R3) (x : R3) (W : World) : Prop := (rowsL l m)[pre.length]? = some x

theorem RowOk.book {l : List Shr} {m : List Tgo} {pre : List R3} {x : R3} {A B : World} {n : Nat} (h : RowOk l m pre x A) (b : Iter.Book n A B) : RowOk l m pre x B := h
end Go.Proofs.Ytjhfjjkfnmnkgaa

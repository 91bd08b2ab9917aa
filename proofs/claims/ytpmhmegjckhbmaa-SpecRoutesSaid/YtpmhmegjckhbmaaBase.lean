/- Small facts for every walk; within of each package of laws. -/
import Derived.Test.YtpmhmegjckhbmaaRows
import Derived.Test.YtpmhmegjckhbmaaShelf
import Derived.WalkKit
import Derived.WalkSpells
import Derived.WalkLawsBesides
import Derived.Lib.Hide
import Derived.Lib.OthersKept
import Derived.Deep.LoopGhost
import Derived.Deep.RegionHeld3
import Derived.Deep.QuietTactic
import Derived.BigQuiet
namespace Go.Proofs.Ytpmhmegjckhbmaa
set_option linter.unusedVariables false
set_option linter.unusedSimpArgs false
set_option linter.unnecessarySimpa false
open Go.RowKit

theorem bcell {W w1 : World} (hb : Below W.heap.size W w1) : (∀ b o, b < W.heap.size → w1.cell? ⟨b, o, none⟩ = W.cell? ⟨b, o, none⟩) ∧ (∀ b o, b < W.heap.size → w1.frozen? ⟨b, o, none⟩ = W.frozen? ⟨b, o, none⟩) ∧ W.heap.size ≤ w1.heap.size :=
  ⟨fun b o h => hb.cell (p := ⟨b, o, none⟩) h, fun b o h => hb.frozen (p := ⟨b, o, none⟩) h, hb.size⟩
theorem ret_bool {a b : Bool} (h : a = b) : Ending.returned (.bool a) = .returned (.bool b) := by rw [h]
theorem ret_str {a b : ByteArray} (h : a = b) : Ending.returned (.string a) = .returned (.string b) := by rw [h]
def withinI (a n : Int) : Int := if a.tmod n < 0 then a.tmod n + n else a.tmod n
theorem withinI_range (a n : Int) (h : 1 ≤ n) : 0 ≤ withinI a n ∧ withinI a n < n := by
  have h1 := Int.tmod_lt_of_pos a (show 0 < n by omega)
  have h2 : -n < a.tmod n := by
    have := Int.lt_tmod_of_pos a (show 0 < n by omega); omega
  unfold withinI
  split <;> omega
theorem ret_i64 {a b : Int} (h : a = b) : Ending.returned (.int .i64 a) = .returned (.int .i64 b) := by rw [h]

def wf64 (n : Int) : Prop := -9223372036854775808 ≤ n ∧ n ≤ 9223372036854775807
structure IntCells (w : World) (b off : Nat) (zs : List Int) : Prop where
  cell : ∀ i, i < zs.length → w.cell? ⟨b, off + i, none⟩ = some (.int .i64 (zs.getD i 0))
  wf : ∀ i, wf64 (zs.getD i 0)
  len : zs.length ≤ maxLen
def IntSlice (w : World) (v : Value) (zs : List Int) : Prop :=
  (∃ b off cap, v = .slice (some ⟨b, off, none⟩) zs.length cap ∧ IntCells w b off zs) ∨ (zs = [] ∧ ∃ a cap, v = .slice a 0 cap)
theorem IntSlice.below {w w' : World} {v : Value} {zs : List Int} (h : IntSlice w v zs) (hb : Below w.heap.size w w') : IntSlice w' v zs := by
  rcases h with ⟨b, off, cap, hv, h⟩ | h
  · exact .inl ⟨b, off, cap, hv, ⟨fun i hi => cell_later hb (h.cell i hi), h.wf, h.len⟩⟩
  · exact .inr h

theorem cellsMap {α : Type} (f : α → Value) (L : List α) (d : α) (k : Nat) (h : k < L.length) : ((L.map f).toArray)[k]? = some (f (L.getD k d)) := by
  simp [List.getD, h]
theorem cell_new {w : World} {cs : Array Value} {t : TypeId} {b k : Nat} {v : Value} (h : cs[k]? = some v) (hb : b = w.heap.size) : (w.alloc (.cells cs t)).cell? ⟨b, k, none⟩ = some v := by
  subst hb
  simp [World.cell?_alloc_new, h]
theorem cell_old {w : World} {o : Obj} {a : Addr} {v : Value} (h : w.cell? a = some v) : (w.alloc o).cell? a = some v :=
  (World.cell?_alloc_some w a o (by rw [h]; rfl)).trans h

theorem listMap {α : Type} (f : α → Value) (L : List α) (d : α) (k : Nat) (h : k < (L.map f).length) : (L.map f)[k]'h = f (L.getD k d) := by
  have h' : k < L.length := by simpa using h
  simp [List.getD, h']
set_option maxHeartbeats 400000 in
theorem within_any (a n : Int) (w : World) (hn : 1 ≤ n) (hn2 : n ≤ 1000000000) (ha : -9223372036854775808 ≤ a) (ha2 : a ≤ 9223372036854775807) :
    Calls Try.prog 28 #[.int .i64 a, .int .i64 n] w fun e w' => e = .returned (.int .i64 (withinI a n)) ∧ w = w' := by
  have h1 := Int.tmod_lt_of_pos a (show 0 < n by omega)
  have h2 : -n < a.tmod n := by
    have := Int.lt_tmod_of_pos a (show 0 < n by omega); omega
  by_cases h : a.tmod n < 0
  · have E : Hid (withinI a n = a.tmod n + n) := Lib.hid (by unfold withinI; rw [if_pos h])
    go_enter Try.func28, Try.ntmps28
    go_wp2
    go_ret
    exact ⟨ret_i64 E.out.symm, rfl⟩
  · have E : Hid (withinI a n = a.tmod n) := Lib.hid (by unfold withinI; rw [if_neg h])
    go_enter Try.func28, Try.ntmps28
    go_wp2
    go_ret
    exact ⟨ret_i64 E.out.symm, rfl⟩
set_option maxHeartbeats 400000 in
theorem within2_any (a n : Int) (w : World) (hn : 1 ≤ n) (hn2 : n ≤ 1000000000) (ha : -9223372036854775808 ≤ a) (ha2 : a ≤ 9223372036854775807) :
    Calls Try.prog 15 #[.int .i64 a, .int .i64 n] w fun e w' => e = .returned (.int .i64 (withinI a n)) ∧ w = w' := by
  have h1 := Int.tmod_lt_of_pos a (show 0 < n by omega)
  have h2 : -n < a.tmod n := by
    have := Int.lt_tmod_of_pos a (show 0 < n by omega); omega
  by_cases h : a.tmod n < 0
  · have E : Hid (withinI a n = a.tmod n + n) := Lib.hid (by unfold withinI; rw [if_pos h])
    go_enter Try.func15, Try.ntmps15
    go_wp2
    go_ret
    exact ⟨ret_i64 E.out.symm, rfl⟩
  · have E : Hid (withinI a n = a.tmod n) := Lib.hid (by unfold withinI; rw [if_neg h])
    go_enter Try.func15, Try.ntmps15
    go_wp2
    go_ret
    exact ⟨ret_i64 E.out.symm, rfl⟩
end Go.Proofs.Ytpmhmegjckhbmaa

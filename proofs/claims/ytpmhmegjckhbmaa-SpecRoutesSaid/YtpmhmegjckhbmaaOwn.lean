/- Rows of a call's own: one element laid behind them. -/
import Derived.Test.YtpmhmegjckhbmaaBase
import Derived.Test.YtpmhmegjckhbmaaRegion
import Derived.OwnWalk
import Derived.Laws.AppendOwn
import Derived.Laws.OwnMore
namespace Go.Proofs.Ytpmhmegjckhbmaa
set_option linter.unusedVariables false
set_option linter.unusedSimpArgs false
set_option linter.unnecessarySimpa false
open Go.RowKit

theorem news_new (w : World) (cs : List Value) (e : TypeId) (b : Nat) (hb : b = w.heap.size) : ∀ j u, cs[j]? = some u → (w.alloc (.cells cs.toArray e)).cell? ((⟨b, 0, none⟩ : Addr).add j) = some u := by
  subst hb
  intro j u h
  have h2 : cs.toArray[j]? = some u := by simpa using h
  have e1 : (⟨w.heap.size, 0, none⟩ : Addr).add j = ⟨w.heap.size, j, none⟩ := by unfold Addr.add; split <;> simp_all
  rw [e1]
  exact cell_new (w := w) (t := e) (k := j) (b := w.heap.size) h2 rfl
theorem one1 {x : Value} (h : x.oneCell' = true) : ∀ u ∈ [x], u.oneCell' = true := by intro u hu; rw [List.mem_singleton] at hu; subst hu; exact h
theorem own_grow {w0 w w' : World} {base e sz n : Nat} {v : Value} {xs : List Value} (h : Grow.G w0 w) (ho : w.ownsRow base e sz v n xs) (hb : w0.heap.size ≤ base) (hg : w.grownBy w' v.ownBlock) : Grow.G w0 w' :=
  Below.grown h hg h.size (fun k hk => Nat.le_trans hb (ho.lt k hk).1)
theorem eqS_iff {a b : ByteArray} : (a.toList == b.toList) = true ↔ a = b := by
  rw [beq_iff_eq, ByteArray.toList_eq, ByteArray.toList_eq]
  exact ⟨fun h => ByteArray.ext (Array.toList_inj.1 h), fun h => by rw [h]⟩
theorem neS_iff {a b : ByteArray} : (a.toList == b.toList) = false ↔ a ≠ b := by
  rw [← Bool.not_eq_true, eqS_iff]
theorem own_later {w w' : World} {base e sz n : Nat} {v : Value} {xs : List Value} (h : w.ownsRow base e sz v n xs) (g : Grow.G w w') : w'.ownsRow base e sz v n xs := by
  refine ⟨h.1, h.2.imp id ?_⟩
  rintro ⟨b, cap, cur, hv, hb, hh, rest⟩
  have hlt : b < w.heap.size := by
    rcases Nat.lt_or_ge b w.heap.size with h' | h'
    · exact h'
    · rw [Array.getElem?_eq_none h'] at hh; cases hh
  exact ⟨b, cap, cur, hv, hb, by rw [g.block b hlt]; exact hh, rest⟩
theorem own_base {w : World} {base base' e sz n : Nat} {v : Value} {xs : List Value} (h : w.ownsRow base e sz v n xs) (hb : base' ≤ base) : w.ownsRow base' e sz v n xs :=
  ⟨h.1, h.2.imp id fun ⟨b, cap, cur, hv, hl, rest⟩ => ⟨b, cap, cur, hv, Nat.le_trans hb hl, rest⟩⟩
theorem own_shape {w : World} {base e sz n : Nat} {v : Value} {xs : List Value} (h : w.ownsRow base e sz v n xs) : ∃ sa c, v = .slice sa n c := by
  rcases h.2 with ⟨rfl, rfl⟩ | ⟨b, cap, cur, rfl, _⟩
  · exact ⟨none, 0, rfl⟩
  · exact ⟨_, cap, rfl⟩
theorem own_some {w : World} {base e sz n : Nat} {v : Value} {xs : List Value} (h : w.ownsRow base e sz v n xs) (hn : 1 ≤ n) : ∃ b c, v = .slice (some ⟨b, 0, none⟩) n c ∧ base ≤ b := by
  rcases h.2 with ⟨_, h0⟩ | ⟨b, cap, cur, rfl, hb, _⟩
  · omega
  · exact ⟨b, cap, rfl, hb⟩
theorem take_map_snoc {α : Type} (f : α → Value) (L : List α) (k : Nat) (h : k < L.length) (d : α) : (L.take (k + 1)).map f = (L.take k).map f ++ [f (L.getD k d)] := by
  rw [List.take_succ_eq_append_getElem h, List.map_append, List.map_singleton]
  simp [List.getD, h]
theorem own_snoc {α : Type} {f : α → Value} {L : List α} {k : Nat} {d : α} {w : World} {base e : Nat} {v : Value} (hk : k < L.length) (h : w.ownsRow base e 1 v ((L.take k).length + 1) ((L.take k).map f ++ [f (L.getD k d)])) :
    w.ownsRow base e 1 v (L.take (k + 1)).length ((L.take (k + 1)).map f) := by
  rw [take_map_snoc f L k hk d]
  have e2 : (L.take (k + 1)).length = (L.take k).length + 1 := by simp; omega
  rw [e2]; exact h
end Go.Proofs.Ytpmhmegjckhbmaa

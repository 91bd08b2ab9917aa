
/- The walk of ShelfKinds. -/
import Derived.Test.YtgiihgpnmcchdaaShelfAgain
namespace Go.Proofs.Ytgiihgpnmcchdaa
set_option maxRecDepth 100000
set_option linter.unusedVariables false
set_option linter.unusedSimpArgs false
set_option linter.unnecessarySimpa false
open Go.RowKit Go.MapV Go.Maps

theorem rt_named {nm cf nm' : ByteArray} {ts : List Tgt} {rl : Int} (h : routeE nm cf ts rl = 0) (hn : nameB 16 nm' = true) : routeE nm' cf ts rl = 0 := by
  obtain ⟨h1, h2, h3, h4, h5, h6, h7⟩ := routeE_parts h
  rw [routeE_each hn h2 h3 h4, if_pos h5, h6, h7]; rfl
theorem cfg_named {c : Cfg} {nm : ByteArray} (h : c.err = 0) (hn : nameB 16 nm = true) : Cfg.err { c with nm := nm } = 0 := by
  unfold Cfg.err at h ⊢
  split at h
  · split at h
    · rename_i h2
      have h2 : Cfg.num { c with nm := nm } = true := h2
      rw [if_pos hn, if_pos h2]
    · cases h
  · cases h
theorem cut1 (s : Sh) (nm : ByteArray) : (s.cut 1 nm).cf nm = none ∧ (s.cut 1 nm).rt = s.rt ∧ (s.cut 1 nm).n = s.n + 1 := by
  unfold Sh.cut
  rw [if_pos rfl]
  exact ⟨upd_at _ _ _, rfl, rfl⟩
theorem cfgOf_none {s : Sh} {nm : ByteArray} (h : s.cf nm = none) : s.cfgOf nm = (cfgZ, 0, 0, false) := by unfold Sh.cfgOf; rw [h]
theorem cfgOf_some {s : Sh} {nm : ByteArray} {c : Cfg} {v : Nat} (h : s.cf nm = some (c, v)) : s.cfgOf nm = (c, (v : Int), (s.gn nm : Int), true) := by unfold Sh.cfgOf; rw [h]
def TsF (base : Nat) (v : Value) (ts : List Tgt) : Hp := RowF base 75 3 v ts.length (flatT ts)
theorem TsF.foot (base : Nat) (v : Value) (ts : List Tgt) : Foot (TsF base v ts) := RowF.foot _ _ _ _ _ _
theorem hold_ts {w0 w w' : World} {L : List MBox} {A B : Hp} (h : Hold w0 w L (Sep A B)) (hA : Foot A) (hB : Foot B) {v : Value} {ts : List Tgt} (g : Grow.G w w') (ho : OwnTs w' w.heap.size v ts) : Hold w0 w' L (Sep A (Sep (TsF w.heap.size v ts) B)) :=
  h.beside2 hA hB g (F₁ := fun k => v.ownBlock = some k) ⟨ho, fun k => Iff.rfl⟩ (fun k hk => (ho.lt k hk).1)
theorem see_ts {w0 w : World} {L : List MBox} {A B : Hp} {base n c : Nat} {a : Option Addr} {ts : List Tgt} (h : Hold w0 w L (Sep A (Sep (TsF base (.slice a n c) ts) B))) : TgtSl w a ts := by
  obtain ⟨F, ⟨F1, F2, _, ⟨F3, F4, q, _⟩, _⟩, _⟩ := h.st
  have ho : OwnTs w base (.slice a n c) ts := q.1
  obtain ⟨sa, c', hv⟩ := own_shape ho
  cases hv
  exact ho.tgts.1
end Go.Proofs.Ytgiihgpnmcchdaa

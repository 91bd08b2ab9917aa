
/- TableCopy: a table is not changed by what is asked of it, nor by a change of another one of the same. -/
import Derived.Test.YtbagjeefoifpeaaDoorTableShift
import Derived.Test.YtbagjeefoifpeaaDoorZ42
import Derived.Test.YtbagjeefoifpeaaDoorZ47
import Derived.Test.YtbagjeefoifpeaaDoorSlSet
namespace Go.Proofs.YtbagjeefoifpeaaDoor
set_option maxRecDepth 100000
set_option linter.unusedVariables false
set_option linter.unusedSimpArgs false
set_option linter.unnecessarySimpa false
open Go.RowKit Go.Args

/-- A row of a call's own, in memory: its block. -/
theorem own_block {w : World} {base e sz n : Nat} {v : Value} {xs : List Value} (h : w.ownsRow base e sz v n xs) (hn : 1 ≤ n) : ∃ b c cur, v = .slice (some ⟨b, 0, none⟩) n c ∧ base ≤ b ∧ Blk w b cur e := by
  rcases h.2 with ⟨_, h0⟩ | ⟨b, cap, cur, hv, hb, hh, _⟩
  · omega
  · exact ⟨b, cap, cur, hv, hb, hh⟩
/-- What a made table is, its rows by name. -/
theorem made_l (w : World) (v : Value) (zs : List Int) (hz : IntSlice w v zs) (v2 : Value) (ms : List Int) (hm : IntSlice w v2 ms) (l : List Shr) (m : List Tgo) (hl : mkS zs = l) (hm' : mkT ms = m) :
    Calls Tryd.prog 11 #[v, v2] w fun e w' => ∃ a c a' c', e = .returned (.agg #[.slice a l.length c, .slice a' m.length c']) ∧ w'.ownsRow w.heap.size 32 2 (.slice a l.length c) l.length (l.flatMap Shr.cells) ∧ w'.ownsRow w.heap.size 35 2 (.slice a' m.length c') m.length (m.flatMap Tgo.cells) ∧ Grow.G w w' := by
  subst hl hm'
  exact (make_any w v zs hz v2 ms hm).mono fun e w' ⟨a, c, a', c', he, hd, hg⟩ => ⟨a, c, a', c', he, hd.sh, hd.tg, hg⟩
end Go.Proofs.YtbagjeefoifpeaaDoor

/- My own texts Sm4, RvE, laid in one file. -/
import Derived.Test.YtjcdmnogmpjkkaaDoorZ92D
import Derived.Test.YtjcdmnogmpjkkaaDoorZ2
import Derived.Test.YtjcdmnogmpjkkaaDoorZ29
import Derived.Test.YtjcdmnogmpjkkaaDoorZ91
import Derived.Test.YtjcdmnogmpjkkaaDoorZ4

/- Two rows of strings that are the same (damperref4.Same); the book lies apart from rows of strings; a stamp that tells what it changes. -/
namespace Go.Proofs.YtjcdmnogmpjkkaaDoor
set_option maxRecDepth 100000
set_option linter.unusedVariables false
set_option linter.unusedSimpArgs false
set_option linter.unnecessarySimpa false
open Go.RowKit Go.MapV Go.Maps

def StrAt12 (w : World) (a : Option Addr) (L : List ByteArray) : Prop := ∀ k, k < L.length → ∃ r, a = some ⟨r, 0, none⟩ ∧ w.cell? ⟨r, k, none⟩ = some (.string (L.getD k ⟨#[]⟩))
theorem own_strAt {w : World} {base : Nat} {a : Option Addr} {c : Nat} {N : List ByteArray} (h : w.ownsRow base 9 1 (.slice a N.length c) N.length (N.map Value.string)) : StrAt12 w a N := by
  intro k hk
  rcases h.2 with ⟨h1, h2⟩ | ⟨g, cap, cur, hv, hb, hg, hn, hm, hs, ht⟩
  · omega
  · injection hv with e1 e2 e3
    refine ⟨g, e1, ?_⟩
    subst e1 e3
    exact own_cell h (by rw [List.getElem?_map, List.getElem?_eq_getElem hk, List.getD_eq_getElem?_getD, List.getElem?_eq_getElem hk]; rfl)
set_option maxHeartbeats 2000000 in
theorem same12s_any (w : World) (a : Option Addr) (c : Nat) (b : Option Addr) (d : Nat) (L : List ByteArray) (ha : StrAt12 w a L) (hb : StrAt12 w b L) (hl : L.length ≤ 1099511627776) :
    Calls Tryd.prog 26 #[.slice a L.length c, .slice b L.length d] w fun e w' => e = .returned (.bool true) ∧ Grow.G w w' := by
  have HA := Lib.hid ha
  have HB := Lib.hid hb
  clear ha hb
  go_enter Tryd.func26, Tryd.ntmps26
  go_wp2
  go_loopw [5] (fun i wr => ∃ k : Nat, k ≤ L.length ∧ i = .int .i64 k ∧ Grow.G w wr) (fun i _ => L.length - (_root_.Go.RowKit.intOf i).toNat)
  case atStart => exact ⟨0, by omega, rfl, Grow.G.refl _⟩
  case round =>
    obtain ⟨k, hk, rfl, hG⟩ := hrel
    have hk1 : IntKind.i64.wrap ((k : Int) + 1) = (k : Int) + 1 := IntWalk.i64_in _ ⟨by omega, by omega⟩
    by_cases hlt : k < L.length
    · obtain ⟨ra, rfl, ca⟩ := HA.out k hlt
      obtain ⟨rb, rfl, cb⟩ := HB.out k hlt
      generalize L.getD k ⟨#[]⟩ = x at *
      have t0 : decide ((k : Int) < (L.length : Int)) = true := decide_eq_true (by omega)
      have da : ∀ w', Grow.G wr w' → w'.cell? ⟨ra, k, none⟩ = some (.string x) := fun w' g => cell_later (hG.trans g) ca
      have db : ∀ w', Grow.G wr w' → w'.cell? ⟨rb, k, none⟩ = some (.string x) := fun w' g => cell_later (hG.trans g) cb
      clear ca cb
      go_wp2_with fail
      refine Grow.region_seqT (by kernel_rfl) (by kernel_rfl) (by intro c a d v w h; cases d <;> exact h) (by kernel_rfl) ?_
      repeat (first
        | (refine Grow.seqT.value ?_ (by rfl) ?_ ?_; rotate_left; (intro w' hg; go_simp <;> with_reducible rfl); simp only [Act.put, L0, L1, L2])
        | (refine Grow.seqT.value ?_ (by rfl) ?_ ?_; rotate_left; (intro w' hg; have ⟨hgc, hgf, hgz⟩ := bcell hg; go_simp <;> with_reducible rfl); simp only [Act.put, L0, L1, L2])
        | (refine Grow.seqT.value ?_ (by rfl) ?_ ?_; rotate_left; (intro w' hg; go_simp; rw [if_neg (by omega)]); simp only [Act.put, L0, L1, L2])
        | (refine Grow.seqT.idle (by rfl) ?_; simp only [Act.put, L0, L1, L2])
        )
      refine Grow.seqT.done (fun w4 g4 => ?_)
      go_wp2_with fail
      exact ⟨⟨k + 1, by omega, rfl, hG.trans g4⟩, by simp [_root_.Go.RowKit.intOf]; omega⟩
    · have t0 : decide ((k : Int) < (L.length : Int)) = false := decide_eq_false (by omega)
      go_wp2
      go_ret
      exact ⟨rfl, hG⟩
end Go.Proofs.YtjcdmnogmpjkkaaDoor

/- Two revisions that are the same; what damperlaw2.Config makes of a configuration, told by its parts. -/
namespace Go.Proofs.YtjcdmnogmpjkkaaDoor
set_option maxRecDepth 100000
set_option linter.unusedVariables false
set_option linter.unusedSimpArgs false
set_option linter.unnecessarySimpa false
open Go.RowKit
theorem neq_self_rv (s t : ByteArray) (n a b c d e : Int) (w : World) : (binOp .neq 46 (.agg #[.string s, .int .i64 n, .string t, .int .i64 a, .int .i64 b, .int .i64 c, .int .i64 d, .int .i64 e]) (.agg #[.string s, .int .i64 n, .string t, .int .i64 a, .int .i64 b, .int .i64 c, .int .i64 d, .int .i64 e])).run Tryd.prog w = .ok (.bool false) w := by
  go_simp
theorem gcfg_some (c : Cfg) (n : Int) (hc : c.wf) (hn : wf64 n) : ∃ s i1 i2 i3 i4 i5, gCfg c n = ⟨s, i1, i2, i3, i4, i5⟩ ∧ (⟨s, i1, i2, i3, i4, i5⟩ : Cfg).err = 0 ∧
    ∀ w, Calls Tryd.prog 14 #[.agg #[.string c.nm, .int .i64 c.im, .int .i64 c.co, .int .i64 c.mn, .int .i64 c.mx, .int .i64 c.gr], .int .i64 n] w fun x w' => x = .returned (.agg #[.string s, .int .i64 i1, .int .i64 i2, .int .i64 i3, .int .i64 i4, .int .i64 i5]) ∧ Grow.G w w' := by
  refine ⟨_, _, _, _, _, _, rfl, gCfg_ok c n, fun w => gcfg_any c n w hc hn⟩
end Go.Proofs.YtjcdmnogmpjkkaaDoor

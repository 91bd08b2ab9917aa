/- My own texts Same3, RSmall, laid in one file. -/
import Derived.Test.YtnkekdmikopdgaaGreatZ5
import Derived.Test.YtnkekdmikopdgaaGreatZ4

/- What damperref3's Same tells of two events. -/
namespace Go.Proofs.YtnkekdmikopdgaaGreat
set_option maxRecDepth 100000
set_option linter.unusedVariables false
set_option linter.unusedSimpArgs false
set_option linter.unnecessarySimpa false
open Go.RowKit

def cfgB (c d : Cfg) : Bool := (c.nm.toList == d.nm.toList) && (c.im == d.im) && (c.co == d.co) && (c.mn == d.mn) && (c.mx == d.mx) && (c.gr == d.gr)
theorem tl_iff {a b : ByteArray} : a.toList = b.toList ↔ a = b := ⟨fun h => eqS_iff.1 (beq_iff_eq.2 h), congrArg _⟩
theorem cfgB_iff {c d : Cfg} : cfgB c d = true ↔ c = d := by
  obtain ⟨a1, a2, a3, a4, a5, a6⟩ := c
  obtain ⟨b1, b2, b3, b4, b5, b6⟩ := d
  unfold cfgB
  simp only [Bool.and_eq_true, beq_iff_eq, tl_iff, Cfg.mk.injEq, and_assoc]
theorem run_eql_cfg (c d : Cfg) (w : World) : (binOp .eql 23 c.v d.v).run Tryz.prog w = .ok (.bool (cfgB c d)) w := by
  obtain ⟨a1, a2, a3, a4, a5, a6⟩ := c
  obtain ⟨b1, b2, b3, b4, b5, b6⟩ := d
  unfold Cfg.v
  go_simp
  unfold cfgB
  by_cases h1 : a1.toList = b1.toList <;> by_cases h2 : a2 = b2 <;> by_cases h3 : a3 = b3 <;> by_cases h4 : a4 = b4 <;> by_cases h5 : a5 = b5 <;> by_cases h6 : a6 = b6 <;> simp [h1, h2, h3, h4, h5, h6]
def evB (e f : EvD) : Bool := (e.k == f.k) && (e.nm.toList == f.nm.toList) && (e.tg.toList == f.tg.toList) && (e.n == f.n) && (e.dr == f.dr) && cfgB e.c f.c && sameR e.rn e.rc e.ts e.rr f.rn f.rc f.ts f.rr
theorem evB_iff {e f : EvD} : evB e f = true ↔ e = f := by
  obtain ⟨k, nm, tg, n, dr, c, rn, rc, ts, rr⟩ := e
  obtain ⟨k', nm', tg', n', dr', c', rn', rc', ts', rr'⟩ := f
  unfold evB
  simp only [Bool.and_eq_true, beq_iff_eq, tl_iff, cfgB_iff, sameR_iff, EvD.mk.injEq, and_assoc]
  constructor
  · rintro ⟨h1, h2, h3, h4, h5, h6, h7, h8, h9, h10⟩; exact ⟨h1, h2, h3, h4, h5, h6, h7, h8, h10, h9⟩
  · rintro ⟨h1, h2, h3, h4, h5, h6, h7, h8, h9, h10⟩; exact ⟨h1, h2, h3, h4, h5, h6, h7, h8, h10, h9⟩

set_option maxHeartbeats 2000000 in
theorem rsame3_any (e f : EvD) (a : Option Addr) (c : Nat) (a' : Option Addr) (c' : Nat) (w : World) (ht : TgtSl w a e.ts) (ht' : TgtSl w a' f.ts) (hl : e.ts.length ≤ 1000) :
    Calls Tryz.prog 21 #[.agg (e.cells a c), .agg (f.cells a' c')] w fun x w' => x = .returned (.bool (evB e f)) ∧ Below w.heap.size w w' := by
  have RC := run_eql_cfg e.c f.c
  have S := Lib.hid (fun w h h' => rsame_at e.rn e.rc a e.ts e.ts.length c e.rr f.rn f.rc a' f.ts f.ts.length c' f.rr w _ rfl rfl hl h h' rfl)
  have HT := Lib.hid ht
  have HT' := Lib.hid ht'
  have EB : Hid (evB e f = ((e.k == f.k) && (e.nm.toList == f.nm.toList) && (e.tg.toList == f.tg.toList) && (e.n == f.n) && (e.dr == f.dr) && cfgB e.c f.c && sameR e.rn e.rc e.ts e.rr f.rn f.rc f.ts f.rr)) := Lib.hid rfl
  generalize evB e f = z at *
  obtain ⟨k, nm, tg, n, dr, ⟨cn, im, co, mn, mx, gr⟩, rn, rc, ts, rr⟩ := e
  obtain ⟨k', nm', tg', n', dr', ⟨cn', im', co', mn', mx', gr'⟩, rn', rc', ts', rr'⟩ := f
  unfold EvD.cells
  unfold Cfg.v at RC
  dsimp only at *
  generalize cfgB _ _ = cb at *
  generalize sameR rn rc ts rr rn' rc' ts' rr' = sb at *
  generalize ts.length = l at *
  generalize ts'.length = l' at *
  clear ht ht' hl
  go_enter Tryz.func21, Tryz.ntmps21
  go_wp2_with fail
  all_goals first
    | (refine (S.out _ (HT.out.later (by (repeat (first | with_reducible exact Grow.G.refl _ | with_reducible exact Below.refl _ _ | with_reducible refine Grow.G.alloc ?_ _ | with_reducible refine Grow.G.trans ?_ hb1 | ((with_reducible refine Below.setCell ?_ ?_ _); rotate_left; (focus (first | omega | (simp; done) | (simp; omega)))) | with_reducible assumption | with_reducible refine Grow.G.trans ?_ (by with_reducible assumption))))) (HT'.out.later (by (repeat (first | with_reducible exact Grow.G.refl _ | with_reducible exact Below.refl _ _ | with_reducible refine Grow.G.alloc ?_ _ | with_reducible refine Grow.G.trans ?_ hb1 | ((with_reducible refine Below.setCell ?_ ?_ _); rotate_left; (focus (first | omega | (simp; done) | (simp; omega)))) | with_reducible assumption | with_reducible refine Grow.G.trans ?_ (by with_reducible assumption)))))).mono ?_
       rintro e w1 ⟨rfl, hb1⟩
       go_wp2_with fail
       go_ret
       refine ⟨ret_bool ?_, by (repeat (first | with_reducible exact Grow.G.refl _ | with_reducible exact Below.refl _ _ | with_reducible refine Grow.G.alloc ?_ _ | with_reducible refine Grow.G.trans ?_ hb1 | ((with_reducible refine Below.setCell ?_ ?_ _); rotate_left; (focus (first | omega | (simp; done) | (simp; omega)))) | with_reducible assumption | with_reducible refine Grow.G.trans ?_ (by with_reducible assumption)))⟩
       rw [EB.out]
       simp_all
       done)
    | (go_ret
       refine ⟨ret_bool ?_, by (repeat (first | with_reducible exact Grow.G.refl _ | with_reducible exact Below.refl _ _ | with_reducible refine Grow.G.alloc ?_ _ | with_reducible refine Grow.G.trans ?_ hb1 | ((with_reducible refine Below.setCell ?_ ?_ _); rotate_left; (focus (first | omega | (simp; done) | (simp; omega)))) | with_reducible assumption | with_reducible refine Grow.G.trans ?_ (by with_reducible assumption)))⟩
       rw [EB.out]
       simp_all
       done)

theorem rnumber_any (n least : Int) (w : World) :
  Calls Tryz.prog 36 #[.int .i64 n, .int .i64 least] w fun e w' => e = .returned (.int .i64 (numE n least)) ∧ w = w' := by
 have E : Hid (numE n least = if n < least ∨ 2147483647 < n then 2 else 0) := Lib.hid rfl
 go_enter Tryz.func36, Tryz.ntmps36
 go_wp2
 all_goals
  go_ret
  refine ⟨ret_i64 ?_, rfl⟩
  rw [E.out]
  first
   | (rw [if_pos (by omega)]; done)
   | (rw [if_neg (by omega)]; done)
theorem rnamedE_any (b : Bool) (w : World) :
  Calls Tryz.prog 39 #[.bool b] w fun e w' => e = .returned (.int .i64 (nmdE b)) ∧ w = w' := by
 cases b
 all_goals
  go_enter Tryz.func39, Tryz.ntmps39
  go_wp2
  go_ret
  exact ⟨rfl, rfl⟩
set_option maxHeartbeats 1000000 in
theorem rfirst_any (b off cap : Nat) (zs : List Int) (w : World) (hl : zs.length ≤ 1000) (hc : ∀ i, i < zs.length → w.cell? ⟨b, off + i, none⟩ = some (.int .i64 (zs.getD i 0))) :
  Calls Tryz.prog 35 #[.slice (some ⟨b, off, none⟩) zs.length cap] w fun e w' => e = .returned (.int .i64 (fst0 zs)) ∧ w = w' := by
 have HC := Lib.hid hc
 clear hc
 go_enter Tryz.func35, Tryz.ntmps35
 go_wp2
 go_loop [3] (fun i => ∃ k : Nat, k ≤ zs.length ∧ i = .int .i64 k ∧ Hid (∀ j, j < k → zs.getD j 0 = 0)) (fun i => zs.length - (intOf i).toNat)
 case atStart => exact ⟨0, by omega, rfl, fun j h => by omega⟩
 case round =>
  obtain ⟨k, hk, rfl, H0⟩ := hrel
  by_cases hlt : k < zs.length
  ·
   have c0 := HC.out k hlt
   have FA := Lib.hid (fst0_at zs k hlt H0.out)
   generalize hv : zs.getD k 0 = v at *
   have HV := Lib.hid hv
   clear hv
   by_cases h0 : v = 0
   ·
    subst h0
    go_wp2
    go_round
    case rel => exact ⟨k + 1, by omega, by go_num, fun j hj => by
     by_cases e : j = k
     ·
      rw [e]; exact HV.out
     ·
      exact H0.out j (by omega)⟩
    case measure => simp [intOf]; omega
   ·
    have h0' : (v != 0) = true := by simpa using h0
    have FE := Lib.hid (FA.out h0)
    clear h0
    go_wp2
    go_ret
    exact ⟨ret_i64 FE.out.symm, rfl⟩
  ·
   have FE := Lib.hid (fst0_none zs fun j hj => H0.out j (by omega))
   go_wp2
   go_ret
   exact ⟨ret_i64 FE.out.symm, rfl⟩
end Go.Proofs.YtnkekdmikopdgaaGreat


/- TableShift: a draw a hundred further leads to the same. -/
import Derived.Test.YtbagjeefoifpeaaDoorZ46
namespace Go.Proofs.YtbagjeefoifpeaaDoor
set_option maxRecDepth 100000
set_option linter.unusedVariables false
set_option linter.unusedSimpArgs false
set_option linter.unnecessarySimpa false
open Go.RowKit Go.Args

theorem pickL_mem : ∀ (l : List Shr) (d : Int), 0 ≤ d → d < sumW l → ∃ s, s ∈ l ∧ s.rev = pickL l d
  | [], d, h0, h1 => by simp [sumW] at h1; omega
  | s :: r, d, h0, h1 => by
    rw [sumW] at h1
    rw [pickL]
    by_cases h : d < s.w
    · rw [if_pos h]; exact ⟨s, by simp, rfl⟩
    · rw [if_neg h]
      obtain ⟨x, hx, e⟩ := pickL_mem r (d - s.w) (by omega) (by omega)
      exact ⟨x, by simp [hx], e⟩
def anyR (l : List Shr) (r : ByteArray) : Bool := l.any fun s => s.rev.toList == r.toList
theorem anyR_step {l : List Shr} {r : ByteArray} {k : Nat} {s : Shr} (h : l[k]? = some s) : anyR (l.take (k + 1)) r = (anyR (l.take k) r || (s.rev.toList == r.toList)) := by
  unfold anyR
  rw [List.take_add_one, h, List.any_append]; simp
theorem anyR_mem {l : List Shr} {r : ByteArray} {s : Shr} (h : s ∈ l) (e : s.rev = r) : anyR l r = true := by
  unfold anyR
  rw [List.any_eq_true]
  exact ⟨s, h, by rw [e]; simp⟩
set_option maxHeartbeats 8000000 in
theorem walkTableShift (w : World) (v : Value) (zs : List Int) (hz : IntSlice w v zs) (a : Int) (ha : wf64 a) (b : Int) (hb : wf64 b) (ht : Tab w) :
    Calls Tryd.prog 7 #[v, .int .i64 a, .int .i64 b] w fun e w' => e = .returned (.bool true) ∧ Below w.heap.size w w' := by
  have KN := Lib.hid (known5_any w ht)
  have MK := Lib.hid (fun w' (g : Grow.G w w') => make_any w' v zs (hz.below g) (.slice none 0 0) [] (.inr ⟨rfl, none, 0, rfl⟩))
  have W40 := Lib.hid (fun w => within5w_any a 1099511627776 w (by omega) (by omega) ha.1 ha.2)
  have R40 := withinI_range a 1099511627776 (by omega)
  have WB := Lib.hid (fun w => (within5w_any b 1000 w (by omega) (by omega) hb.1 hb.2).mono (fun e w' (h : _ ∧ _) => (⟨h.1, h.2 ▸ Grow.G.refl _⟩ : _ ∧ Grow.G w w')))
  have RB := withinI_range b 1000 (by omega)
  clear ht hz ha hb
  go_enter Tryd.func7, Tryd.ntmps7
  go_wp2_with fail
  refine KN.out.mono ?_
  rintro e w1 ⟨rfl, hg1⟩
  go_wp2_with fail
  refine (MK.out _ hg1).mono ?_
  rintro e w2 ⟨ta, tc, ta', tc', rfl, MD, hg2⟩
  have SH := MD.shs
  have SM := mkS_small zs
  have SU := mkS_sum zs
  have SL := mkS_len zs
  generalize mkS zs = l at *
  generalize (mkT []).length = n' at *
  clear KN MK MD
  unfold tabV
  go_wp2_with fail
  have B0 := Blk.new w2 #[.slice ta l.length tc, .slice ta' n' tc'] 25
  have g2 := Grow.G.alloc (Grow.G.refl w2) (.cells #[.slice ta l.length tc, .slice ta' n' tc'] 25)
  obtain ⟨W3, hW3⟩ : ∃ W3, W3 = w2.alloc (.cells #[.slice ta l.length tc, .slice ta' n' tc'] 25) := ⟨_, rfl⟩
  rw [← hW3] at B0 g2 ⊢
  have G3 := Lib.hid ((hg1.trans hg2).trans g2)
  have SH := Lib.hid (SH.later g2)
  clear hW3 hg1 hg2 g2
  generalize w2.heap.size = gb at *
  refine (W40.out _).mono ?_
  rintro e wx ⟨rfl, rfl⟩
  generalize withinI a 1099511627776 = d at *
  have e0 := Blk.at (cs := [.slice ta l.length tc, .slice ta' n' tc']) (k := 0) B0 rfl
  have e1 := Blk.at (cs := [.slice ta l.length tc, .slice ta' n' tc']) (k := 1) B0 rfl
  go_wp2_with fail
  refine (pick_any ta l tc ta' n' tc' d W3 ⟨by omega, by omega⟩ SH.out SM).mono ?_
  rintro e W4 ⟨rfl, hg4⟩
  have B4 := Lib.hid (B0.grow hg4)
  have SH4 := Lib.hid (SH.out.later hg4)
  have G4 := Lib.hid (G3.out.trans hg4)
  clear SH hg4 G3 B0 e0 e1
  obtain ⟨s0, hs0, es0⟩ := pickL_mem l (d % 100) (by omega) (by omega)
  have AL := Lib.hid (anyR_mem hs0 es0)
  have PK := Lib.hid (fun w' (h : ShSl w' ta l) (x : Int) (hx : wf64 x) (e : x % 100 = d % 100) => (show Calls Tryd.prog 16 #[.agg #[.slice ta l.length tc, .slice ta' n' tc'], .int .i64 x] w' fun e w'' => e = .returned (.string (pickL l (d % 100))) ∧ Grow.G w' w'' from e ▸ pick_any ta l tc ta' n' tc' x w' hx h SM))
  clear es0 hs0
  generalize pickL l (d % 100) = r at *
  go_wp2_with fail
  go_loopw [10, 11] (fun bv i wr => ∃ (k : Nat) (b : Bool), k ≤ l.length ∧ bv = .bool b ∧ i = .int .i64 k ∧ Hid (anyR (l.take k) r = b) ∧ wr = W4) (fun _ i _ => l.length - (intOf i).toNat)
  case atStart => exact ⟨0, false, by omega, rfl, rfl, Lib.hid rfl, rfl⟩
  case round =>
    obtain ⟨k, q, hk, rfl, rfl, HQ, rfl⟩ := hrel
    have e0 := Blk.at (cs := [.slice ta l.length tc, .slice ta' n' tc']) (k := 0) B4.out rfl
    have e1 := Blk.at (cs := [.slice ta l.length tc, .slice ta' n' tc']) (k := 1) B4.out rfl
    by_cases hlt : k < l.length
    · obtain ⟨s, hs⟩ : ∃ s, l[k]? = some s := ⟨_, List.getElem?_eq_getElem hlt⟩
      obtain ⟨sb, off, rfl, hc⟩ := ShSl.at SH4.out hs
      obtain ⟨c0, c1⟩ := hc _ (Grow.G.refl _)
      have A1 := Lib.hid (anyR_step (r := r) hs)
      obtain ⟨rv, n⟩ := s
      dsimp only at *
      clear hs hc
      have d0 : decide ((k : Int) < (l.length : Int)) = true := decide_eq_true (by omega)
      have hk1 : IntKind.i64.wrap ((k : Int) + 1) = (k : Int) + 1 := IntWalk.i64_in _ ⟨by omega, by omega⟩
      have k1 : (0 : Int) ≤ (k : Int) := by omega
      have k2 : (k : Int) < (l.length : Int) := by omega
      obtain ⟨y, hy⟩ : ∃ y, (rv.toList == r.toList) = y := ⟨_, rfl⟩
      cases q with
      | true =>
        go_wp2_with fail
        go_roundw
        case rel => exact ⟨k + 1, true, by omega, rfl, by go_num, Lib.hid (by rw [A1.out, HQ.out]; rfl), trivial⟩
        case measure => simp [intOf]; omega
      | false =>
        rw [hy] at A1
        go_wp2_with fail
        go_roundw
        case rel => exact ⟨k + 1, y, by omega, rfl, by go_num, Lib.hid (by rw [A1.out, HQ.out]; rfl), trivial⟩
        case measure => simp [intOf]; omega
    · have d0 : decide ((k : Int) < (l.length : Int)) = false := decide_eq_false (by omega)
      rw [List.take_of_length_le (by omega), AL.out] at HQ
      obtain rfl : q = true := HQ.out.symm
      have KC := Lib.hid (fun (w' : World) (h : Chg (fun _ => False) wr w') => (⟨h.cell e0 id, h.cell e1 id, trivial⟩ : w'.cell? ⟨gb, 0, none⟩ = some (.slice ta l.length tc) ∧ w'.cell? ⟨gb, 1, none⟩ = some (.slice ta' n' tc') ∧ True))
      have SHW := Lib.hid (fun (w' : World) (h : Chg (fun _ => False) wr w') => SH4.out.later (g0 h))
      generalize withinI b 1000 = x at *
      have hx1 : IntKind.i64.wrap (100 * x) = 100 * x := IntWalk.i64_in _ ⟨by omega, by omega⟩
      have hx2 : IntKind.i64.wrap (d + 100 * x) = d + 100 * x := IntWalk.i64_in _ ⟨by omega, by omega⟩
      have hx3 : IntKind.i64.wrap (d - 100 * x) = d - 100 * x := IntWalk.i64_in _ ⟨by omega, by omega⟩
      have P1 := Lib.hid (fun w' (h : Chg (fun _ => False) wr w') => PK.out w' (SHW.out w' h) (d + 100 * x) ⟨by omega, by omega⟩ (by omega))
      have P2 := Lib.hid (fun w' (h : Chg (fun _ => False) wr w') => PK.out w' (SHW.out w' h) (d - 100 * x) ⟨by omega, by omega⟩ (by omega))
      go_wp2_with fail
      refine Evo2.start' (ℓ := none) (S := Chg (fun _ => False)) (E := Grow.G) (by kernel_rfl) ⟨Chg.pre _, by decide +kernel, (by intro c a d v w h; cases d <;> exact h), by decide +kernel⟩ (fun ok => ?_)
      refine Evo2.va ok 0 _ _ ?_
      refine Evo2.va ok 1 _ _ ?_
      first | (refine Evo2.vl ok 2 KC.out (Chg.refl (fun _ => False) _) _ _ ?_) | (refine Evo2.va ok 2 _ _ ?_) | (refine Evo2.vi ok 2 _ ?_)
      first | (refine Evo2.va ok 3 _ _ ?_) | (refine Evo2.vi ok 3 _ ?_)
      first | (refine Evo2.va ok 4 _ _ ?_) | (refine Evo2.vi ok 4 _ ?_)
      first | (refine Evo2.cal ok 5 ?_ 14 ?_ ?_ ?_ ?_; rotate_left 2; (focus (intro w'; go_simp <;> with_reducible rfl)); (focus (intro w' g'; with_reducible exact WB.out w')); simp only [Act.put, L0, L1, L2]) | (refine Evo2.vi ok 5 _ ?_)
      first | (refine Evo2.va ok 6 _ _ ?_) | (refine Evo2.vi ok 6 _ ?_)
      first | (refine Evo2.va ok 7 _ _ ?_) | (refine Evo2.vi ok 7 _ ?_)
      first | (refine Evo2.cal ok 8 ?_ 16 ?_ ?_ ?_ ?_; rotate_left 2; (focus (intro w'; go_simp <;> with_reducible rfl)); (focus (intro w' g'; with_reducible exact P1.out w' (Chg.trans (Chg.refl (fun _ => False) _) g'))); simp only [Act.put, L0, L1, L2]) | (refine Evo2.vi ok 8 _ ?_)
      first | (refine Evo2.va ok 9 _ _ ?_) | (refine Evo2.vi ok 9 _ ?_)
      first | (refine Evo2.va ok 10 _ _ ?_) | (refine Evo2.vi ok 10 _ ?_)
      refine Evo2.va ok 11 _ _ ?_
      refine Evo2.va ok 12 _ _ ?_
      first | (refine Evo2.vl ok 13 KC.out (Chg.refl (fun _ => False) _) _ _ ?_) | (refine Evo2.va ok 13 _ _ ?_) | (refine Evo2.vi ok 13 _ ?_)
      first | (refine Evo2.va ok 14 _ _ ?_) | (refine Evo2.vi ok 14 _ ?_)
      first | (refine Evo2.va ok 15 _ _ ?_) | (refine Evo2.vi ok 15 _ ?_)
      first | (refine Evo2.cal ok 16 ?_ 14 ?_ ?_ ?_ ?_; rotate_left 2; (focus (intro w'; go_simp <;> with_reducible rfl)); (focus (intro w' g'; with_reducible exact WB.out w')); simp only [Act.put, L0, L1, L2]) | (refine Evo2.vi ok 16 _ ?_)
      first | (refine Evo2.va ok 17 _ _ ?_) | (refine Evo2.vi ok 17 _ ?_)
      first | (refine Evo2.va ok 18 _ _ ?_) | (refine Evo2.vi ok 18 _ ?_)
      first | (refine Evo2.cal ok 19 ?_ 16 ?_ ?_ ?_ ?_; rotate_left 2; (focus (intro w'; go_simp <;> with_reducible rfl)); (focus (intro w' g'; with_reducible exact P2.out w' (Chg.trans (Chg.refl (fun _ => False) _) g'))); simp only [Act.put, L0, L1, L2]) | (refine Evo2.vi ok 19 _ ?_)
      first | (refine Evo2.va ok 20 _ _ ?_) | (refine Evo2.vi ok 20 _ ?_)
      first | (refine Evo2.va ok 21 _ _ ?_) | (refine Evo2.vi ok 21 _ ?_)
      refine Evo2.va ok 22 _ _ ?_
      refine Evo2.va ok 23 _ _ ?_
      refine Evo2.done (by decide +kernel) (fun wz gz => ?_)
      have AZ := Chg.trans (Chg.refl (fun _ => False) _) (Chg.grow gz)
      go_wp2_with fail
      go_ret
      exact ⟨by simp, G4.out.trans (g0 AZ)⟩
end Go.Proofs.YtbagjeefoifpeaaDoor

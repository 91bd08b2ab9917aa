/- What damperref2.SameRoute answers. -/
import Derived.Test.YtpmhmegjckhbmaaSpec7
namespace Go.Proofs.Ytpmhmegjckhbmaa
set_option linter.unusedVariables false
set_option linter.unusedSimpArgs false
set_option linter.unnecessarySimpa false
open Go.RowKit

set_option maxRecDepth 100000 in
set_option maxHeartbeats 1000000 in
theorem rsame_any (nm cf : ByteArray) (a : Option Addr) (ts : List Tgt) (c : Nat) (rl : Int) (nm' cf' : ByteArray) (a' : Option Addr) (ts' : List Tgt) (c' : Nat) (rl' : Int) (w : World) (hl : ts.length ≤ maxLen) (ht : TgtSl w a ts) (ht' : TgtSl w a' ts') :
    Calls Try.prog 22 #[rtV nm cf (.slice a ts.length c) rl, rtV nm' cf' (.slice a' ts'.length c') rl'] w fun x w' => x = .returned (.bool (sameR nm cf ts rl nm' cf' ts' rl')) ∧ Below w.heap.size w w' := by
  have HT := Lib.hid ht
  have HT' := Lib.hid ht'
  clear ht ht'
  unfold maxLen at hl
  unfold rtV
  by_cases hh : ((nm.toList == nm'.toList) && (cf.toList == cf'.toList) && (rl == rl') && decide (ts.length = ts'.length)) = true
  · have SR : Hid (sameR nm cf ts rl nm' cf' ts' rl' = sameTs ts ts') := Lib.hid (by
      simp only [Bool.and_eq_true] at hh
      unfold sameR; rw [hh.1.1.1, hh.1.1.2, hh.1.2]; rfl)
    simp only [Bool.and_eq_true, decide_eq_true_iff] at hh
    obtain ⟨⟨⟨e1, e2⟩, e3⟩, hn⟩ := hh
    have e1' := eqS_iff.1 e1
    have e2' := eqS_iff.1 e2
    have e3' : rl = rl' := by simpa using e3
    subst e1' e2' e3'
    have HN := Lib.hid hn
    have hn1 : (ts.length != ts'.length) = false := by simpa using hn
    clear e1 e2 e3 hn
    go_enter Try.func22, Try.ntmps22
    go_wp2
    go_loopw [5] (fun i wr => ∃ k : Nat, k ≤ ts.length ∧ i = .int .i64 k ∧ Hid (wr.cell? ⟨w.heap.size, 2, none⟩ = some (.slice a ts.length c)) ∧ Hid (wr.cell? ⟨w.heap.size + 1, 2, none⟩ = some (.slice a' ts'.length c')) ∧ Hid (Grow.G w wr) ∧ Hid (∀ j, j < k → tgtB (ts.getD j tg0) (ts'.getD j tg0) = true)) (fun i _ => ts.length - (intOf i).toNat)
    case atStart => exact ⟨0, by omega, rfl, Lib.hid (by go_simp), Lib.hid (by go_simp), (Grow.G.alloc (Grow.G.alloc (Grow.G.refl _) _) _), fun j h => by omega⟩
    case round =>
      obtain ⟨k, hk, rfl, X1, X2, G, H0⟩ := hrel
      have x1 : ∀ w', Grow.G wr w' → w'.cell? ⟨w.heap.size, 2, none⟩ = some (.slice a ts.length c) := fun w' g => cell_later g X1.out
      have x2 : ∀ w', Grow.G wr w' → w'.cell? ⟨w.heap.size + 1, 2, none⟩ = some (.slice a' ts'.length c') := fun w' g => cell_later g X2.out
      have x1' := x1 wr (Grow.G.refl _)
      by_cases hlt : k < ts.length
      · obtain ⟨b, off, rfl, hat⟩ := (HT.out.later G.out).at hlt
        obtain ⟨b', off', rfl, hat'⟩ := (HT'.out.later G.out).at (show k < ts'.length by have := HN.out; omega)
        have NO := Lib.hid (fun h => sameTs_no (ys := ts') hlt h)
        have H1 : Hid (∀ j, j < k + 1 → j ≠ k → tgtB (ts.getD j tg0) (ts'.getD j tg0) = true) := Lib.hid (fun j h1 h2 => H0.out j (by omega))
        generalize hT : ts.getD k tg0 = t at *
        generalize hT' : ts'.getD k tg0 = t' at *
        have E1 := Lib.hid hT
        have E2 := Lib.hid hT'
        clear hT hT'
        have c0 : ∀ w', Grow.G wr w' → w'.cell? ⟨b, off + k * 3, none⟩ = some (.string t.rv) := fun w' g => cell_later g hat.c0
        have c1 : ∀ w', Grow.G wr w' → w'.cell? ⟨b, off + k * 3 + 1, none⟩ = some (.string t.tg) := fun w' g => cell_later g hat.c1
        have c2 : ∀ w', Grow.G wr w' → w'.cell? ⟨b, off + k * 3 + 1 + 1, none⟩ = some (.int .i64 t.pc) := fun w' g => cell_later g hat.c2
        have d0 : ∀ w', Grow.G wr w' → w'.cell? ⟨b', off' + k * 3, none⟩ = some (.string t'.rv) := fun w' g => cell_later g hat'.c0
        have d1 : ∀ w', Grow.G wr w' → w'.cell? ⟨b', off' + k * 3 + 1, none⟩ = some (.string t'.tg) := fun w' g => cell_later g hat'.c1
        have d2 : ∀ w', Grow.G wr w' → w'.cell? ⟨b', off' + k * 3 + 1 + 1, none⟩ = some (.int .i64 t'.pc) := fun w' g => cell_later g hat'.c2
        have k1 : (0 : Int) ≤ (k : Int) := by omega
        have k2 : (k : Int) < (ts.length : Int) := by omega
        have k3 : (k : Int) < (ts'.length : Int) := by have := HN.out; omega
        obtain ⟨rv, tg, pc⟩ := t
        obtain ⟨rv', tg', pc'⟩ := t'
        simp only at c0 c1 c2 d0 d1 d2
        have RN := run_neq_tgt rv tg rv' tg' pc pc' 41
        clear hat hat'
        go_wp2_with fail
        refine Grow.region_seqT (by kernel_rfl) (by kernel_rfl) (by intro c a d v w h; cases d <;> exact h) (by kernel_rfl) ?_
        repeat (first
          | (refine Grow.seqT.value ?_ (by rfl) ?_ ?_; rotate_left; (intro w' hg; go_simp <;> with_reducible rfl); simp only [Act.put, List.setIfInBounds_toArray, List.set_cons_zero, List.set_cons_succ])
          | (refine Grow.seqT.value ?_ (by rfl) ?_ ?_; rotate_left; (intro w' hg; have ⟨hgc, hgf, hgz⟩ := bcell hg; go_simp <;> with_reducible rfl); simp only [Act.put, List.setIfInBounds_toArray, List.set_cons_zero, List.set_cons_succ])
          | (refine Grow.seqT.value ?_ (by rfl) ?_ ?_; rotate_left; (intro w' hg; go_simp; rw [if_neg (by omega)]); simp only [Act.put, List.setIfInBounds_toArray, List.set_cons_zero, List.set_cons_succ])
          | (refine Grow.seqT.idle (by rfl) ?_; simp only [Act.put, List.setIfInBounds_toArray, List.set_cons_zero, List.set_cons_succ])
          )
        refine Grow.seqT.done (fun w4 g4 => ?_)
        clear c0 c1 c2 d0 d1 d2 RN x1 x2 x1'
        generalize hq : tgtB ⟨rv, tg, pc⟩ ⟨rv', tg', pc'⟩ = q at *
        have HQ := Lib.hid hq
        clear hq
        cases q with
        | true =>
          go_wp2_with fail
          go_roundw
          case rel => exact ⟨k + 1, by omega, by go_num, cell_later g4 X1.out, cell_later g4 X2.out, Grow.G.trans G.out g4, fun j hj => by
            by_cases e : j = k
            · rw [e, E1.out, E2.out]; exact HQ.out
            · exact H1.out j hj e⟩
          case measure => simp [intOf]; omega
        | false =>
          go_wp2_with fail
          go_ret
          exact ⟨ret_bool (by rw [SR.out]; exact (NO.out trivial).symm), Grow.G.trans G.out g4⟩
      · have Y := Lib.hid (sameTs_yes HN.out (fun i hi => H0.out i (by omega)))
        clear x1 x2
        go_wp2
        go_ret
        exact ⟨ret_bool (by rw [SR.out]; exact Y.out.symm), G.out⟩
  · have SR : Hid (sameR nm cf ts rl nm' cf' ts' rl' = false) := Lib.hid (by
      rw [Bool.eq_false_iff]; intro h
      obtain ⟨rfl, rfl, rfl, rfl⟩ := sameR_iff.1 h
      exact hh (by simp))
    have HH := Lib.hid hh
    clear hh
    go_enter Try.func22, Try.ntmps22
    go_wp2
    all_goals first
      | (go_ret; exact ⟨ret_bool SR.out.symm, Grow.G.alloc (Grow.G.alloc (Grow.G.refl _) _) _⟩)
      | (exfalso; have hq : ((ts.length : Int) != (ts'.length : Int)) = false := by assumption
         have hq : ts.length = ts'.length := by simp at hq; omega
         have := HH.out; simp_all; done)
end Go.Proofs.Ytpmhmegjckhbmaa

/- What spec.SameRoute and damperref2's answer. -/
import Derived.Test.YtpmhmegjckhbmaaSpec6
namespace Go.Proofs.Ytpmhmegjckhbmaa
set_option linter.unusedVariables false
set_option linter.unusedSimpArgs false
set_option linter.unnecessarySimpa false
open Go.RowKit

def tgtB (s t : Tgt) : Bool := (s.rv.toList == t.rv.toList) && (s.tg.toList == t.tg.toList) && (s.pc == t.pc)
theorem tgtB_iff {s t : Tgt} : tgtB s t = true ↔ s = t := by
  obtain ⟨a, b, c⟩ := s
  obtain ⟨a', b', c'⟩ := t
  unfold tgtB
  rw [Bool.and_eq_true, Bool.and_eq_true, eqS_iff, eqS_iff, beq_iff_eq, Tgt.mk.injEq, and_assoc]
theorem run_neq_tgt (rv tg rv' tg' : ByteArray) (pc pc' : Int) (t : TypeId) (w : World) :
    (binOp .neq 41 (.agg #[.string rv, .string tg, .int .i64 pc]) (.agg #[.string rv', .string tg', .int .i64 pc'])).run Try.prog w = .ok (.bool (!tgtB ⟨rv, tg, pc⟩ ⟨rv', tg', pc'⟩)) w := by
  go_simp
  unfold tgtB
  by_cases h1 : rv.toList = rv'.toList <;> by_cases h2 : tg.toList = tg'.toList <;> by_cases h3 : pc = pc' <;> simp [h1, h2, h3]
theorem headOf_any (nm cf : ByteArray) (a : Option Addr) (l c : Nat) (rl : Int) (w : World) :
    Calls Try.prog 37 #[rtV nm cf (.slice a l c) rl] w fun x w' => x = .returned (.agg #[.string nm, .string cf, .int .i64 rl]) ∧ Below w.heap.size w w' := by
  unfold rtV
  go_enter Try.func37, Try.ntmps37
  go_wp2
  exact bodyPost_ret (v := .agg #[.string nm, .string cf, .int .i64 rl]) (by simp [results, Try.results37, go_sem]) rfl ⟨rfl, by (repeat (first | with_reducible exact Grow.G.refl _ | with_reducible exact Below.refl _ _ | with_reducible refine Grow.G.alloc ?_ _ | with_reducible refine Grow.G.trans ?_ hb1 | ((with_reducible refine Below.setCell ?_ ?_ _); rotate_left; (focus (first | omega | (simp; done) | (simp; omega)))) | with_reducible assumption | with_reducible refine Grow.G.trans ?_ (by with_reducible assumption)))⟩

def sameTs (xs ys : List Tgt) : Bool := decide (xs.length = ys.length) && (List.range xs.length).all fun i => tgtB (xs.getD i tg0) (ys.getD i tg0)
theorem sameTs_iff {xs ys : List Tgt} : sameTs xs ys = true ↔ xs = ys := by
  unfold sameTs
  rw [Bool.and_eq_true, decide_eq_true_iff, List.all_eq_true]
  constructor
  · rintro ⟨hl, ha⟩
    refine List.ext_getElem hl fun i h1 h2 => ?_
    have := tgtB_iff.1 (ha i (List.mem_range.2 h1))
    simpa [List.getD, h1, h2] using this
  · rintro rfl
    exact ⟨rfl, fun i _ => tgtB_iff.2 rfl⟩
theorem sameTs_no {xs ys : List Tgt} {k : Nat} (hk : k < xs.length) (h : tgtB (xs.getD k tg0) (ys.getD k tg0) = false) : sameTs xs ys = false := by
  rw [Bool.eq_false_iff]; intro e
  have := sameTs_iff.1 e
  subst this
  rw [tgtB_iff.2 rfl] at h; cases h
theorem sameTs_len {xs ys : List Tgt} (h : xs.length ≠ ys.length) : sameTs xs ys = false := by
  unfold sameTs; rw [decide_eq_false h]; rfl
theorem sameTs_yes {xs ys : List Tgt} (hl : xs.length = ys.length) (h : ∀ i, i < xs.length → tgtB (xs.getD i tg0) (ys.getD i tg0) = true) : sameTs xs ys = true := by
  unfold sameTs; rw [decide_eq_true hl, Bool.true_and, List.all_eq_true]
  exact fun i hi => h i (List.mem_range.1 hi)

set_option maxRecDepth 100000 in
set_option maxHeartbeats 1000000 in
theorem equal_any (a a' : Option Addr) (ts ts' : List Tgt) (c c' : Nat) (w : World) (hl : ts.length ≤ maxLen) (ht : TgtSl w a ts) (ht' : TgtSl w a' ts') :
    Calls Try.prog 38 #[.slice a ts.length c, .slice a' ts'.length c'] w fun x w' => x = .returned (.bool (sameTs ts ts')) ∧ Below w.heap.size w w' := by
  have HT := Lib.hid ht
  have HT' := Lib.hid ht'
  clear ht ht'
  unfold maxLen at hl
  by_cases hn : ts.length = ts'.length
  · have hn1 : (ts.length != ts'.length) = false := by simpa using hn
    have HN := Lib.hid hn
    clear hn
    go_enter Try.func38, Try.ntmps38
    go_wp2
    go_loopw [13] (fun i wr => ∃ k : Nat, k ≤ ts.length ∧ i = .int .i64 k ∧ Hid (Grow.G w wr) ∧ Hid (∀ j, j < k → tgtB (ts.getD j tg0) (ts'.getD j tg0) = true)) (fun i _ => ts.length - (intOf i).toNat)
    case atStart => exact ⟨0, by omega, rfl, Grow.G.refl _, fun j h => by omega⟩
    case round =>
      obtain ⟨k, hk, rfl, G, H0⟩ := hrel
      by_cases hlt : k < ts.length
      · obtain ⟨b, off, rfl, hat⟩ := (HT.out.later G.out).at hlt
        obtain ⟨b', off', rfl, hat'⟩ := (HT'.out.later G.out).at (show k < ts'.length by have := HN.out; omega)
        have NO := Lib.hid (fun h => sameTs_no (ys := ts') hlt h)
        have H1 : Hid (∀ j, j < k + 1 → j ≠ k → tgtB (ts.getD j tg0) (ts'.getD j tg0) = true) := Lib.hid (fun j h1 h2 => H0.out j (by omega))
        generalize hT : ts.getD k tg0 = t at *
        generalize hT' : ts'.getD k tg0 = t' at *
        have E1 := Lib.hid hT
        have E2 := Lib.hid hT'
        clear hT hT'
        have c0 : ∀ w', Grow.G wr w' → w'.cell? ⟨b, off + k * 3, none⟩ = some (.string t.rv) := fun w' g => cell_later g hat.c0
        have c1 : ∀ w', Grow.G wr w' → w'.cell? ⟨b, off + k * 3 + 1, none⟩ = some (.string t.tg) := fun w' g => cell_later g hat.c1
        have c2 : ∀ w', Grow.G wr w' → w'.cell? ⟨b, off + k * 3 + 1 + 1, none⟩ = some (.int .i64 t.pc) := fun w' g => cell_later g hat.c2
        have d0 : ∀ w', Grow.G wr w' → w'.cell? ⟨b', off' + k * 3, none⟩ = some (.string t'.rv) := fun w' g => cell_later g hat'.c0
        have d1 : ∀ w', Grow.G wr w' → w'.cell? ⟨b', off' + k * 3 + 1, none⟩ = some (.string t'.tg) := fun w' g => cell_later g hat'.c1
        have d2 : ∀ w', Grow.G wr w' → w'.cell? ⟨b', off' + k * 3 + 1 + 1, none⟩ = some (.int .i64 t'.pc) := fun w' g => cell_later g hat'.c2
        have k1 : (0 : Int) ≤ (k : Int) := by omega
        have k2 : (k : Int) < (ts.length : Int) := by omega
        have k3 : (k : Int) < (ts'.length : Int) := by have := HN.out; omega
        obtain ⟨rv, tg, pc⟩ := t
        obtain ⟨rv', tg', pc'⟩ := t'
        simp only at c0 c1 c2 d0 d1 d2
        have RN := run_neq_tgt rv tg rv' tg' pc pc' 41
        clear hat hat'
        go_wp2_with fail
        refine Grow.region_seqT (by kernel_rfl) (by kernel_rfl) (by intro c a d v w h; cases d <;> exact h) (by kernel_rfl) ?_
        repeat (first
          | (refine Grow.seqT.value ?_ (by rfl) ?_ ?_; rotate_left; (intro w' hg; go_simp <;> with_reducible rfl); simp only [Act.put, List.setIfInBounds_toArray, List.set_cons_zero, List.set_cons_succ])
          | (refine Grow.seqT.value ?_ (by rfl) ?_ ?_; rotate_left; (intro w' hg; have ⟨hgc, hgf, hgz⟩ := bcell hg; go_simp <;> with_reducible rfl); simp only [Act.put, List.setIfInBounds_toArray, List.set_cons_zero, List.set_cons_succ])
          | (refine Grow.seqT.value ?_ (by rfl) ?_ ?_; rotate_left; (intro w' hg; go_simp; rw [if_neg (by omega)]); simp only [Act.put, List.setIfInBounds_toArray, List.set_cons_zero, List.set_cons_succ])
          | (refine Grow.seqT.idle (by rfl) ?_; simp only [Act.put, List.setIfInBounds_toArray, List.set_cons_zero, List.set_cons_succ])
          )
        refine Grow.seqT.done (fun w4 g4 => ?_)
        clear c0 c1 c2 d0 d1 d2 RN
        generalize hq : tgtB ⟨rv, tg, pc⟩ ⟨rv', tg', pc'⟩ = q at *
        have HQ := Lib.hid hq
        clear hq
        cases q with
        | true =>
          go_wp2_with fail
          go_roundw
          case rel => exact ⟨k + 1, by omega, by go_num, Grow.G.trans G.out g4, fun j hj => by
            by_cases e : j = k
            · rw [e, E1.out, E2.out]; exact HQ.out
            · exact H1.out j hj e⟩
          case measure => simp [intOf]; omega
        | false =>
          go_wp2_with fail
          go_ret
          exact ⟨ret_bool (NO.out trivial).symm, Grow.G.trans G.out g4⟩
      · have Y := Lib.hid (sameTs_yes HN.out (fun i hi => H0.out i (by omega)))
        go_wp2
        go_ret
        exact ⟨ret_bool Y.out.symm, G.out⟩
  · have hn1 : (ts.length != ts'.length) = true := by simpa using hn
    have Y := Lib.hid (sameTs_len hn)
    clear hn
    go_enter Try.func38, Try.ntmps38
    go_wp2
    go_ret
    exact ⟨ret_bool Y.out.symm, Grow.G.refl _⟩

def sameR (nm cf : ByteArray) (ts : List Tgt) (rl : Int) (nm' cf' : ByteArray) (ts' : List Tgt) (rl' : Int) : Bool :=
  (nm.toList == nm'.toList) && (cf.toList == cf'.toList) && (rl == rl') && sameTs ts ts'
theorem sameR_iff {nm cf nm' cf' : ByteArray} {ts ts' : List Tgt} {rl rl' : Int} : sameR nm cf ts rl nm' cf' ts' rl' = true ↔ nm = nm' ∧ cf = cf' ∧ rl = rl' ∧ ts = ts' := by
  unfold sameR
  rw [Bool.and_eq_true, Bool.and_eq_true, Bool.and_eq_true, eqS_iff, eqS_iff, beq_iff_eq, sameTs_iff, and_assoc, and_assoc]
theorem run_eql_head (nm cf nm' cf' : ByteArray) (rl rl' : Int) (w : World) :
    (binOp .eql 61 (.agg #[.string nm, .string cf, .int .i64 rl]) (.agg #[.string nm', .string cf', .int .i64 rl'])).run Try.prog w = .ok (.bool ((nm.toList == nm'.toList) && (cf.toList == cf'.toList) && (rl == rl'))) w := by
  go_simp
  by_cases h1 : nm.toList = nm'.toList <;> by_cases h2 : cf.toList = cf'.toList <;> by_cases h3 : rl = rl' <;> simp [h1, h2, h3]

set_option maxRecDepth 100000 in
set_option maxHeartbeats 1000000 in
theorem same_any (nm cf : ByteArray) (a : Option Addr) (ts : List Tgt) (c : Nat) (rl : Int) (nm' cf' : ByteArray) (a' : Option Addr) (ts' : List Tgt) (c' : Nat) (rl' : Int) (w : World) (hl : ts.length ≤ maxLen) (ht : TgtSl w a ts) (ht' : TgtSl w a' ts') :
    Calls Try.prog 21 #[rtV nm cf (.slice a ts.length c) rl, rtV nm' cf' (.slice a' ts'.length c') rl'] w fun x w' => x = .returned (.bool (sameR nm cf ts rl nm' cf' ts' rl')) ∧ Below w.heap.size w w' := by
  have HT := Lib.hid ht
  have HT' := Lib.hid ht'
  clear ht ht'
  have H1 := Lib.hid (fun w => headOf_any nm cf a ts.length c rl w)
  have H2 := Lib.hid (fun w => headOf_any nm' cf' a' ts'.length c' rl' w)
  have EQ := Lib.hid (fun w h h' => equal_any a a' ts ts' c c' w hl h h')
  have RN := run_eql_head nm cf nm' cf' rl rl'
  unfold rtV sameR at *
  generalize hp : ((nm.toList == nm'.toList) && (cf.toList == cf'.toList) && (rl == rl')) = p at *
  clear hp
  generalize hz : sameTs ts ts' = z at *
  clear hz
  go_enter Try.func21, Try.ntmps21
  go_wp2_with fail
  cases p
  all_goals
    refine Grow.region_seqT (by kernel_rfl) (by kernel_rfl) (by intro c a d v w h; cases d <;> exact h) (by kernel_rfl) ?_
    repeat (first
      | (refine Grow.seqT.value ?_ (by rfl) ?_ ?_; rotate_left; (intro w' hg; go_simp <;> with_reducible rfl); simp only [Act.put, List.setIfInBounds_toArray, List.set_cons_zero, List.set_cons_succ])
      | (refine Grow.seqT.value ?_ (by rfl) ?_ ?_; rotate_left; (intro w' hg; have ⟨hgc, hgf, hgz⟩ := bcell hg; go_simp <;> with_reducible rfl); simp only [Act.put, List.setIfInBounds_toArray, List.set_cons_zero, List.set_cons_succ])
      | (refine Grow.seqT.value ?_ (by rfl) ?_ ?_; rotate_left; (intro w' hg; go_simp; rw [if_neg (by omega)]); simp only [Act.put, List.setIfInBounds_toArray, List.set_cons_zero, List.set_cons_succ])
      | (refine Grow.seqT.call (.agg #[.string nm, .string cf, .int .i64 rl]) 37 _ (by rfl) ?_ (fun w' g' => (H1.out w')) ?_; (focus (intro w'; go_simp)); simp only [Act.put, List.setIfInBounds_toArray, List.set_cons_zero, List.set_cons_succ])
      | (refine Grow.seqT.call (.agg #[.string nm', .string cf', .int .i64 rl']) 37 _ (by rfl) ?_ (fun w' g' => (H2.out w')) ?_; (focus (intro w'; go_simp)); simp only [Act.put, List.setIfInBounds_toArray, List.set_cons_zero, List.set_cons_succ])
      | (refine Grow.seqT.call (.bool z) 38 _ (by rfl) ?_ (fun w' g' => (EQ.out w' (HT.out.later (Grow.G.trans (Grow.G.alloc (Grow.G.alloc (Grow.G.refl _) _) _) g')) (HT'.out.later (Grow.G.trans (Grow.G.alloc (Grow.G.alloc (Grow.G.refl _) _) _) g')))) ?_; (focus (intro w'; go_simp)); simp only [Act.put, List.setIfInBounds_toArray, List.set_cons_zero, List.set_cons_succ])
      | (refine Grow.seqT.idle (by rfl) ?_; simp only [Act.put, List.setIfInBounds_toArray, List.set_cons_zero, List.set_cons_succ])
      )
    refine Grow.seqT.done (fun w4 g4 => ?_)
    go_wp2_with fail
    go_ret
    exact ⟨ret_bool (by simp), by (repeat (first | with_reducible exact Grow.G.refl _ | with_reducible exact Below.refl _ _ | with_reducible refine Grow.G.alloc ?_ _ | with_reducible refine Grow.G.trans ?_ hb1 | ((with_reducible refine Below.setCell ?_ ?_ _); rotate_left; (focus (first | omega | (simp; done) | (simp; omega)))) | with_reducible assumption | with_reducible refine Grow.G.trans ?_ (by with_reducible assumption)))⟩
end Go.Proofs.Ytpmhmegjckhbmaa

/- My own texts Tab8, Tab9, Tab10, laid in one file. -/
import Derived.Test.YtjhfjjkfnmnkgaaZ38
import Derived.Test.YtjhfjjkfnmnkgaaZ37
import Derived.Test.YtjhfjjkfnmnkgaaZ41
import Derived.Test.YtjhfjjkfnmnkgaaZ29
import Derived.ChangeKeysEq

/- Rows of a table that are the same: Shares. -/
namespace Go.Proofs.Ytjhfjjkfnmnkgaa
set_option maxRecDepth 100000
set_option linter.unusedVariables false
set_option linter.unusedSimpArgs false
set_option linter.unnecessarySimpa false
open Go.RowKit Go.Args

def shrB (s t : Shr) : Bool := (s.rev.toList == t.rev.toList) && (s.w == t.w)
theorem shrB_iff (s t : Shr) : shrB s t = true ↔ s = t := by
  obtain ⟨m0, m1⟩ := s
  obtain ⟨m0', m1'⟩ := t
  unfold shrB
  rw [Bool.and_eq_true, eqS_iff, beq_iff_eq, Shr.mk.injEq]
theorem run_neq_shr (m0 m0' : ByteArray) (m1 m1' : Int) (w : World) :
    (binOp .neq 53 (.agg #[.string m0, .int .i64 m1]) (.agg #[.string m0', .int .i64 m1'])).run Try.prog w = .ok (.bool (!shrB ⟨m0, m1⟩ ⟨m0', m1'⟩)) w := by
  go_simp
  unfold shrB
  by_cases h0 : m0.toList = m0'.toList <;> by_cases h1 : m1 = m1' <;> simp [h0, h1]
abbrev sameShr (xs ys : List Shr) : Bool := sameL shr0 shrB xs ys
set_option maxRecDepth 100000 in
set_option maxHeartbeats 1000000 in
theorem rshares_same (a a' : Option Addr) (xs ys : List Shr) (c c' : Nat) (w : World) (hl : xs.length ≤ 1000000) (ht : SlOf w Shr.cells 2 a xs) (ht' : SlOf w Shr.cells 2 a' ys) :
    Calls Try.prog 25 #[.slice a xs.length c, .slice a' ys.length c'] w fun x w' => x = .returned (.bool (sameShr xs ys)) ∧ Grow.G w w' := by
  have HT := Lib.hid ht
  have HT' := Lib.hid ht'
  clear ht ht'
  by_cases hn : xs.length = ys.length
  · have hn1 : (xs.length != ys.length) = false := by simpa using hn
    have HN := Lib.hid hn
    clear hn
    go_enter Try.func25, Try.ntmps25
    go_wp2
    go_loopw [5] (fun i wr => ∃ k : Nat, k ≤ xs.length ∧ i = .int .i64 k ∧ Hid (Grow.G w wr) ∧ Hid (∀ j, j < k → shrB (xs.getD j shr0) (ys.getD j shr0) = true)) (fun i _ => xs.length - (intOf i).toNat)
    case atStart => exact ⟨0, by omega, rfl, Grow.G.refl _, fun j h => by omega⟩
    case round =>
      obtain ⟨k, hk, rfl, G, H0⟩ := hrel
      by_cases hlt : k < xs.length
      · have hlt' : k < ys.length := by have := HN.out; omega
        obtain ⟨b, off, rfl, hat⟩ := (HT.out.later G.out).spot hlt
        obtain ⟨b', off', rfl, hat'⟩ := (HT'.out.later G.out).spot hlt'
        have NO := Lib.hid (fun h => sameL_no (d := shr0) (q := shrB) (ys := ys) hlt h)
        have H1 : Hid (∀ j, j < k + 1 → j ≠ k → shrB (xs.getD j shr0) (ys.getD j shr0) = true) := Lib.hid (fun j h1 h2 => H0.out j (by omega))
        obtain ⟨t, hs⟩ : ∃ t, xs[k]? = some t := ⟨_, List.getElem?_eq_getElem hlt⟩
        obtain ⟨t', hs'⟩ : ∃ t', ys[k]? = some t' := ⟨_, List.getElem?_eq_getElem hlt'⟩
        have E1 : Hid (xs.getD k shr0 = t) := Lib.hid (by simp [List.getD, hs])
        have E2 : Hid (ys.getD k shr0 = t') := Lib.hid (by simp [List.getD, hs'])
        have c0 : ∀ w', Grow.G wr w' → w'.cell? ⟨b, off + k * 2, none⟩ = some (.string t.rev) := fun w' g => cell_later g (hat k _ hs 0 _ rfl)
        have c1 : ∀ w', Grow.G wr w' → w'.cell? ⟨b, off + k * 2 + 1, none⟩ = some (.int .i64 t.w) := fun w' g => cell_later g (hat k _ hs 1 _ rfl)
        have d0 : ∀ w', Grow.G wr w' → w'.cell? ⟨b', off' + k * 2, none⟩ = some (.string t'.rev) := fun w' g => cell_later g (hat' k _ hs' 0 _ rfl)
        have d1 : ∀ w', Grow.G wr w' → w'.cell? ⟨b', off' + k * 2 + 1, none⟩ = some (.int .i64 t'.w) := fun w' g => cell_later g (hat' k _ hs' 1 _ rfl)
        have k1 : (0 : Int) ≤ (k : Int) := by omega
        have k2 : (k : Int) < (xs.length : Int) := by omega
        have k3 : (k : Int) < (ys.length : Int) := by omega
        have t0 : decide ((k : Int) < (xs.length : Int)) = true := decide_eq_true (by omega)
        have hk1 : IntKind.i64.wrap ((k : Int) + 1) = (k : Int) + 1 := IntWalk.i64_in _ ⟨by omega, by omega⟩
        obtain ⟨m0, m1⟩ := t
        obtain ⟨m0', m1'⟩ := t'
        simp only at c0 d0 c1 d1
        have RN := run_neq_shr m0 m0' m1 m1'
        clear hat hat' hs hs' hlt hlt'
        go_wp2_with fail
        refine Grow.region_seqT (by kernel_rfl) (by kernel_rfl) (by intro c a d v w h; cases d <;> exact h) (by kernel_rfl) ?_
        repeat (first
          | (refine Grow.seqT.value ?_ (by rfl) ?_ ?_; rotate_left; (intro w' hg; go_simp <;> with_reducible rfl); simp only [Act.put, L0, L1, L2])
          | (refine Grow.seqT.value ?_ (by rfl) ?_ ?_; rotate_left; (intro w' hg; have ⟨hgc, hgf, hgz⟩ := bcell hg; go_simp <;> with_reducible rfl); simp only [Act.put, L0, L1, L2])
          | (refine Grow.seqT.value ?_ (by rfl) ?_ ?_; rotate_left; (intro w' hg; go_simp; rw [if_neg (by omega)]); simp only [Act.put, L0, L1, L2])
          | (refine Grow.seqT.idle (by rfl) ?_; simp only [Act.put, L0, L1, L2])
          )
        refine Grow.seqT.done (fun w4 g4 => ?_)
        clear c0 d0 c1 d1 RN
        generalize hq : shrB ⟨m0, m1⟩ ⟨m0', m1'⟩ = q at *
        have HQ := Lib.hid hq
        clear hq
        cases q with
        | true =>
          go_wp2_with fail
          go_roundw
          case rel => exact ⟨k + 1, by omega, by go_num, Grow.G.trans G.out g4, fun j hj => by
            by_cases e : j = k
            · rw [e, E1.out, E2.out]; exact HQ.out
            · exact H1.out j hj e⟩
          case measure => simp [intOf]; omega
        | false =>
          go_wp2_with fail
          go_ret
          exact ⟨ret_bool (NO.out (by rw [E1.out, E2.out]; exact HQ.out)).symm, Grow.G.trans G.out g4⟩
      · have t0 : decide ((k : Int) < (xs.length : Int)) = false := decide_eq_false (by omega)
        have Y := Lib.hid (sameL_yes HN.out (fun i hi => H0.out i (by omega)))
        go_wp2_with fail
        go_ret
        exact ⟨ret_bool Y.out.symm, G.out⟩
  · have hn1 : (xs.length != ys.length) = true := by simpa using hn
    have Y := Lib.hid (sameL_len (d := shr0) (q := shrB) hn)
    clear hn
    go_enter Try.func25, Try.ntmps25
    go_wp2
    go_ret
    exact ⟨ret_bool Y.out.symm, Grow.G.refl _⟩


end Go.Proofs.Ytjhfjjkfnmnkgaa


/- Two rows of strings that are the same; a row of twenty zeros. -/
import Derived.Test.YtbfpappechpdiaaZ35
namespace Go.Proofs.Ytbfpappechpdiaa
set_option maxRecDepth 100000
set_option linter.unusedVariables false
set_option linter.unusedSimpArgs false
set_option linter.unnecessarySimpa false
open Go.RowKit Go.MapV Go.Maps

def StrAt (w : World) (a : Option Addr) (L : List ByteArray) : Prop := ∀ k, k < L.length → ∃ r, a = some ⟨r, 0, none⟩ ∧ w.cell? ⟨r, k, none⟩ = some (.string (L.getD k ⟨#[]⟩))
set_option maxHeartbeats 2000000 in
theorem same4_any (w : World) (a : Option Addr) (c : Nat) (b : Option Addr) (d : Nat) (L : List ByteArray) (ha : StrAt w a L) (hb : StrAt w b L) (hl : L.length ≤ 1099511627776) :
    Calls Try.prog 16 #[.slice a L.length c, .slice b L.length d] w fun e w' => e = .returned (.bool true) ∧ Grow.G w w' := by
  have HA := Lib.hid ha
  have HB := Lib.hid hb
  clear ha hb
  go_enter Try.func16, Try.ntmps16
  go_wp2
  go_loopw [5] (fun i wr => ∃ k : Nat, k ≤ L.length ∧ i = .int .i64 k ∧ Grow.G w wr) (fun i _ => L.length - (intOf i).toNat)
  case atStart => exact ⟨0, by omega, rfl, Grow.G.refl _⟩
  case round =>
    obtain ⟨k, hk, rfl, hG⟩ := hrel
    have hk1 : IntKind.i64.wrap ((k : Int) + 1) = (k : Int) + 1 := IntWalk.i64_in _ ⟨by omega, by omega⟩
    by_cases hlt : k < L.length
    · obtain ⟨ra, rfl, ca⟩ := HA.out k hlt
      obtain ⟨rb, rfl, cb⟩ := HB.out k hlt
      generalize L.getD k ⟨#[]⟩ = x at *
      have t0 : decide ((k : Int) < (L.length : Int)) = true := decide_eq_true (by omega)
      have da : ∀ w', Grow.G wr w' → w'.cell? ⟨ra, k, none⟩ = some (.string x) := fun w' g => cell_later (hG.trans g) ca
      have db : ∀ w', Grow.G wr w' → w'.cell? ⟨rb, k, none⟩ = some (.string x) := fun w' g => cell_later (hG.trans g) cb
      clear ca cb
      go_wp2_with fail
      refine Grow.region_seqT (by kernel_rfl) (by kernel_rfl) (by intro c a d v w h; cases d <;> exact h) (by kernel_rfl) ?_
      repeat (first
        | (refine Grow.seqT.value ?_ (by rfl) ?_ ?_; rotate_left; (intro w' hg; go_simp <;> with_reducible rfl); simp only [Act.put, L0, L1, L2])
        | (refine Grow.seqT.value ?_ (by rfl) ?_ ?_; rotate_left; (intro w' hg; have ⟨hgc, hgf, hgz⟩ := bcell hg; go_simp <;> with_reducible rfl); simp only [Act.put, L0, L1, L2])
        | (refine Grow.seqT.value ?_ (by rfl) ?_ ?_; rotate_left; (intro w' hg; go_simp; rw [if_neg (by omega)]); simp only [Act.put, L0, L1, L2])
        | (refine Grow.seqT.idle (by rfl) ?_; simp only [Act.put, L0, L1, L2])
        )
      refine Grow.seqT.done (fun w4 g4 => ?_)
      go_wp2_with fail
      exact ⟨⟨k + 1, by omega, rfl, hG.trans g4⟩, by simp [intOf]; omega⟩
    · have t0 : decide ((k : Int) < (L.length : Int)) = false := decide_eq_false (by omega)
      go_wp2
      go_ret
      exact ⟨rfl, hG⟩
set_option maxHeartbeats 2000000 in
theorem versions_any (w : World) :
    Calls Try.prog 15 #[] w fun e w' => e = .returned (.slice (some ⟨w.heap.size, 0, none⟩) 20 20) ∧ Grow.G w w' ∧ Blk w' w.heap.size (List.replicate 20 (.int .i64 0)).toArray 3 := by
  obtain ⟨i, hi⟩ := Option.isSome_iff_exists.1 (show (Try.prog.info? 3).isSome = true by kernel_rfl)
  have hz : i.zero = some (.int .i64 0) := by
    have h2 : (Try.prog.info? 3).map (·.zero) = some (some (.int .i64 0)) := by kernel_rfl
    rw [hi] at h2; simpa using h2
  have hs : i.size = 1 := by
    have h2 : (Try.prog.info? 3).map (·.size) = some 1 := by kernel_rfl
    rw [hi] at h2; simpa using h2
  have hb : i.bytes = 8 := by
    have h2 : (Try.prog.info? 3).map (·.bytes) = some 8 := by kernel_rfl
    rw [hi] at h2; simpa using h2
  have RM := run_makeSlice w 41 3 i (.int .i64 0) Try.underlying41 hi hz .i64 .i64 20 20 (by omega) (by omega) (by rw [hs]; decide) (by rw [hb]; decide) (by decide)
  have hmc : madeCells (Value.int .i64 0).cells ((20 : Int).toNat * i.size) = (List.replicate 20 (.int .i64 0)).toArray := by rw [hs]; kernel_rfl
  rw [hmc] at RM
  clear hmc hb hs hz hi i
  go_enter Try.func15, Try.ntmps15
  go_wp2
  go_ret
  exact ⟨rfl, Grow.G.alloc (Grow.G.refl _) _, Blk.new w _ _⟩
end Go.Proofs.Ytbfpappechpdiaa

/- What spec.first, spec.Config answer. -/
import Derived.Test.YtpmhmegjckhbmaaSpec1
namespace Go.Proofs.Ytpmhmegjckhbmaa
set_option linter.unusedVariables false
set_option linter.unusedSimpArgs false
set_option linter.unnecessarySimpa false
open Go.RowKit

def fst0 : List Int → Int
  | [] => 0
  | a :: l => if a = 0 then fst0 l else a
theorem fst0_at : ∀ (L : List Int) (k : Nat), k < L.length → (∀ j, j < k → L.getD j 0 = 0) → L.getD k 0 ≠ 0 → fst0 L = L.getD k 0
  | [], k, h, _, _ => by simp at h
  | a :: l, 0, _, _, h => by simp at h; simp [fst0, h]
  | a :: l, k + 1, h, h0, h1 => by
    have ha : a = 0 := by simpa using h0 0 (by omega)
    have := fst0_at l k (by simpa using h) (fun j hj => by simpa using h0 (j + 1) (by omega)) (by simpa using h1)
    simp only [fst0, if_pos ha]
    simpa using this
theorem fst0_none : ∀ (L : List Int), (∀ j, j < L.length → L.getD j 0 = 0) → fst0 L = 0
  | [], _ => rfl
  | a :: l, h => by
    have ha : a = 0 := by simpa using h 0 (by simp)
    simp only [fst0, if_pos ha]
    exact fst0_none l fun j hj => by simpa using h (j + 1) (by simpa using hj)

set_option maxHeartbeats 400000 in
theorem first_any (b : Nat) (L : List Int) (fs : Nat → FuncId) (av : Nat → Value) (w : World) (hn : L.length ≤ 100)
    (hc : ∀ i, i < L.length → w.cell? ⟨b, i, none⟩ = some (.func (.func (fs i)) #[av i] #[]))
    (hr : ∀ i, i < L.length → ∀ args w', (callFunc (fs i) args).run Try.prog w' = .ok (.enter (fs i) args) w')
    (hf : ∀ i, i < L.length → (∀ j, j < i → L.getD j 0 = 0) → ∀ w', Grow.G w w' → Calls Try.prog (fs i) #[av i] w' fun e w'' => e = .returned (.int .i64 (L.getD i 0)) ∧ Grow.G w' w'') :
    Calls Try.prog 24 #[.slice (some ⟨b, 0, none⟩) L.length L.length] w fun x w' => x = .returned (.int .i64 (fst0 L)) ∧ Below w.heap.size w w' := by
  have HC := Lib.hid hc
  have HF := Lib.hid hf
  have HR := Lib.hid hr
  clear hc hf hr
  go_enter Try.func24, Try.ntmps24
  go_wp2
  go_loopw [8] (fun i wr => ∃ k : Nat, k ≤ L.length ∧ i = .int .i64 k ∧ Grow.G w wr ∧ Hid (∀ j, j < k → L.getD j 0 = 0)) (fun i _ => L.length - (intOf i).toNat)
  case atStart => exact ⟨0, by omega, rfl, Grow.G.refl _, fun j h => by omega⟩
  case round =>
    obtain ⟨k, hk, rfl, hg, HK⟩ := hrel
    by_cases hlt : k < L.length
    · have hcell : wr.cell? ⟨b, k, none⟩ = some (.func (.func (fs k)) #[av k] #[]) := cell_later hg (HC.out k hlt)
      have C := Lib.hid (HF.out k hlt HK.out)
      have hrun := HR.out k hlt
      have G := Lib.hid hg
      have FA := Lib.hid (fst0_at L k hlt HK.out)
      generalize hv : L.getD k 0 = v at *
      have HV := Lib.hid hv
      clear hg hv
      go_wp2_with fail
      refine (C.out _ G.out).mono ?_
      rintro e w1 ⟨rfl, hb⟩
      clear hrun hcell
      have G1 := Lib.hid (Grow.G.trans G.out hb)
      clear hb
      by_cases h0 : v = 0
      · subst h0
        go_wp2_with fail
        go_roundw
        case rel => exact ⟨k + 1, by omega, by go_num, G1.out, fun j hj => by
          by_cases e : j = k
          · rw [e]; exact HV.out
          · exact HK.out j (by omega)⟩
        case measure => simp [intOf]; omega
      · have h0' : (v != 0) = true := by simpa using h0
        have FE := Lib.hid (FA.out h0)
        clear h0
        go_wp2_with fail
        go_ret
        exact ⟨ret_i64 FE.out.symm, G1.out⟩
    · have FE := Lib.hid (fst0_none L fun j hj => HK.out j (by omega))
      go_wp2
      go_ret
      exact ⟨ret_i64 FE.out.symm, hg⟩

theorem cfg_err (c : Cfg) : fst0 [unl (nameB 16 c.nm) 1, unl c.num 2] = c.err := by
  unfold Cfg.err unl
  cases nameB 16 c.nm <;> cases c.num <;> rfl
set_option maxHeartbeats 400000 in
theorem config_any (c : Cfg) (w : World) (hs : c.nm.size ≤ maxLen) :
    Calls Try.prog 13 #[c.v] w fun x w' => x = .returned (.int .i64 c.err) ∧ Below w.heap.size w w' := by
  have N := Lib.hid (fun w => cnamed_any c w hs)
  have M := Lib.hid (fun w => cnumbers_any c w)
  have E := Lib.hid (cfg_err c)
  obtain ⟨nm, im, co, mn, mx, gr⟩ := c
  unfold Cfg.v at *
  go_enter Try.func13, Try.ntmps13
  go_wp2_with fail
  refine (first_any _ [unl (nameB 16 nm) 1, unl (Cfg.num ⟨nm, im, co, mn, mx, gr⟩) 2] (fun | 0 => 25 | _ => 26) (fun _ => .agg #[.string nm, .int .i64 im, .int .i64 co, .int .i64 mn, .int .i64 mx, .int .i64 gr]) _ (by show 2 ≤ 100; decide) ?_ ?_ ?_).mono ?_
  · intro i hi
    match i, hi with
    | 0, _ => go_simp
    | 1, _ => go_simp
  · intro i hi args w'
    match i, hi with
    | 0, _ => go_simp
    | 1, _ => go_simp
  · intro i hi _ w' _
    match i, hi with
    | 0, _ => exact N.out w'
    | 1, _ => exact M.out w'
  rintro e w1 ⟨rfl, hb⟩
  go_wp2_with fail
  go_ret
  exact ⟨ret_i64 E.out, by (repeat (first | with_reducible exact Grow.G.refl _ | with_reducible exact Below.refl _ _ | with_reducible refine Grow.G.alloc ?_ _ | with_reducible refine Grow.G.trans ?_ hb1 | ((with_reducible refine Below.setCell ?_ ?_ _); rotate_left; (focus (first | omega | (simp; done) | (simp; omega)))) | with_reducible assumption | with_reducible refine Grow.G.trans ?_ (by with_reducible assumption)))⟩
end Go.Proofs.Ytpmhmegjckhbmaa

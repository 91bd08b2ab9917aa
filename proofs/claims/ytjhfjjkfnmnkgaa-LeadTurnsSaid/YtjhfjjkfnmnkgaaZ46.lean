/- My own texts Tab17, laid in one file. -/
import Derived.Test.YtjhfjjkfnmnkgaaZ45
import Derived.Test.YtjhfjjkfnmnkgaaZ43
import Derived.Test.YtjhfjjkfnmnkgaaZ1

/- Made tables are right; damperlaw5.known. -/
namespace Go.Proofs.Ytjhfjjkfnmnkgaa
set_option maxRecDepth 100000
set_option linter.unusedVariables false
set_option linter.unusedSimpArgs false
set_option linter.unnecessarySimpa false
open Go.RowKit Go.Args

theorem rev_lt : ∀ i : Fin 6, ∀ j : Fin 6, i < j → ltS (revK i) (revK j) = true := by decide +kernel
theorem rev_nil : ∀ i : Fin 6, ltS ⟨#[]⟩ (revK i) = true := by decide +kernel
theorem rev_ok : ∀ i : Fin 6, revTB (revK i) = true := by decide +kernel
theorem rev_size : ∀ i : Fin 6, (revK i).size ≤ 6 := by decide +kernel
theorem tag_lt : ∀ i : Fin 4, ∀ j : Fin 4, i < j → ltS (tagK i) (tagK j) = true := by decide +kernel
theorem tag_nil : ∀ i : Fin 4, ltS ⟨#[]⟩ (tagK i) = true := by decide +kernel
theorem tag_ok : ∀ i : Fin 4, nameB 8 (tagK i) = true := by decide +kernel
theorem tag_size : ∀ i : Fin 4, (tagK i).size ≤ 2 := by decide +kernel
theorem mkSh_facts (zs : List Int) : ∀ (n : Nat) (z : Int), n ≤ 6 → 0 ≤ z → z ≤ 100 →
    (∀ s, s ∈ mkSh zs n z → ∃ i : Nat, 6 - n ≤ i ∧ i < 6 ∧ s.rev = revK i ∧ 1 ≤ s.w ∧ s.w ≤ 100) ∧ sumW (mkSh zs n z) = (if n = 0 then 0 else z) ∧ (mkSh zs n z).length ≤ n ∧
    (∀ a, (∀ i : Nat, 6 - n ≤ i → i < 6 → ltS a (revK i) = true) → ascF a (mkSh zs n z) = true)
  | 0, z, _, _, _ => ⟨fun s hs => (by cases hs), rfl, Nat.le_refl _, fun a _ => rfl⟩
  | n + 1, z, hn, h0, h1 => by
    rw [mkSh]
    by_cases hz : 0 < z
    · rw [if_pos hz]
      have hv := shV_le zs (5 - n) z h0
      have hlast : n = 0 → shV zs (5 - n) z = z := fun e => by subst e; unfold shV; rw [if_pos rfl]
      generalize shV zs (5 - n) z = v at *
      obtain ⟨i1, i2, i3, i4⟩ := mkSh_facts zs n (z - v) (by omega) (by omega) (by omega)
      by_cases hp : 0 < v
      · rw [if_pos hp, List.singleton_append]
        refine ⟨fun s hs => ?_, ?_, by simp; omega, fun a ha => ?_⟩
        · rcases List.mem_cons.1 hs with rfl | hs
          · exact ⟨5 - n, by omega, by omega, rfl, by dsimp only; omega, by dsimp only; omega⟩
          · obtain ⟨i, q1, q2, q3⟩ := i1 s hs
            exact ⟨i, by omega, q2, q3⟩
        · rw [sumW, i2, if_neg (show ¬ n + 1 = 0 by omega)]
          dsimp only
          by_cases e : n = 0
          · rw [if_pos e, hlast e]; simp
          · rw [if_neg e]; omega
        · rw [ascF]
          have e1 : shOk ⟨revK (5 - n), v⟩ = true := by
            unfold shOk
            rw [rev_ok ⟨5 - n, by omega⟩, decide_eq_true (show 1 ≤ v by omega), decide_eq_true (show v ≤ 100 by omega)]; rfl
          rw [e1, ha (5 - n) (by omega) (by omega), i4 _ (fun i hi hi2 => rev_lt ⟨5 - n, by omega⟩ ⟨i, hi2⟩ (by show 5 - n < i; omega))]
          rfl
      · rw [if_neg hp, List.nil_append]
        refine ⟨fun s hs => ?_, ?_, by omega, fun a ha => i4 a (fun i q1 q2 => ha i (by omega) q2)⟩
        · obtain ⟨i, q1, q2, q3⟩ := i1 s hs
          exact ⟨i, by omega, q2, q3⟩
        · rw [i2, if_neg (show ¬ n + 1 = 0 by omega)]
          by_cases e : n = 0
          · have := hlast e; omega
          · rw [if_neg e]; omega
    · rw [if_neg hz]
      exact ⟨fun s hs => (by cases hs), (by rw [if_neg (show ¬ n + 1 = 0 by omega)]; show (0 : Int) = z; omega), by simp, fun a _ => rfl⟩
theorem mkTg_facts (ms : List Int) : ∀ (n : Nat), n ≤ 4 →
    (∀ s, s ∈ mkTg ms n → ∃ i j : Nat, 4 - n ≤ i ∧ i < 4 ∧ j < 6 ∧ s.tag = tagK i ∧ s.rev = revK j) ∧ (mkTg ms n).length ≤ n ∧
    (∀ a, (∀ i : Nat, 4 - n ≤ i → i < 4 → ltS a (tagK i) = true) → ascT a (mkTg ms n) = true)
  | 0, _ => ⟨fun s hs => (by cases hs), Nat.le_refl _, fun a _ => rfl⟩
  | n + 1, hn => by
    rw [mkTg]
    by_cases hz : 3 - n < ms.length
    · rw [if_pos hz]
      have hj := withinI_range ((ms.getD (3 - n) 0).tdiv 2) 6 (by omega)
      obtain ⟨j, hj2⟩ : ∃ j : Nat, (withinI ((ms.getD (3 - n) 0).tdiv 2) 6).toNat = j := ⟨_, rfl⟩
      have hj6 : j < 6 := by omega
      rw [hj2]
      obtain ⟨i1, i3, i4⟩ := mkTg_facts ms n (by omega)
      by_cases hp : withinI (ms.getD (3 - n) 0) 2 = 0
      · rw [if_pos hp, List.singleton_append]
        refine ⟨fun s hs => ?_, by simp; omega, fun a ha => ?_⟩
        · rcases List.mem_cons.1 hs with rfl | hs
          · exact ⟨3 - n, j, by omega, by omega, hj6, rfl, rfl⟩
          · obtain ⟨i, j, q1, q2, q3⟩ := i1 s hs
            exact ⟨i, j, by omega, q2, q3⟩
        · rw [ascT]
          have e1 : tagOk ⟨tagK (3 - n), revK j⟩ = true := by
            unfold tagOk
            rw [rev_ok ⟨j, hj6⟩, tag_ok ⟨3 - n, by omega⟩]; rfl
          rw [e1, ha (3 - n) (by omega) (by omega), i4 _ (fun i hi hi2 => tag_lt ⟨3 - n, by omega⟩ ⟨i, hi2⟩ (by show 3 - n < i; omega))]
          rfl
      · rw [if_neg hp, List.nil_append]
        refine ⟨fun s hs => ?_, by omega, fun a ha => i4 a (fun i q1 q2 => ha i (by omega) q2)⟩
        obtain ⟨i, j, q1, q2, q3⟩ := i1 s hs
        exact ⟨i, j, by omega, q2, q3⟩
    · rw [if_neg hz]
      exact ⟨fun s hs => (by cases hs), by simp, fun a _ => rfl⟩
theorem mkS_rev {zs : List Int} {s : Shr} (h : s ∈ mkS zs) : ∃ i : Nat, i < 6 ∧ s.rev = revK i ∧ 1 ≤ s.w ∧ s.w ≤ 100 := by
  obtain ⟨i, _, h2, h3⟩ := (mkSh_facts zs 6 100 (by omega) (by omega) (by omega)).1 s h
  exact ⟨i, h2, h3⟩
theorem mkS_sum (zs : List Int) : sumW (mkS zs) = 100 := (mkSh_facts zs 6 100 (by omega) (by omega) (by omega)).2.1
theorem mkS_len (zs : List Int) : (mkS zs).length ≤ 6 := (mkSh_facts zs 6 100 (by omega) (by omega) (by omega)).2.2.1
theorem mkS_asc (zs : List Int) : ascF ⟨#[]⟩ (mkS zs) = true := (mkSh_facts zs 6 100 (by omega) (by omega) (by omega)).2.2.2 _ (fun i _ h => rev_nil ⟨i, h⟩)
theorem mkS_small (zs : List Int) : Small (mkS zs) := ⟨by have := mkS_len zs; omega, fun s hs => by
  obtain ⟨i, h1, h2, h3, h4⟩ := mkS_rev hs
  have := rev_size ⟨i, h1⟩
  rw [h2]
  dsimp only at this
  omega⟩
theorem mkT_mem {ms : List Int} {s : Tgo} (h : s ∈ mkT ms) : ∃ i j : Nat, i < 4 ∧ j < 6 ∧ s.tag = tagK i ∧ s.rev = revK j := by
  obtain ⟨i, j, _, h2⟩ := (mkTg_facts ms 4 (by omega)).1 s h
  exact ⟨i, j, h2⟩
theorem mkT_len (ms : List Int) : (mkT ms).length ≤ 4 := (mkTg_facts ms 4 (by omega)).2.1
theorem mkT_asc (ms : List Int) : ascT ⟨#[]⟩ (mkT ms) = true := (mkTg_facts ms 4 (by omega)).2.2 _ (fun i _ h => tag_nil ⟨i, h⟩)
theorem mkT_small (ms : List Int) : SmallT (mkT ms) := ⟨by have := mkT_len ms; omega, fun s hs => by
  obtain ⟨i, j, h1, h2, h3, h4⟩ := mkT_mem hs
  have := rev_size ⟨j, h2⟩
  have := tag_size ⟨i, h1⟩
  rw [h3, h4]
  dsimp only at *
  omega⟩
theorem mk_right (zs ms : List Int) : rightB (mkS zs) (mkT ms) = true := by
  unfold rightB soundB
  rw [mkS_asc, mkT_asc, mkS_sum]; rfl
theorem Small.ok {l : List Shr} (h : Small l) : ∀ s, s ∈ l → s.ok := fun s hs => by
  have := h.2 s hs
  exact ⟨⟨by omega, by omega⟩, by omega⟩
theorem SmallT.ok {m : List Tgo} (h : SmallT m) : ∀ s, s ∈ m → s.ok := fun s hs => by
  have := h.2 s hs
  exact ⟨by omega, by omega⟩
section
variable {w0 w w' : World} {a a' : Option Addr} {c c' : Nat} {zs ms : List Int}
theorem MadeT.grow (h : MadeT w0 w a c a' c' zs ms) (g : Grow.G w w') : MadeT w0 w' a c a' c' zs ms := ⟨own_later h.sh g, own_later h.tg g⟩
end
end Go.Proofs.Ytjhfjjkfnmnkgaa

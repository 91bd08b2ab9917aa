/- My own texts Tab17, Tab18, laid in one file. -/
import Derived.Test.YtbagjeefoifpeaaDoorZ45
import Derived.Test.YtbagjeefoifpeaaDoorZ43
import Derived.Test.YtbagjeefoifpeaaDoorZ1
import Derived.Test.YtbagjeefoifpeaaDoorZ38
import Derived.Test.YtbagjeefoifpeaaDoorZ40

/- Made tables are right; damperlaw5.known. -/
namespace Go.Proofs.YtbagjeefoifpeaaDoor
set_option maxRecDepth 100000
set_option linter.unusedVariables false
set_option linter.unusedSimpArgs false
set_option linter.unnecessarySimpa false
open Go.RowKit Go.Args

theorem rev_lt : ∀ i : Fin 6, ∀ j : Fin 6, i < j → ltS (revK i) (revK j) = true := by decide +kernel
theorem rev_nil : ∀ i : Fin 6, ltS ⟨#[]⟩ (revK i) = true := by decide +kernel
theorem rev_ok : ∀ i : Fin 6, revB (revK i) = true := by decide +kernel
theorem rev_size : ∀ i : Fin 6, (revK i).size ≤ 6 := by decide +kernel
theorem tag_lt : ∀ i : Fin 4, ∀ j : Fin 4, i < j → ltS (tagK i) (tagK j) = true := by decide +kernel
theorem tag_nil : ∀ i : Fin 4, ltS ⟨#[]⟩ (tagK i) = true := by decide +kernel
theorem tag_ok : ∀ i : Fin 4, nameB 8 (tagK i) = true := by decide +kernel
theorem tag_size : ∀ i : Fin 4, (tagK i).size ≤ 2 := by decide +kernel
theorem mkSh_facts (zs : List Int) : ∀ (n : Nat) (z : Int), n ≤ 6 → 0 ≤ z → z ≤ 100 →
    (∀ s, s ∈ mkSh zs n z → ∃ i : Nat, 6 - n ≤ i ∧ i < 6 ∧ s.rev = revK i ∧ 1 ≤ s.w ∧ s.w ≤ 100) ∧ sumW (mkSh zs n z) = (if n = 0 then 0 else z) ∧ (mkSh zs n z).length ≤ n ∧
    (∀ a, (∀ i : Nat, 6 - n ≤ i → i < 6 → ltS a (revK i) = true) → ascF a (mkSh zs n z) = true)
  | 0, z, _, _, _ => ⟨fun s hs => (by cases hs), rfl, Nat.le_refl _, fun a _ => rfl⟩
  | n + 1, z, hn, h0, h1 => by
    rw [mkSh]
    by_cases hz : 0 < z
    · rw [if_pos hz]
      have hv := shV_le zs (5 - n) z h0
      have hlast : n = 0 → shV zs (5 - n) z = z := fun e => by subst e; unfold shV; rw [if_pos rfl]
      generalize shV zs (5 - n) z = v at *
      obtain ⟨i1, i2, i3, i4⟩ := mkSh_facts zs n (z - v) (by omega) (by omega) (by omega)
      by_cases hp : 0 < v
      · rw [if_pos hp, List.singleton_append]
        refine ⟨fun s hs => ?_, ?_, by simp; omega, fun a ha => ?_⟩
        · rcases List.mem_cons.1 hs with rfl | hs
          · exact ⟨5 - n, by omega, by omega, rfl, by dsimp only; omega, by dsimp only; omega⟩
          · obtain ⟨i, q1, q2, q3⟩ := i1 s hs
            exact ⟨i, by omega, q2, q3⟩
        · rw [sumW, i2, if_neg (show ¬ n + 1 = 0 by omega)]
          dsimp only
          by_cases e : n = 0
          · rw [if_pos e, hlast e]; simp
          · rw [if_neg e]; omega
        · rw [ascF]
          have e1 : shOk ⟨revK (5 - n), v⟩ = true := by
            unfold shOk
            rw [rev_ok ⟨5 - n, by omega⟩, decide_eq_true (show 1 ≤ v by omega), decide_eq_true (show v ≤ 100 by omega)]; rfl
          rw [e1, ha (5 - n) (by omega) (by omega), i4 _ (fun i hi hi2 => rev_lt ⟨5 - n, by omega⟩ ⟨i, hi2⟩ (by show 5 - n < i; omega))]
          rfl
      · rw [if_neg hp, List.nil_append]
        refine ⟨fun s hs => ?_, ?_, by omega, fun a ha => i4 a (fun i q1 q2 => ha i (by omega) q2)⟩
        · obtain ⟨i, q1, q2, q3⟩ := i1 s hs
          exact ⟨i, by omega, q2, q3⟩
        · rw [i2, if_neg (show ¬ n + 1 = 0 by omega)]
          by_cases e : n = 0
          · have := hlast e; omega
          · rw [if_neg e]; omega
    · rw [if_neg hz]
      exact ⟨fun s hs => (by cases hs), (by rw [if_neg (show ¬ n + 1 = 0 by omega)]; show (0 : Int) = z; omega), by simp, fun a _ => rfl⟩
theorem mkTg_facts (ms : List Int) : ∀ (n : Nat), n ≤ 4 →
    (∀ s, s ∈ mkTg ms n → ∃ i j : Nat, 4 - n ≤ i ∧ i < 4 ∧ j < 6 ∧ s.tag = tagK i ∧ s.rev = revK j) ∧ (mkTg ms n).length ≤ n ∧
    (∀ a, (∀ i : Nat, 4 - n ≤ i → i < 4 → ltS a (tagK i) = true) → ascT a (mkTg ms n) = true)
  | 0, _ => ⟨fun s hs => (by cases hs), Nat.le_refl _, fun a _ => rfl⟩
  | n + 1, hn => by
    rw [mkTg]
    by_cases hz : 3 - n < ms.length
    · rw [if_pos hz]
      have hj := withinI_range ((ms.getD (3 - n) 0).tdiv 2) 6 (by omega)
      obtain ⟨j, hj2⟩ : ∃ j : Nat, (withinI ((ms.getD (3 - n) 0).tdiv 2) 6).toNat = j := ⟨_, rfl⟩
      have hj6 : j < 6 := by omega
      rw [hj2]
      obtain ⟨i1, i3, i4⟩ := mkTg_facts ms n (by omega)
      by_cases hp : withinI (ms.getD (3 - n) 0) 2 = 0
      · rw [if_pos hp, List.singleton_append]
        refine ⟨fun s hs => ?_, by simp; omega, fun a ha => ?_⟩
        · rcases List.mem_cons.1 hs with rfl | hs
          · exact ⟨3 - n, j, by omega, by omega, hj6, rfl, rfl⟩
          · obtain ⟨i, j, q1, q2, q3⟩ := i1 s hs
            exact ⟨i, j, by omega, q2, q3⟩
        · rw [ascT]
          have e1 : tagOk ⟨tagK (3 - n), revK j⟩ = true := by
            unfold tagOk
            rw [rev_ok ⟨j, hj6⟩, tag_ok ⟨3 - n, by omega⟩]; rfl
          rw [e1, ha (3 - n) (by omega) (by omega), i4 _ (fun i hi hi2 => tag_lt ⟨3 - n, by omega⟩ ⟨i, hi2⟩ (by show 3 - n < i; omega))]
          rfl
      · rw [if_neg hp, List.nil_append]
        refine ⟨fun s hs => ?_, by omega, fun a ha => i4 a (fun i q1 q2 => ha i (by omega) q2)⟩
        obtain ⟨i, j, q1, q2, q3⟩ := i1 s hs
        exact ⟨i, j, by omega, q2, q3⟩
    · rw [if_neg hz]
      exact ⟨fun s hs => (by cases hs), by simp, fun a _ => rfl⟩
theorem mkS_rev {zs : List Int} {s : Shr} (h : s ∈ mkS zs) : ∃ i : Nat, i < 6 ∧ s.rev = revK i ∧ 1 ≤ s.w ∧ s.w ≤ 100 := by
  obtain ⟨i, _, h2, h3⟩ := (mkSh_facts zs 6 100 (by omega) (by omega) (by omega)).1 s h
  exact ⟨i, h2, h3⟩
theorem mkS_sum (zs : List Int) : sumW (mkS zs) = 100 := (mkSh_facts zs 6 100 (by omega) (by omega) (by omega)).2.1
theorem mkS_len (zs : List Int) : (mkS zs).length ≤ 6 := (mkSh_facts zs 6 100 (by omega) (by omega) (by omega)).2.2.1
theorem mkS_pos (zs : List Int) : 0 < (mkS zs).length := by
  have h := mkS_sum zs
  cases e : mkS zs with
  | nil => rw [e] at h; simp [sumW] at h
  | cons a l => simp
theorem mkS_asc (zs : List Int) : ascF ⟨#[]⟩ (mkS zs) = true := (mkSh_facts zs 6 100 (by omega) (by omega) (by omega)).2.2.2 _ (fun i _ h => rev_nil ⟨i, h⟩)
theorem mkS_small (zs : List Int) : Small (mkS zs) := ⟨by have := mkS_len zs; omega, fun s hs => by
  obtain ⟨i, h1, h2, h3, h4⟩ := mkS_rev hs
  have := rev_size ⟨i, h1⟩
  rw [h2]
  dsimp only at this
  omega⟩
theorem mkT_mem {ms : List Int} {s : Tgo} (h : s ∈ mkT ms) : ∃ i j : Nat, i < 4 ∧ j < 6 ∧ s.tag = tagK i ∧ s.rev = revK j := by
  obtain ⟨i, j, _, h2⟩ := (mkTg_facts ms 4 (by omega)).1 s h
  exact ⟨i, j, h2⟩
theorem mkT_len (ms : List Int) : (mkT ms).length ≤ 4 := (mkTg_facts ms 4 (by omega)).2.1
theorem mkT_asc (ms : List Int) : ascT ⟨#[]⟩ (mkT ms) = true := (mkTg_facts ms 4 (by omega)).2.2 _ (fun i _ h => tag_nil ⟨i, h⟩)
theorem mkT_small (ms : List Int) : SmallT (mkT ms) := ⟨by have := mkT_len ms; omega, fun s hs => by
  obtain ⟨i, j, h1, h2, h3, h4⟩ := mkT_mem hs
  have := rev_size ⟨j, h2⟩
  have := tag_size ⟨i, h1⟩
  rw [h3, h4]
  dsimp only at *
  omega⟩
theorem mk_right (zs ms : List Int) : rightB (mkS zs) (mkT ms) = true := by
  unfold rightB soundB
  rw [mkS_asc, mkT_asc, mkS_sum]; rfl
theorem Small.ok {l : List Shr} (h : Small l) : ∀ s, s ∈ l → s.ok := fun s hs => by
  have := h.2 s hs
  exact ⟨⟨by omega, by omega⟩, by omega⟩
theorem SmallT.ok {m : List Tgo} (h : SmallT m) : ∀ s, s ∈ m → s.ok := fun s hs => by
  have := h.2 s hs
  exact ⟨by omega, by omega⟩
section
variable {w0 w w' : World} {a a' : Option Addr} {c c' : Nat} {zs ms : List Int}
theorem MadeT.grow (h : MadeT w0 w a c a' c' zs ms) (g : Grow.G w w') : MadeT w0 w' a c a' c' zs ms := ⟨own_later h.sh g, own_later h.tg g⟩
end
/-- The chapter's example. -/
def knS : List Shr := [⟨⟨#[119, 101, 98, 45, 49]⟩, 100⟩]
theorem knS_small : Small knS := ⟨by decide, fun s hs => by
  rw [show s = ⟨⟨#[119, 101, 98, 45, 49]⟩, 100⟩ from List.mem_singleton.1 hs]
  exact ⟨by decide, by decide, by decide⟩⟩
theorem nil_small : SmallT [] := ⟨by decide, fun s hs => by cases hs⟩
theorem knS_text : textB knS [] = ⟨#[119, 101, 98, 45, 49, 58, 49, 48, 48]⟩ := by
  have h100 : digS 100 = ⟨#[49, 48, 48]⟩ := by
    rw [digS_big (by decide), show (100 : Nat) / 10 = 10 from rfl, show (100 : Nat) % 10 = 0 from rfl, digS_big (n := 10) (by decide), show (10 : Nat) / 10 = 1 from rfl, show (10 : Nat) % 10 = 0 from rfl, digS_small (n := 1) (by decide), digS_small (n := 0) (by decide)]
    rfl
  have h : wordsL knS [] = [⟨#[119, 101, 98, 45, 49, 58, 49, 48, 48]⟩] := by
    show [R3.t ⟨⟨#[119, 101, 98, 45, 49]⟩, ⟨#[58]⟩, digS 100⟩] = _
    rw [h100]; rfl
  unfold textB
  rw [h]; rfl
theorem knS_right : rightB knS [] = true := by
  unfold rightB soundB knS
  rw [ascF]
  have e1 : shOk ⟨⟨#[119, 101, 98, 45, 49]⟩, 100⟩ = true := by
    unfold shOk
    rw [revB_yes isRev_web]; rfl
  rw [e1, ltS_nil (by decide)]; rfl

theorem kn_sh {w : World} {b : Nat} {T : TypeId} (h : Blk w b #[.string ⟨#[119, 101, 98, 45, 49]⟩, .int .i64 100] T) : ShSl w (some ⟨b, 0, none⟩) knS := by
  refine .inr ⟨b, 0, rfl, fun i x hi j v hj => ?_⟩
  match i, hi with
  | 0, hi =>
    cases hi
    match j, hj with
    | 0, hj => cases hj; exact Blk.at (cs := [Value.string ⟨#[119, 101, 98, 45, 49]⟩, .int .i64 100]) (k := 0) h rfl
    | 1, hj => cases hj; exact Blk.at (cs := [Value.string ⟨#[119, 101, 98, 45, 49]⟩, .int .i64 100]) (k := 1) h rfl
  | i + 1, hi => cases hi
set_option maxHeartbeats 2000000 in
theorem known5_any (w : World) (ht : Tab w) :
    Calls Tryd.prog 9 #[] w fun e w' => e = .returned (.bool true) ∧ Grow.G w w' := by
  have HT := Lib.hid ht
  clear ht
  have TX := Lib.hid (fun (w' : World) (a : Option Addr) (h : ShSl w' a knS) (ht : Tab w') => (show Calls Tryd.prog 22 #[.agg #[.slice a 1 1, .slice none 0 0]] w' fun e w'' => e = .returned (.string ⟨#[119, 101, 98, 45, 49, 58, 49, 48, 48]⟩) ∧ Grow.G w' w'' from by
    have := ttext_any a knS 1 none [] 0 w' h (.inl rfl) knS_small nil_small ht
    rw [knS_text] at this; exact this))
  have PK := Lib.hid (fun (w' : World) (a : Option Addr) (h : ShSl w' a knS) => (show Calls Tryd.prog 16 #[.agg #[.slice a 1 1, .slice none 0 0], .int .i64 5] w' fun e w'' => e = .returned (.string ⟨#[119, 101, 98, 45, 49]⟩) ∧ Grow.G w' w'' from pick_any a knS 1 none 0 0 5 w' ⟨by decide, by decide⟩ h knS_small))
  have RT := Lib.hid (fun (w' : World) (a : Option Addr) (h : ShSl w' a knS) => (show Calls Tryd.prog 12 #[.agg #[.slice a 1 1, .slice none 0 0]] w' fun e w'' => e = .returned (.bool true) ∧ Grow.G w' w'' from by
    have := right_any a knS 1 none [] 0 w' (by decide) (by decide) h (.inl rfl) knS_small.ok (fun s hs => by cases hs)
    rw [knS_right] at this; exact this))
  have RN := Lib.hid (fun (w' : World) => (show Calls Tryd.prog 12 #[.agg #[.slice none 0 0, .slice none 0 0]] w' fun e w'' => e = .returned (.bool false) ∧ Grow.G w' w'' from 
    right_any none [] 0 none [] 0 w' (by decide) (by decide) (.inl rfl) (.inl rfl) (fun s hs => by cases hs) (fun s hs => by cases hs)))
  go_enter Tryd.func9, Tryd.ntmps9
  go_wp2_with fail
  have hk := (Blk.new w #[.string ⟨#[119, 101, 98, 45, 49]⟩, .int .i64 100] 32).alloc (.cells #[.slice (some ⟨w.heap.size, 0, none⟩) 1 1, .slice none 0 0] 25)
  have hb := Blk.new (w.alloc (.cells #[.string ⟨#[119, 101, 98, 45, 49]⟩, .int .i64 100] 32)) #[.slice (some ⟨w.heap.size, 0, none⟩) 1 1, .slice none 0 0] 25
  have g0' : Grow.G w ((w.alloc (.cells #[.string ⟨#[119, 101, 98, 45, 49]⟩, .int .i64 100] 32)).alloc (.cells #[.slice (some ⟨w.heap.size, 0, none⟩) 1 1, .slice none 0 0] 25)) := by (repeat (first | with_reducible exact Grow.G.refl _ | with_reducible exact Below.refl _ _ | with_reducible refine Grow.G.alloc ?_ _ | with_reducible refine Grow.G.trans ?_ hb1 | ((with_reducible refine Below.setCell ?_ ?_ _); rotate_left; (focus (first | omega | (simp; done) | (simp; omega)))) | with_reducible assumption | with_reducible refine Grow.G.trans ?_ (by with_reducible assumption)))
  refine (TX.out _ _ (kn_sh hk) (HT.out.below g0')).mono ?_
  rintro e w1 ⟨rfl, hg1⟩
  have hk1 := Lib.hid (hk.grow hg1)
  have hb1 := Lib.hid (hb.grow hg1)
  have G1 := Lib.hid (g0'.trans hg1)
  clear hk hb g0' hg1 TX
  simp only [World.size_alloc] at hb1
  generalize w.heap.size = gb at *
  have e0 := Blk.at (cs := [Value.slice (some ⟨gb, 0, none⟩) 1 1, .slice none 0 0]) (k := 0) hb1.out rfl
  have e1 := Blk.at (cs := [Value.slice (some ⟨gb, 0, none⟩) 1 1, .slice none 0 0]) (k := 1) hb1.out rfl
  go_wp2_with fail
  refine (PK.out _ _ (kn_sh hk1.out)).mono ?_
  rintro e w2 ⟨rfl, hg2⟩
  have hk2 := Lib.hid (hk1.out.grow hg2)
  have hb2 := Lib.hid (hb1.out.grow hg2)
  have G2 := Lib.hid (G1.out.trans hg2)
  clear hk1 hb1 hg2 e0 e1 PK
  have e0 := Blk.at (cs := [Value.slice (some ⟨gb, 0, none⟩) 1 1, .slice none 0 0]) (k := 0) hb2.out rfl
  have e1 := Blk.at (cs := [Value.slice (some ⟨gb, 0, none⟩) 1 1, .slice none 0 0]) (k := 1) hb2.out rfl
  go_wp2_with fail
  refine (RT.out _ _ (kn_sh hk2.out)).mono ?_
  rintro e w3 ⟨rfl, hg3⟩
  go_wp2_with fail
  refine (RN.out _).mono ?_
  rintro e w4 ⟨rfl, hg4⟩
  go_wp2_with fail
  go_ret
  exact ⟨rfl, (G2.out.trans hg3).trans hg4⟩
end Go.Proofs.YtbagjeefoifpeaaDoor

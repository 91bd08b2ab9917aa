/- My own texts Tab3, laid in one file. -/
import Derived.Test.YtjhfjjkfnmnkgaaZ38
import Derived.Test.YtjhfjjkfnmnkgaaZ2

/- What damperref5's Right answers. -/
namespace Go.Proofs.Ytjhfjjkfnmnkgaa
set_option maxRecDepth 100000
set_option linter.unusedVariables false
set_option linter.unusedSimpArgs false
set_option linter.unnecessarySimpa false
open Go.RowKit Go.Args

set_option maxHeartbeats 12000000 in
theorem rright_any (a : Option Addr) (l : List Shr) (c : Nat) (a' : Option Addr) (m : List Tgo) (c' : Nat) (w : World) (hl : l.length ≤ 1000000) (hm : m.length ≤ 1000000) (h : ShSl w a l) (h' : TgSl w a' m) (hok : ∀ s, s ∈ l → s.ok) (hok' : ∀ s, s ∈ m → s.ok) :
    Calls Try.prog 23 #[tabV a l.length c a' m.length c'] w fun e w' => e = .returned (.bool (rightB l m)) ∧ Grow.G w w' := by
  have SO := Lib.hid (fun w h => rsound_any a l c w hl h hok)
  have HS := Lib.hid h
  have HT := Lib.hid h'
  have HO := Lib.hid hok'
  clear h h' hok hok' hl
  unfold tabV
  obtain ⟨R, hR⟩ : ∃ R, rightB l m = R := ⟨_, rfl⟩
  rw [hR]
  have HR : Hid (R = (ascT ⟨#[]⟩ m && soundB l)) := Lib.hid (by rw [← hR, rightB, Bool.and_comm])
  clear hR
  generalize soundB l = q at *
  generalize l.length = ln at *
  go_enter Try.func23, Try.ntmps23
  go_wp2_with fail
  have B0 := Lib.hid (Blk.new w #[Value.slice a ln c, Value.slice a' m.length c'] 40)
  obtain ⟨W0, hW0⟩ : ∃ W0, W0 = w.alloc (.cells #[Value.slice a ln c, Value.slice a' m.length c'] 40) := ⟨_, rfl⟩
  rw [← hW0] at B0 ⊢
  have G0 : Hid (Grow.G w W0) := Lib.hid (by rw [hW0]; exact Grow.G.alloc (Grow.G.refl _) _)
  clear hW0
  generalize w.heap.size = gb at *
  go_loopw [3] (fun i wr => ∃ k : Nat, k ≤ m.length ∧ i = .int .i64 k ∧ Hid (R = (ascT (preT m k) (m.drop k) && q)) ∧ Hid (Grow.G W0 wr)) (fun i _ => m.length - (intOf i).toNat)
  case atStart => exact ⟨0, by omega, rfl, Lib.hid (by rw [HR.out]; rfl), Lib.hid (Grow.G.refl _)⟩
  case round =>
    obtain ⟨k, hk, rfl, SB, G⟩ := hrel
    have Bk := B0.out.grow G.out
    have e0 := Blk.at (cs := [Value.slice a ln c, Value.slice a' m.length c']) (k := 0) Bk rfl
    have e1 := Blk.at (cs := [Value.slice a ln c, Value.slice a' m.length c']) (k := 1) Bk rfl
    clear Bk
    by_cases hlt : k < m.length
    · obtain ⟨s, hs⟩ : ∃ s, m[k]? = some s := ⟨_, List.getElem?_eq_getElem hlt⟩
      obtain ⟨b, off, rfl, hc⟩ := HT.out.at hs
      obtain ⟨c0, c1⟩ := hc _ (G0.out.trans G.out)
      have hso := HO.out s (List.mem_of_getElem? hs)
      have A1 := Lib.hid (ascT_step (preT m k) m k s hs)
      have A3 : Hid (preT m (k + 1) = s.tag) := Lib.hid (by unfold preT; simp [List.getD, hs])
      obtain ⟨tg, rv⟩ := s
      unfold Tgo.ok at hso
      dsimp only at *
      have RV := Lib.hid (fun w => rrevision_any rv w (by omega))
      have TG := Lib.hid (fun w => (rtag_any tg w (by unfold maxLen; omega)).mono (fun e w' (h : _ ∧ _) => (⟨h.1, h.2 ▸ Grow.G.refl _⟩ : _ ∧ Grow.G w w')))
      have hc0 : k = 0 ∨ ∃ j p, k = j + 1 ∧ m[j]? = some p := by
        cases k with
        | zero => exact .inl rfl
        | succ j => exact .inr ⟨j, _, rfl, List.getElem?_eq_getElem (by omega)⟩
      clear hs hc hso
      have d0 : decide ((k : Int) < (m.length : Int)) = true := decide_eq_true (by omega)
      have hk1 : IntKind.i64.wrap ((k : Int) + 1) = (k : Int) + 1 := IntWalk.i64_in _ ⟨by omega, by omega⟩
      have k1 : (0 : Int) ≤ (k : Int) := by omega
      have k2 : (k : Int) < (m.length : Int) := by omega
      have KC := Lib.hid (fun (w' : World) (h : Chg (fun _ => False) wr w') => (⟨h.cell c0 id, h.cell c1 id, h.cell e1 id, trivial⟩ : w'.cell? ⟨b, off + k * 2, none⟩ = some (.string tg) ∧ w'.cell? ⟨b, off + k * 2 + 1, none⟩ = some (.string rv) ∧ w'.cell? ⟨gb, 1, none⟩ = some (.slice (some ⟨b, off, none⟩) m.length c') ∧ True))
      by_cases t0 : nameB 8 tg = true
      · rw [t0] at TG
        by_cases t1 : revTB rv = true
        · rw [t1] at RV
          have SO2 : Hid (R = (ltS (preT m k) tg && (ascT tg (m.drop (k + 1)) && q))) := Lib.hid (by rw [SB.out, A1.out, tagOk, t0, t1]; simp [Bool.and_assoc])
          have R1 := Lib.hid (ltS_nil (nameB_pos t0))
          clear t0 t1 SB A1
          rcases hc0 with h0 | ⟨j, p, hj, hp⟩
          · have E : Hid (R = (ascT tg (m.drop (k + 1)) && q)) := Lib.hid (by rw [SO2.out, h0, show preT m 0 = ⟨#[]⟩ from rfl, R1.out]; rfl)
            have d3 : decide (0 < k) = false := decide_eq_false (by omega)
            have d4 : decide ((k : Int) > 0) = false := decide_eq_false (by omega)
            clear h0 SO2 R1
            go_wp2_with fail
            refine Evo2.start' (ℓ := none) (S := Chg (fun _ => False)) (E := Grow.G) (by kernel_rfl) ⟨Chg.pre _, by decide +kernel, (by intro c a d v w h; cases d <;> exact h), by decide +kernel⟩ (fun ok => ?_)
            refine Evo2.va ok 0 _ _ ?_
            first | (refine Evo2.vl ok 1 KC.out (Chg.refl (fun _ => False) _) _ _ ?_) | (refine Evo2.va ok 1 _ _ ?_)
            refine Evo2.va ok 2 _ _ ?_
            refine Evo2.va ok 3 _ _ ?_
            refine Evo2.va ok 4 _ _ ?_
            first | (refine Evo2.vl ok 5 KC.out (Chg.refl (fun _ => False) _) _ _ ?_) | (refine Evo2.va ok 5 _ _ ?_)
            (refine Evo2.cal ok 6 ?_ 35 ?_ ?_ ?_ ?_; rotate_left 2; (focus (intro w'; go_simp <;> with_reducible rfl)); (focus (intro w' g'; with_reducible exact TG.out w')); simp only [Act.put, L0, L1, L2])
            refine Evo2.va ok 7 _ _ ?_
            refine Evo2.va ok 8 _ _ ?_
            first | (refine Evo2.va ok 9 _ _ ?_) | (refine Evo2.vi ok 9 _ ?_)
            first | (refine Evo2.vl ok 10 KC.out (Chg.refl (fun _ => False) _) _ _ ?_) | (refine Evo2.va ok 10 _ _ ?_) | (refine Evo2.vi ok 10 _ ?_)
            first | (refine Evo2.va ok 11 _ _ ?_) | (refine Evo2.vi ok 11 _ ?_)
            first | (refine Evo2.va ok 12 _ _ ?_) | (refine Evo2.vi ok 12 _ ?_)
            first | (refine Evo2.va ok 13 _ _ ?_) | (refine Evo2.vi ok 13 _ ?_)
            first | (refine Evo2.vl ok 14 KC.out (Chg.refl (fun _ => False) _) _ _ ?_) | (refine Evo2.va ok 14 _ _ ?_) | (refine Evo2.vi ok 14 _ ?_)
            first | (refine Evo2.cal ok 15 ?_ 36 ?_ ?_ ?_ ?_; rotate_left 2; (focus (intro w'; go_simp <;> with_reducible rfl)); (focus (intro w' g'; with_reducible exact RV.out w')); simp only [Act.put, L0, L1, L2]) | (refine Evo2.vi ok 15 _ ?_)
            first | (refine Evo2.va ok 16 _ _ ?_) | (refine Evo2.vi ok 16 _ ?_)
            refine Evo2.va ok 17 _ _ ?_
            refine Evo2.va ok 18 _ _ ?_
            first | (refine Evo2.va ok 19 _ _ ?_) | (refine Evo2.vi ok 19 _ ?_)
            first | (refine Evo2.va ok 20 _ _ ?_) | (refine Evo2.vi ok 20 _ ?_)
            first | (refine Evo2.va ok 21 _ _ ?_) | (refine Evo2.vi ok 21 _ ?_)
            first | (refine Evo2.va ok 22 _ _ ?_) | (refine Evo2.vi ok 22 _ ?_)
            first | (refine Evo2.vl ok 23 KC.out (Chg.refl (fun _ => False) _) _ _ ?_) | (refine Evo2.va ok 23 _ _ ?_) | (refine Evo2.vi ok 23 _ ?_)
            first | (refine Evo2.va ok 24 _ _ ?_) | (refine Evo2.vi ok 24 _ ?_)
            first | (refine Evo2.va ok 25 _ _ ?_) | (refine Evo2.vi ok 25 _ ?_)
            first | (refine Evo2.va ok 26 _ _ ?_) | (refine Evo2.vi ok 26 _ ?_)
            first | (refine Evo2.va ok 27 _ _ ?_) | (refine Evo2.vi ok 27 _ ?_)
            first | (refine Evo2.vl ok 28 KC.out (Chg.refl (fun _ => False) _) _ _ ?_) | (refine Evo2.va ok 28 _ _ ?_) | (refine Evo2.vi ok 28 _ ?_)
            first | (refine Evo2.va ok 29 _ _ ?_) | (refine Evo2.vi ok 29 _ ?_)
            first | (refine Evo2.vl ok 30 KC.out (Chg.refl (fun _ => False) _) _ _ ?_) | (refine Evo2.va ok 30 _ _ ?_) | (refine Evo2.vi ok 30 _ ?_)
            first | (refine Evo2.va ok 31 _ _ ?_) | (refine Evo2.vi ok 31 _ ?_)
            first | (refine Evo2.va ok 32 _ _ ?_) | (refine Evo2.vi ok 32 _ ?_)
            first | (refine Evo2.va ok 33 _ _ ?_) | (refine Evo2.vi ok 33 _ ?_)
            first | (refine Evo2.vl ok 34 KC.out (Chg.refl (fun _ => False) _) _ _ ?_) | (refine Evo2.va ok 34 _ _ ?_) | (refine Evo2.vi ok 34 _ ?_)
            first | (refine Evo2.va ok 35 _ _ ?_) | (refine Evo2.vi ok 35 _ ?_)
            first | (refine Evo2.va ok 36 _ _ ?_) | (refine Evo2.vi ok 36 _ ?_)
            refine Evo2.va ok 37 _ _ ?_
            refine Evo2.done (by decide +kernel) (fun wz gz => ?_)
            have AZ := Chg.trans (Chg.refl (fun _ => False) _) (Chg.grow gz)
            go_wp2_with fail
            go_roundw
            case rel => exact ⟨k + 1, by omega, by go_num, by rw [A3.out]; exact E, Lib.hid (G.out.trans (g0 AZ))⟩
            case measure => simp [intOf]; omega
          · obtain ⟨b', off', e', hc'⟩ := HT.out.at hp
            cases e'
            obtain ⟨p0, p1⟩ := hc' _ (G0.out.trans G.out)
            obtain ⟨pt, pr⟩ := p
            have A4 : Hid (preT m k = pt) := Lib.hid (by rw [hj]; unfold preT; simp [List.getD, hp])
            have ew : IntKind.i64.wrap ((k : Int) - 1) = (j : Int) := by rw [show ((k : Int) - 1) = (j : Int) by omega]; exact IntWalk.i64_in _ ⟨by omega, by omega⟩
            have j1 : (0 : Int) ≤ (j : Int) := by omega
            have j2 : (j : Int) < (m.length : Int) := by omega
            have d3 : decide (0 < k) = true := decide_eq_true (by omega)
            have d4 : decide ((k : Int) > 0) = true := decide_eq_true (by omega)
            clear hj
            dsimp only at *
            have KC := Lib.hid (fun (w' : World) (h : Chg (fun _ => False) wr w') => (⟨h.cell c0 id, h.cell c1 id, h.cell e1 id, h.cell p0 id, trivial⟩ : w'.cell? ⟨b, off + k * 2, none⟩ = some (.string tg) ∧ w'.cell? ⟨b, off + k * 2 + 1, none⟩ = some (.string rv) ∧ w'.cell? ⟨gb, 1, none⟩ = some (.slice (some ⟨b, off, none⟩) m.length c') ∧ w'.cell? ⟨b, off + j * 2, none⟩ = some (.string pt) ∧ True))
            clear hp hc' p1
            have HQ1 : Op.bytesLess pt.toList tg.toList = ltS pt tg := rfl
            obtain ⟨y, hy⟩ : ∃ y, ltS pt tg = y := ⟨_, rfl⟩
            have SO3 : Hid (R = (y && (ascT tg (m.drop (k + 1)) && q))) := Lib.hid (by rw [SO2.out, A4.out, hy])
            rw [hy] at HQ1
            clear hy SO2 A4 R1
            go_wp2_with fail
            refine Evo2.start' (ℓ := none) (S := Chg (fun _ => False)) (E := Grow.G) (by kernel_rfl) ⟨Chg.pre _, by decide +kernel, (by intro c a d v w h; cases d <;> exact h), by decide +kernel⟩ (fun ok => ?_)
            refine Evo2.va ok 0 _ _ ?_
            first | (refine Evo2.vl ok 1 KC.out (Chg.refl (fun _ => False) _) _ _ ?_) | (refine Evo2.va ok 1 _ _ ?_)
            refine Evo2.va ok 2 _ _ ?_
            refine Evo2.va ok 3 _ _ ?_
            refine Evo2.va ok 4 _ _ ?_
            first | (refine Evo2.vl ok 5 KC.out (Chg.refl (fun _ => False) _) _ _ ?_) | (refine Evo2.va ok 5 _ _ ?_)
            (refine Evo2.cal ok 6 ?_ 35 ?_ ?_ ?_ ?_; rotate_left 2; (focus (intro w'; go_simp <;> with_reducible rfl)); (focus (intro w' g'; with_reducible exact TG.out w')); simp only [Act.put, L0, L1, L2])
            refine Evo2.va ok 7 _ _ ?_
            refine Evo2.va ok 8 _ _ ?_
            first | (refine Evo2.va ok 9 _ _ ?_) | (refine Evo2.vi ok 9 _ ?_)
            first | (refine Evo2.vl ok 10 KC.out (Chg.refl (fun _ => False) _) _ _ ?_) | (refine Evo2.va ok 10 _ _ ?_) | (refine Evo2.vi ok 10 _ ?_)
            first | (refine Evo2.va ok 11 _ _ ?_) | (refine Evo2.vi ok 11 _ ?_)
            first | (refine Evo2.va ok 12 _ _ ?_) | (refine Evo2.vi ok 12 _ ?_)
            first | (refine Evo2.va ok 13 _ _ ?_) | (refine Evo2.vi ok 13 _ ?_)
            first | (refine Evo2.vl ok 14 KC.out (Chg.refl (fun _ => False) _) _ _ ?_) | (refine Evo2.va ok 14 _ _ ?_) | (refine Evo2.vi ok 14 _ ?_)
            first | (refine Evo2.cal ok 15 ?_ 36 ?_ ?_ ?_ ?_; rotate_left 2; (focus (intro w'; go_simp <;> with_reducible rfl)); (focus (intro w' g'; with_reducible exact RV.out w')); simp only [Act.put, L0, L1, L2]) | (refine Evo2.vi ok 15 _ ?_)
            first | (refine Evo2.va ok 16 _ _ ?_) | (refine Evo2.vi ok 16 _ ?_)
            refine Evo2.va ok 17 _ _ ?_
            refine Evo2.va ok 18 _ _ ?_
            first | (refine Evo2.va ok 19 _ _ ?_) | (refine Evo2.vi ok 19 _ ?_)
            first | (refine Evo2.va ok 20 _ _ ?_) | (refine Evo2.vi ok 20 _ ?_)
            first | (refine Evo2.va ok 21 _ _ ?_) | (refine Evo2.vi ok 21 _ ?_)
            first | (refine Evo2.va ok 22 _ _ ?_) | (refine Evo2.vi ok 22 _ ?_)
            first | (refine Evo2.vl ok 23 KC.out (Chg.refl (fun _ => False) _) _ _ ?_) | (refine Evo2.va ok 23 _ _ ?_) | (refine Evo2.vi ok 23 _ ?_)
            first | (refine Evo2.va ok 24 _ _ ?_) | (refine Evo2.vi ok 24 _ ?_)
            first | (refine Evo2.va ok 25 _ _ ?_) | (refine Evo2.vi ok 25 _ ?_)
            first | (refine Evo2.va ok 26 _ _ ?_) | (refine Evo2.vi ok 26 _ ?_)
            first | (refine Evo2.va ok 27 _ _ ?_) | (refine Evo2.vi ok 27 _ ?_)
            first | (refine Evo2.vl ok 28 KC.out (Chg.refl (fun _ => False) _) _ _ ?_) | (refine Evo2.va ok 28 _ _ ?_) | (refine Evo2.vi ok 28 _ ?_)
            first | (refine Evo2.va ok 29 _ _ ?_) | (refine Evo2.vi ok 29 _ ?_)
            first | (refine Evo2.vl ok 30 KC.out (Chg.refl (fun _ => False) _) _ _ ?_) | (refine Evo2.va ok 30 _ _ ?_) | (refine Evo2.vi ok 30 _ ?_)
            first | (refine Evo2.va ok 31 _ _ ?_) | (refine Evo2.vi ok 31 _ ?_)
            first | (refine Evo2.va ok 32 _ _ ?_) | (refine Evo2.vi ok 32 _ ?_)
            first | (refine Evo2.va ok 33 _ _ ?_) | (refine Evo2.vi ok 33 _ ?_)
            first | (refine Evo2.vl ok 34 KC.out (Chg.refl (fun _ => False) _) _ _ ?_) | (refine Evo2.va ok 34 _ _ ?_) | (refine Evo2.vi ok 34 _ ?_)
            first | (refine Evo2.va ok 35 _ _ ?_) | (refine Evo2.vi ok 35 _ ?_)
            first | (refine Evo2.va ok 36 _ _ ?_) | (refine Evo2.vi ok 36 _ ?_)
            refine Evo2.va ok 37 _ _ ?_
            refine Evo2.done (by decide +kernel) (fun wz gz => ?_)
            have AZ := Chg.trans (Chg.refl (fun _ => False) _) (Chg.grow gz)
            cases y with
            | true =>
              go_wp2_with fail
              go_roundw
              case rel => exact ⟨k + 1, by omega, by go_num, by rw [A3.out]; exact Lib.hid (by rw [SO3.out]; rfl), Lib.hid (G.out.trans (g0 AZ))⟩
              case measure => simp [intOf]; omega
            | false =>
              go_wp2_with fail
              go_ret
              exact ⟨ret_bool (by rw [SO3.out]; rfl), (G0.out.trans G.out).trans (g0 AZ)⟩
        · have t1 : revTB rv = false := by simpa using t1
          rw [t1] at RV
          have E : Hid (R = false) := Lib.hid (by rw [SB.out, A1.out, tagOk, t1]; simp)
          clear t0 t1
          go_wp2_with fail
          refine Evo2.start' (ℓ := none) (S := Chg (fun _ => False)) (E := Grow.G) (by kernel_rfl) ⟨Chg.pre _, by decide +kernel, (by intro c a d v w h; cases d <;> exact h), by decide +kernel⟩ (fun ok => ?_)
          refine Evo2.va ok 0 _ _ ?_
          first | (refine Evo2.vl ok 1 KC.out (Chg.refl (fun _ => False) _) _ _ ?_) | (refine Evo2.va ok 1 _ _ ?_)
          refine Evo2.va ok 2 _ _ ?_
          refine Evo2.va ok 3 _ _ ?_
          refine Evo2.va ok 4 _ _ ?_
          first | (refine Evo2.vl ok 5 KC.out (Chg.refl (fun _ => False) _) _ _ ?_) | (refine Evo2.va ok 5 _ _ ?_)
          (refine Evo2.cal ok 6 ?_ 35 ?_ ?_ ?_ ?_; rotate_left 2; (focus (intro w'; go_simp <;> with_reducible rfl)); (focus (intro w' g'; with_reducible exact TG.out w')); simp only [Act.put, L0, L1, L2])
          refine Evo2.va ok 7 _ _ ?_
          refine Evo2.va ok 8 _ _ ?_
          first | (refine Evo2.va ok 9 _ _ ?_) | (refine Evo2.vi ok 9 _ ?_)
          first | (refine Evo2.vl ok 10 KC.out (Chg.refl (fun _ => False) _) _ _ ?_) | (refine Evo2.va ok 10 _ _ ?_) | (refine Evo2.vi ok 10 _ ?_)
          first | (refine Evo2.va ok 11 _ _ ?_) | (refine Evo2.vi ok 11 _ ?_)
          first | (refine Evo2.va ok 12 _ _ ?_) | (refine Evo2.vi ok 12 _ ?_)
          first | (refine Evo2.va ok 13 _ _ ?_) | (refine Evo2.vi ok 13 _ ?_)
          first | (refine Evo2.vl ok 14 KC.out (Chg.refl (fun _ => False) _) _ _ ?_) | (refine Evo2.va ok 14 _ _ ?_) | (refine Evo2.vi ok 14 _ ?_)
          first | (refine Evo2.cal ok 15 ?_ 36 ?_ ?_ ?_ ?_; rotate_left 2; (focus (intro w'; go_simp <;> with_reducible rfl)); (focus (intro w' g'; with_reducible exact RV.out w')); simp only [Act.put, L0, L1, L2]) | (refine Evo2.vi ok 15 _ ?_)
          first | (refine Evo2.va ok 16 _ _ ?_) | (refine Evo2.vi ok 16 _ ?_)
          refine Evo2.va ok 17 _ _ ?_
          refine Evo2.va ok 18 _ _ ?_
          first | (refine Evo2.va ok 19 _ _ ?_) | (refine Evo2.vi ok 19 _ ?_)
          first | (refine Evo2.va ok 20 _ _ ?_) | (refine Evo2.vi ok 20 _ ?_)
          first | (refine Evo2.va ok 21 _ _ ?_) | (refine Evo2.vi ok 21 _ ?_)
          first | (refine Evo2.va ok 22 _ _ ?_) | (refine Evo2.vi ok 22 _ ?_)
          first | (refine Evo2.vl ok 23 KC.out (Chg.refl (fun _ => False) _) _ _ ?_) | (refine Evo2.va ok 23 _ _ ?_) | (refine Evo2.vi ok 23 _ ?_)
          first | (refine Evo2.va ok 24 _ _ ?_) | (refine Evo2.vi ok 24 _ ?_)
          first | (refine Evo2.va ok 25 _ _ ?_) | (refine Evo2.vi ok 25 _ ?_)
          first | (refine Evo2.va ok 26 _ _ ?_) | (refine Evo2.vi ok 26 _ ?_)
          first | (refine Evo2.va ok 27 _ _ ?_) | (refine Evo2.vi ok 27 _ ?_)
          first | (refine Evo2.vl ok 28 KC.out (Chg.refl (fun _ => False) _) _ _ ?_) | (refine Evo2.va ok 28 _ _ ?_) | (refine Evo2.vi ok 28 _ ?_)
          first | (refine Evo2.va ok 29 _ _ ?_) | (refine Evo2.vi ok 29 _ ?_)
          first | (refine Evo2.vl ok 30 KC.out (Chg.refl (fun _ => False) _) _ _ ?_) | (refine Evo2.va ok 30 _ _ ?_) | (refine Evo2.vi ok 30 _ ?_)
          first | (refine Evo2.va ok 31 _ _ ?_) | (refine Evo2.vi ok 31 _ ?_)
          first | (refine Evo2.va ok 32 _ _ ?_) | (refine Evo2.vi ok 32 _ ?_)
          first | (refine Evo2.va ok 33 _ _ ?_) | (refine Evo2.vi ok 33 _ ?_)
          first | (refine Evo2.vl ok 34 KC.out (Chg.refl (fun _ => False) _) _ _ ?_) | (refine Evo2.va ok 34 _ _ ?_) | (refine Evo2.vi ok 34 _ ?_)
          first | (refine Evo2.va ok 35 _ _ ?_) | (refine Evo2.vi ok 35 _ ?_)
          first | (refine Evo2.va ok 36 _ _ ?_) | (refine Evo2.vi ok 36 _ ?_)
          refine Evo2.va ok 37 _ _ ?_
          refine Evo2.done (by decide +kernel) (fun wz gz => ?_)
          have AZ := Chg.trans (Chg.refl (fun _ => False) _) (Chg.grow gz)
          go_wp2_with fail
          go_ret
          exact ⟨ret_bool E.out.symm, (G0.out.trans G.out).trans (g0 AZ)⟩
      · have t0 : nameB 8 tg = false := by simpa using t0
        rw [t0] at TG
        have E : Hid (R = false) := Lib.hid (by rw [SB.out, A1.out, tagOk, t0]; simp)
        clear t0
        go_wp2_with fail
        refine Evo2.start' (ℓ := none) (S := Chg (fun _ => False)) (E := Grow.G) (by kernel_rfl) ⟨Chg.pre _, by decide +kernel, (by intro c a d v w h; cases d <;> exact h), by decide +kernel⟩ (fun ok => ?_)
        refine Evo2.va ok 0 _ _ ?_
        first | (refine Evo2.vl ok 1 KC.out (Chg.refl (fun _ => False) _) _ _ ?_) | (refine Evo2.va ok 1 _ _ ?_)
        refine Evo2.va ok 2 _ _ ?_
        refine Evo2.va ok 3 _ _ ?_
        refine Evo2.va ok 4 _ _ ?_
        first | (refine Evo2.vl ok 5 KC.out (Chg.refl (fun _ => False) _) _ _ ?_) | (refine Evo2.va ok 5 _ _ ?_)
        (refine Evo2.cal ok 6 ?_ 35 ?_ ?_ ?_ ?_; rotate_left 2; (focus (intro w'; go_simp <;> with_reducible rfl)); (focus (intro w' g'; with_reducible exact TG.out w')); simp only [Act.put, L0, L1, L2])
        refine Evo2.va ok 7 _ _ ?_
        refine Evo2.va ok 8 _ _ ?_
        first | (refine Evo2.va ok 9 _ _ ?_) | (refine Evo2.vi ok 9 _ ?_)
        first | (refine Evo2.vl ok 10 KC.out (Chg.refl (fun _ => False) _) _ _ ?_) | (refine Evo2.va ok 10 _ _ ?_) | (refine Evo2.vi ok 10 _ ?_)
        first | (refine Evo2.va ok 11 _ _ ?_) | (refine Evo2.vi ok 11 _ ?_)
        first | (refine Evo2.va ok 12 _ _ ?_) | (refine Evo2.vi ok 12 _ ?_)
        first | (refine Evo2.va ok 13 _ _ ?_) | (refine Evo2.vi ok 13 _ ?_)
        first | (refine Evo2.vl ok 14 KC.out (Chg.refl (fun _ => False) _) _ _ ?_) | (refine Evo2.va ok 14 _ _ ?_) | (refine Evo2.vi ok 14 _ ?_)
        first | (refine Evo2.cal ok 15 ?_ 36 ?_ ?_ ?_ ?_; rotate_left 2; (focus (intro w'; go_simp <;> with_reducible rfl)); (focus (intro w' g'; with_reducible exact RV.out w')); simp only [Act.put, L0, L1, L2]) | (refine Evo2.vi ok 15 _ ?_)
        first | (refine Evo2.va ok 16 _ _ ?_) | (refine Evo2.vi ok 16 _ ?_)
        refine Evo2.va ok 17 _ _ ?_
        refine Evo2.va ok 18 _ _ ?_
        first | (refine Evo2.va ok 19 _ _ ?_) | (refine Evo2.vi ok 19 _ ?_)
        first | (refine Evo2.va ok 20 _ _ ?_) | (refine Evo2.vi ok 20 _ ?_)
        first | (refine Evo2.va ok 21 _ _ ?_) | (refine Evo2.vi ok 21 _ ?_)
        first | (refine Evo2.va ok 22 _ _ ?_) | (refine Evo2.vi ok 22 _ ?_)
        first | (refine Evo2.vl ok 23 KC.out (Chg.refl (fun _ => False) _) _ _ ?_) | (refine Evo2.va ok 23 _ _ ?_) | (refine Evo2.vi ok 23 _ ?_)
        first | (refine Evo2.va ok 24 _ _ ?_) | (refine Evo2.vi ok 24 _ ?_)
        first | (refine Evo2.va ok 25 _ _ ?_) | (refine Evo2.vi ok 25 _ ?_)
        first | (refine Evo2.va ok 26 _ _ ?_) | (refine Evo2.vi ok 26 _ ?_)
        first | (refine Evo2.va ok 27 _ _ ?_) | (refine Evo2.vi ok 27 _ ?_)
        first | (refine Evo2.vl ok 28 KC.out (Chg.refl (fun _ => False) _) _ _ ?_) | (refine Evo2.va ok 28 _ _ ?_) | (refine Evo2.vi ok 28 _ ?_)
        first | (refine Evo2.va ok 29 _ _ ?_) | (refine Evo2.vi ok 29 _ ?_)
        first | (refine Evo2.vl ok 30 KC.out (Chg.refl (fun _ => False) _) _ _ ?_) | (refine Evo2.va ok 30 _ _ ?_) | (refine Evo2.vi ok 30 _ ?_)
        first | (refine Evo2.va ok 31 _ _ ?_) | (refine Evo2.vi ok 31 _ ?_)
        first | (refine Evo2.va ok 32 _ _ ?_) | (refine Evo2.vi ok 32 _ ?_)
        first | (refine Evo2.va ok 33 _ _ ?_) | (refine Evo2.vi ok 33 _ ?_)
        first | (refine Evo2.vl ok 34 KC.out (Chg.refl (fun _ => False) _) _ _ ?_) | (refine Evo2.va ok 34 _ _ ?_) | (refine Evo2.vi ok 34 _ ?_)
        first | (refine Evo2.va ok 35 _ _ ?_) | (refine Evo2.vi ok 35 _ ?_)
        first | (refine Evo2.va ok 36 _ _ ?_) | (refine Evo2.vi ok 36 _ ?_)
        refine Evo2.va ok 37 _ _ ?_
        refine Evo2.done (by decide +kernel) (fun wz gz => ?_)
        have AZ := Chg.trans (Chg.refl (fun _ => False) _) (Chg.grow gz)
        go_wp2_with fail
        go_ret
        exact ⟨ret_bool E.out.symm, (G0.out.trans G.out).trans (g0 AZ)⟩
    · have E : Hid (R = q) := Lib.hid (by rw [SB.out, List.drop_eq_nil_of_le (by omega)]; rfl)
      have d0 : decide ((k : Int) < (m.length : Int)) = false := decide_eq_false (by omega)
      go_wp2_with fail
      refine (SO.out _ (HS.out.later (G0.out.trans G.out))).mono ?_
      rintro e w1 ⟨rfl, hb⟩
      go_wp2_with fail
      go_ret
      exact ⟨ret_bool E.out.symm, (G0.out.trans G.out).trans hb⟩
end Go.Proofs.Ytjhfjjkfnmnkgaa

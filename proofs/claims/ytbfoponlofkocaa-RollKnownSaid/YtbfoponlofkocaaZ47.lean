/- My own texts Tab13, laid in one file. -/
import Derived.Test.YtbfoponlofkocaaZ43

/- A table's text: damperref5.Text. -/
namespace Go.Proofs.Ytbfoponlofkocaa
set_option maxRecDepth 100000
set_option linter.unusedVariables false
set_option linter.unusedSimpArgs false
set_option linter.unnecessarySimpa false
open Go.RowKit Go.Args

/-- A blank, and a row, for each row. -/
def runL (rs : List R3) : List UInt8 := Lib.joinTail [32] (rs.map (·.t.data.toList))
theorem runL_step {rs : List R3} {k : Nat} {r : R3} (h : rs[k]? = some r) : runL (rs.take (k + 1)) = runL (rs.take k) ++ [32] ++ (r.x.data.toList ++ (r.y.data.toList ++ r.z.data.toList)) := by
  unfold runL
  rw [List.map_take, List.map_take, Lib.joinTail_take_succ [32] _ k r.t.data.toList (by rw [List.getElem?_map, h]; rfl), R3.t_list]
theorem runL_text (l : List Shr) (m : List Tgo) : textB l m = ⟨((runL (rowsL l m)).drop 1).toArray⟩ := by
  unfold textB runL wordsL
  rw [List.map_map]
  show (⟨(Lib.join ((rowsL l m).map (·.t.data.toList)) [32]).toArray⟩ : ByteArray) = _
  cases rowsL l m with
  | nil => rfl
  | cons r rs => rw [List.map_cons, Lib.join_cons]; rfl
theorem toList_app (a b : ByteArray) : (a ++ b).data.toList = a.data.toList ++ b.data.toList := by simp [ByteArray.data_append]
theorem runL_size (l : List Shr) (m : List Tgo) (h : Small l) (h' : SmallT m) (k : Nat) : (runL ((rowsL l m).take k)).length ≤ 1000000000 := by
  have hk : ((rowsL l m).take k).length ≤ 2000 := by rw [List.length_take, rowsL_len]; have := h.1; have := h'.1; omega
  have hs : ∀ r, r ∈ (rowsL l m).take k → r.t.size ≤ 200001 := by
    intro r hr
    have := row_small h h' (List.mem_of_mem_take hr)
    have := r.t_size
    omega
  generalize (rowsL l m).take k = rs at *
  unfold runL
  rw [Lib.joinTail_length]
  have hle := lens_le 200001 (rs.map (·.t.data.toList)) (fun x hx => by
    rw [List.mem_map] at hx
    obtain ⟨y, hy, rfl⟩ := hx
    exact hs y hy)
  rw [List.length_map] at *
  have : ([32] : List UInt8).length = 1 := rfl
  rw [this]
  omega
theorem ext_one (s : ByteArray) : s.extract 1 s.size = ⟨(s.data.toList.drop 1).toArray⟩ := by
  apply ByteArray.ext
  rw [ByteArray.data_extract]
  apply Array.toList_inj.1
  rw [Array.toList_extract, List.extract_eq_take_drop]
  exact List.take_of_length_le (by rw [List.length_drop]; exact Nat.le_refl _)
set_option maxHeartbeats 12000000 in
theorem rtext_any (a : Option Addr) (l : List Shr) (c : Nat) (a' : Option Addr) (m : List Tgo) (c' : Nat) (w : World) (h1 : ShSl w a l) (h2 : TgSl w a' m) (s1 : Small l) (s2 : SmallT m) :
    Calls Try.prog 22 #[tabV a l.length c a' m.length c'] w fun e w' => e = .returned (.string (textB l m)) ∧ Grow.G w w' := by
  have HS := Lib.hid h1
  have HT := Lib.hid h2
  have HM := Lib.hid s1
  have hm := s2.1
  have hll := s1.1
  have RT := Lib.hid (runL_text l m)
  have RZ := Lib.hid (fun k => runL_size l m s1 s2 k)
  have RL := rowsL_len l m
  clear h1 h2 s1 s2
  unfold tabV
  go_enter Try.func22, Try.ntmps22
  go_wp2_with fail
  have B0 := Lib.hid (Blk.new w #[Value.slice a l.length c, Value.slice a' m.length c'] 44)
  obtain ⟨W0, hW0⟩ : ∃ W0, W0 = w.alloc (.cells #[Value.slice a l.length c, Value.slice a' m.length c'] 44) := ⟨_, rfl⟩
  rw [← hW0] at B0 ⊢
  have G0 : Hid (Grow.G w W0) := Lib.hid (by rw [hW0]; exact Grow.G.alloc (Grow.G.refl _) _)
  clear hW0
  generalize w.heap.size = gb at *
  go_loopw [3, 4] (fun sv i wr => ∃ (k : Nat) (s : ByteArray), k ≤ l.length ∧ sv = .string s ∧ i = .int .i64 k ∧ s.size ≤ 1000000000 ∧ Hid (s.data.toList = runL ((rowsL l m).take k)) ∧ Hid (Grow.G W0 wr)) (fun _ i _ => l.length - (intOf i).toNat)
  case atStart => exact ⟨0, ⟨#[]⟩, by omega, rfl, rfl, by decide, Lib.hid rfl, Lib.hid (Grow.G.refl _)⟩
  case round =>
    obtain ⟨k, s, hk, rfl, rfl, hsz, P, G⟩ := hrel
    have Bk := B0.out.grow G.out
    have e0 := Blk.at (cs := [Value.slice a l.length c, Value.slice a' m.length c']) (k := 0) Bk rfl
    have e1 := Blk.at (cs := [Value.slice a l.length c, Value.slice a' m.length c']) (k := 1) Bk rfl
    by_cases hlt : k < l.length
    · obtain ⟨x, hs⟩ : ∃ x, l[k]? = some x := ⟨_, List.getElem?_eq_getElem hlt⟩
      obtain ⟨b, off, rfl, hc⟩ := HS.out.at hs
      obtain ⟨c0, c1⟩ := hc _ (G0.out.trans G.out)
      have hsm := HM.out.2 x (List.mem_of_getElem? hs)
      have A1 := Lib.hid (runL_step (rowsL_sh (m := m) hs))
      obtain ⟨rv, n⟩ := x
      unfold rowS at A1
      dsimp only at *
      clear hs hc
      have d0 : decide ((k : Int) < (l.length : Int)) = true := decide_eq_true (by omega)
      have hk1 : IntKind.i64.wrap ((k : Int) + 1) = (k : Int) + 1 := IntWalk.i64_in _ ⟨by omega, by omega⟩
      have k1 : (0 : Int) ≤ (k : Int) := by omega
      have k2 : (k : Int) < (l.length : Int) := by omega
      have DG := Lib.hid (fun w => digits_any n w (by omega) (by omega))
      have Y : Hid ((s ++ ⟨#[32]⟩ ++ rv ++ ⟨#[58]⟩ ++ digS n.toNat).data.toList = runL ((rowsL l m).take (k + 1))) := Lib.hid (by
        rw [A1.out, ← P.out]
        simp only [toList_app]
        simp)
      have Z := RZ.out (k + 1)
      rw [← Y.out] at Z
      have Z : (s ++ ⟨#[32]⟩ ++ rv ++ ⟨#[58]⟩ ++ digS n.toNat).size ≤ 1000000000 := Z
      have Z1 : s.size + 1 + rv.size + 1 + (digS n.toNat).size ≤ 1000000000 := by
        simp only [ByteArray.size_append] at Z
        exact Z
      have Z := Lib.hid Z
      have KC := Lib.hid (fun (w' : World) (h : Chg (fun _ => False) wr w') => (⟨h.cell c0 id, h.cell c1 id, h.cell e0 id, trivial⟩ : w'.cell? ⟨b, off + k * 2, none⟩ = some (.string rv) ∧ w'.cell? ⟨b, off + k * 2 + 1, none⟩ = some (.int .i64 n) ∧ w'.cell? ⟨gb, 0, none⟩ = some (.slice (some ⟨b, off, none⟩) l.length c) ∧ True))
      clear Bk A1
      generalize digS n.toNat = dg at *
      go_wp2_with fail
      refine Evo2.start' (ℓ := none) (S := Chg (fun _ => False)) (E := Grow.G) (by kernel_rfl) ⟨Chg.pre _, by decide +kernel, (by intro c a d v w h; cases d <;> exact h), by decide +kernel⟩ (fun ok => ?_)
      refine Evo2.va ok 0 _ _ ?_
      refine Evo2.va ok 1 _ _ ?_
      refine Evo2.va ok 2 _ _ ?_
      first | (refine Evo2.vl ok 3 KC.out (Chg.refl (fun _ => False) _) _ _ ?_) | (refine Evo2.va ok 3 _ _ ?_)
      refine Evo2.va ok 4 _ _ ?_
      refine Evo2.va ok 5 _ _ ?_
      refine Evo2.va ok 6 _ _ ?_
      first | (refine Evo2.vl ok 7 KC.out (Chg.refl (fun _ => False) _) _ _ ?_) | (refine Evo2.va ok 7 _ _ ?_)
      refine Evo2.va ok 8 _ _ ?_
      refine Evo2.va ok 9 _ _ ?_
      refine Evo2.va ok 10 _ _ ?_
      first | (refine Evo2.vl ok 11 KC.out (Chg.refl (fun _ => False) _) _ _ ?_) | (refine Evo2.va ok 11 _ _ ?_)
      refine Evo2.va ok 12 _ _ ?_
      refine Evo2.va ok 13 _ _ ?_
      refine Evo2.va ok 14 _ _ ?_
      first | (refine Evo2.vl ok 15 KC.out (Chg.refl (fun _ => False) _) _ _ ?_) | (refine Evo2.va ok 15 _ _ ?_)
      (refine Evo2.cal ok 16 ?_ 32 ?_ ?_ ?_ ?_; rotate_left 2; (focus (intro w'; go_simp <;> with_reducible rfl)); (focus (intro w' g'; with_reducible exact DG.out w')); simp only [Act.put, L0, L1, L2])
      refine Evo2.va ok 17 _ _ ?_
      refine Evo2.va ok 18 _ _ ?_
      refine Evo2.done (by decide +kernel) (fun wz gz => ?_)
      have AZ := Chg.trans (Chg.refl (fun _ => False) _) (Chg.grow gz)
      go_wp2_with fail
      go_roundw
      case rel => exact ⟨k + 1, _, by omega, rfl, by go_num, Z.out, Y, Lib.hid (G.out.trans (g0 AZ))⟩
      case measure => simp [intOf]; omega
    · have d0 : decide ((k : Int) < (l.length : Int)) = false := decide_eq_false (by omega)
      have ek : k = l.length := by omega
      subst ek
      clear hlt hk Bk
      go_wp2_with fail
      go_loopw [3, 5] (fun sv i wr => ∃ (k : Nat) (s : ByteArray), k ≤ m.length ∧ sv = .string s ∧ i = .int .i64 k ∧ s.size ≤ 1000000000 ∧ Hid (s.data.toList = runL ((rowsL l m).take (l.length + k))) ∧ Hid (Grow.G W0 wr)) (fun _ i _ => m.length - (intOf i).toNat)
      case atStart => exact ⟨0, s, by omega, rfl, rfl, hsz, P, G⟩
      case round =>
        clear P hsz G e0 e1
        obtain ⟨k, s, hk, rfl, rfl, hsz, P, G⟩ := hrel
        have Bk := B0.out.grow G.out
        have e1 := Blk.at (cs := [Value.slice a l.length c, Value.slice a' m.length c']) (k := 1) Bk rfl
        by_cases hlt : k < m.length
        · obtain ⟨x, hs⟩ : ∃ x, m[k]? = some x := ⟨_, List.getElem?_eq_getElem hlt⟩
          obtain ⟨b, off, rfl, hc⟩ := HT.out.at hs
          obtain ⟨c0, c1⟩ := hc _ (G0.out.trans G.out)
          have A1 := Lib.hid (runL_step (rowsL_tg (l := l) hs))
          obtain ⟨tg, rv⟩ := x
          unfold rowT at A1
          dsimp only at *
          clear hs hc
          have d0 : decide ((k : Int) < (m.length : Int)) = true := decide_eq_true (by omega)
          have hk1 : IntKind.i64.wrap ((k : Int) + 1) = (k : Int) + 1 := IntWalk.i64_in _ ⟨by omega, by omega⟩
          have k1 : (0 : Int) ≤ (k : Int) := by omega
          have k2 : (k : Int) < (m.length : Int) := by omega
          have Y : Hid ((s ++ ⟨#[32]⟩ ++ tg ++ ⟨#[61]⟩ ++ rv).data.toList = runL ((rowsL l m).take (l.length + (k + 1)))) := Lib.hid (by
            rw [← Nat.add_assoc, A1.out, ← P.out]
            simp only [toList_app]
            simp)
          have Z := RZ.out (l.length + (k + 1))
          rw [← Y.out] at Z
          have Z : (s ++ ⟨#[32]⟩ ++ tg ++ ⟨#[61]⟩ ++ rv).size ≤ 1000000000 := Z
          have Z1 : s.size + 1 + tg.size + 1 + rv.size ≤ 1000000000 := by
            simp only [ByteArray.size_append] at Z
            exact Z
          have Z := Lib.hid Z
          have KC := Lib.hid (fun (w' : World) (h : Chg (fun _ => False) wr w') => (⟨h.cell c0 id, h.cell c1 id, h.cell e1 id, trivial⟩ : w'.cell? ⟨b, off + k * 2, none⟩ = some (.string tg) ∧ w'.cell? ⟨b, off + k * 2 + 1, none⟩ = some (.string rv) ∧ w'.cell? ⟨gb, 1, none⟩ = some (.slice (some ⟨b, off, none⟩) m.length c') ∧ True))
          clear Bk A1
          go_wp2_with fail
          refine Evo2.start' (ℓ := none) (S := Chg (fun _ => False)) (E := Grow.G) (by kernel_rfl) ⟨Chg.pre _, by decide +kernel, (by intro c a d v w h; cases d <;> exact h), by decide +kernel⟩ (fun ok => ?_)
          refine Evo2.va ok 0 _ _ ?_
          refine Evo2.va ok 1 _ _ ?_
          refine Evo2.va ok 2 _ _ ?_
          first | (refine Evo2.vl ok 3 KC.out (Chg.refl (fun _ => False) _) _ _ ?_) | (refine Evo2.va ok 3 _ _ ?_)
          refine Evo2.va ok 4 _ _ ?_
          refine Evo2.va ok 5 _ _ ?_
          refine Evo2.va ok 6 _ _ ?_
          first | (refine Evo2.vl ok 7 KC.out (Chg.refl (fun _ => False) _) _ _ ?_) | (refine Evo2.va ok 7 _ _ ?_)
          refine Evo2.va ok 8 _ _ ?_
          refine Evo2.va ok 9 _ _ ?_
          refine Evo2.va ok 10 _ _ ?_
          first | (refine Evo2.vl ok 11 KC.out (Chg.refl (fun _ => False) _) _ _ ?_) | (refine Evo2.va ok 11 _ _ ?_)
          refine Evo2.va ok 12 _ _ ?_
          refine Evo2.va ok 13 _ _ ?_
          refine Evo2.va ok 14 _ _ ?_
          first | (refine Evo2.vl ok 15 KC.out (Chg.refl (fun _ => False) _) _ _ ?_) | (refine Evo2.va ok 15 _ _ ?_)
          refine Evo2.va ok 16 _ _ ?_
          refine Evo2.va ok 17 _ _ ?_
          refine Evo2.done (by decide +kernel) (fun wz gz => ?_)
          have AZ := Chg.trans (Chg.refl (fun _ => False) _) (Chg.grow gz)
          go_wp2_with fail
          go_roundw
          case rel => exact ⟨k + 1, _, by omega, rfl, by go_num, Z.out, Y, Lib.hid (G.out.trans (g0 AZ))⟩
          case measure => simp [intOf]; omega
        · have d0 : decide ((k : Int) < (m.length : Int)) = false := decide_eq_false (by omega)
          have ek : k = m.length := by omega
          subst ek
          rw [← RL, List.take_length] at P
          have RT2 := RT.out
          rw [← P.out] at RT2
          have RT3 := Lib.hid RT2
          clear RT2 P Bk
          by_cases hs0 : s = ⟨#[]⟩
          · subst hs0
            go_wp2_with fail
            go_ret
            exact ⟨ret_str RT3.out.symm, G0.out.trans G.out⟩
          · have d1 : s.toList.isEmpty = false := by
              rw [ByteArray.toList_eq, List.isEmpty_eq_false_iff]
              exact fun e => hs0 (ByteArray.ext (Array.toList_inj.1 e))
            have s1 : 1 ≤ s.size := by
              rcases Nat.eq_zero_or_pos s.size with h | h
              · exact (hs0 (by apply ByteArray.ext; exact Array.eq_empty_of_size_eq_zero h)).elim
              · exact h
            go_wp2_with fail
            go_ret
            refine ⟨ret_str ?_, G0.out.trans G.out⟩
            rw [RT3.out]
            exact (ext_one s)
end Go.Proofs.Ytbfoponlofkocaa

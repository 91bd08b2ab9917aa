
/- The walk of EventPieces. -/
import Derived.Test.YtnkekdmikopdgaaZ16
import Derived.Test.YtnkekdmikopdgaaPiecesD
namespace Go.Proofs.Ytnkekdmikopdgaa
set_option maxRecDepth 100000
set_option linter.unusedVariables false
set_option linter.unusedSimpArgs false
set_option linter.unnecessarySimpa false
open Go.RowKit

set_option maxHeartbeats 8000000 in
theorem walkEventPieces (w : World) (a : Option Addr) (zs : List Int) (cap : Nat) (hb : ByAt w a zs ∧ Bts zs ∧ zs.length ≤ 140737488351232 ∧ zs.length ≤ cap) :
    Calls Try.prog 3 #[.slice a zs.length cap] w fun e w' => e = .returned (.bool true) ∧ Below w.heap.size w w' := by
  by_cases h4 : 400 < zs.length
  · go_enter Try.func3, Try.ntmps3
    go_wp2_with fail
    refine (known3_any _).mono ?_
    rintro e w1 ⟨rfl, hb1⟩
    go_wp2_with fail
    go_ret
    exact ⟨rfl, hb1⟩
  have HP := Lib.hid (by_pz hb.1 hb.2.2.2)
  have HB := Lib.hid hb.2.1
  have hcap := hb.2.2.2
  clear hb
  go_enter Try.func3, Try.ntmps3
  go_wp2_with fail
  refine (known3_any _).mono ?_
  rintro e wn1 ⟨rfl, hb1⟩
  have HB1 := Lib.hid hb1
  have S1 := Lib.hid (HP.out.grow hb1).src
  clear hb1
  go_wp2_with (at_builtin; refine wpList_copybs rfl _ _ rfl rfl (by first | (with_reducible rfl) | (simp; done)) zs rfl rfl S1.out (by omega) ?_)
  intro s4 c4 wn4 ho4 hg4 hs4
  have G4 := Lib.hid (HB1.out.trans hg4)
  have hpos : 0 < wn4.heap.size := by omega
  have EC := Lib.hid (OwnB.ecut ho4 hpos HB.out (by omega))
  clear ho4 hg4 S1
  go_wp2_with fail
  refine EC.out.mono ?_
  rintro e w5 ⟨lv, rfl, px, g5⟩
  obtain ⟨la, lc, rfl⟩ := px.shape
  have hL : (cutE zs).length ≤ 400 := Nat.le_trans (cut_len _ zs (Nat.le_refl _)) (by omega)
  have HPX := Lib.hid px
  have G5 := Lib.hid (G4.out.trans g5)
  obtain ⟨L, hL2⟩ : ∃ L, cutE zs = L := ⟨_, rfl⟩
  rw [hL2] at HPX hL ⊢
  have HL := Lib.hid hL2
  clear px g5 EC G4 hpos HB1 hL2
  go_wp2_with fail
  go_loopw [4, 5] (fun av ii wr => ∃ i p : Nat, i ≤ L.length ∧ p ≤ zs.length ∧ ii = .int .i64 i ∧ av = .int .i64 p ∧ Hid (CutIs zs i p ∧ Grow.G w5 wr)) (fun _ ii _ => L.length - (intOf ii).toNat)
  case atStart => exact ⟨0, 0, by omega, by omega, rfl, rfl, Lib.hid ⟨CutIs.zero zs, Grow.G.refl _⟩⟩
  case round =>
    obtain ⟨i, p, hi, hp, rfl, rfl, SI⟩ := hrel
    by_cases hlt : i < L.length
    rotate_left
    · obtain rfl : i = L.length := by omega
      have HC := Lib.hid SI.out.1
      rw [← HL.out] at HC
      obtain rfl := HC.out.done hp
      have GE := Lib.hid (G5.out.trans SI.out.2)
      clear SI HC HPX
      go_wp2_with fail
      go_ret
      exact ⟨rfl, GE.out⟩
    obtain ⟨ci, gr⟩ := SI.out
    have hlt2 : i < (cutE zs).length := by rw [HL.out]; exact hlt
    have hpz := ci.more hlt2
    obtain ⟨g, c, sa, ca, ev, hg, cellx, ox⟩ := (HPX.out.grow gr).at hlt
    injection ev with e1 _ e2
    subst e1 e2
    have GR := Lib.hid gr
    have GA := Lib.hid (G5.out.trans gr)
    have HO := Lib.hid ox
    obtain ⟨rb, ro, ea, -, hrb⟩ := HP.out.at (i := 0) (by omega)
    subst ea
    have RC := Lib.hid (fun (k : Nat) (hk : k < zs.length) (w' : World) (h : Grow.G w w') => (show w'.cell? ⟨rb, ro + k, none⟩ = some (.int .u8 (zs.getD k 0)) from by
      obtain ⟨rb', ro', e, h1, _⟩ := (HP.out.grow h).at hk
      injection e with e
      injection e with e1 e2
      subst e1 e2
      exact h1))
    have BX := Lib.hid (fun k (hk : k < zs.length) => HB.out (zs.getD k 0) (by simp [List.getD, hk]))
    clear SI gr ox
    match hd : zs.drop p with
    | [] =>
      have := congrArg List.length hd
      rw [List.length_drop] at this
      simp at this
      omega
    | [x] =>
      have h1 := congrArg List.length hd
      rw [List.length_drop] at h1
      simp at h1
      obtain ⟨q1, q2⟩ := ci.one hlt2 hd
      rw [HL.out] at q1 q2
      have hx : zs.getD p 0 = x := by have := congrArg (fun l => l.getD 0 0) hd; simp only [getD_drop] at this; simpa using this
      rw [q2] at cellx
      have HO1 := HO.out
      rw [q2] at HO1
      obtain ⟨sb, rfl, -, -, -⟩ := own_cap HO1 (by simp)
      have cx : wr.cell? ⟨sb, 0, none⟩ = some (.int .u8 x) := by
        have := HO1.cells (g := sb) rfl 0 (.int .u8 x) rfl
        rwa [Args.addr_add0] at this
      have cr := RC.out p (by omega) wr GA.out
      rw [hx] at cr
      simp only [List.length_cons, List.length_nil, Nat.zero_add] at cellx
      have KC := Lib.hid (fun (w' : World) (h : Chg (fun _ => False) wr w') => (⟨h.cell cellx id, h.cell cx id, h.cell cr id, trivial⟩ : w'.cell? ⟨g, i, none⟩ = some (.slice (some ⟨sb, 0, none⟩) 1 ca) ∧ w'.cell? ⟨sb, 0, none⟩ = some (.int .u8 x) ∧ w'.cell? ⟨rb, ro + p, none⟩ = some (.int .u8 x) ∧ True))
      have wA : IntKind.i64.wrap ((zs.length : Int) - (p : Int)) = 1 := by rw [IntKind.wrap_i64]; omega
      have wB : IntKind.i64.wrap ((L.length : Int) - 1) = (i : Int) := by rw [IntKind.wrap_i64]; omega
      clear ci hd hx q1 q2 cellx HO1 cx cr HO RC BX GR
      go_wp2_with fail
      refine Evo2.start' (ℓ := none) (S := Chg (fun _ => False)) (E := Grow.G) (by kernel_rfl) ⟨Chg.pre _, by decide +kernel, (by intro c a d v w h; cases d <;> exact h), by decide +kernel⟩ (fun ok => ?_)
      first | (refine Evo2.val ok 0 ?_ ?_ ?_; rotate_left; (intro w' hg; go_simp <;> with_reducible rfl); simp only [Act.put, L0, L1, L2])
      first | (refine Evo2.val ok 1 ?_ ?_ ?_; rotate_left; (intro w' hg; go_simp <;> with_reducible rfl); simp only [Act.put, L0, L1, L2])
      first | (refine Evo2.val ok 2 ?_ ?_ ?_; rotate_left; (intro w' hg; go_simp <;> with_reducible rfl); simp only [Act.put, L0, L1, L2])
      first | (refine Evo2.val ok 3 ?_ ?_ ?_; rotate_left; (intro w' hg; go_simp <;> with_reducible rfl); simp only [Act.put, L0, L1, L2])
      first | (refine Evo2.val ok 4 ?_ ?_ ?_; rotate_left; (intro w' hg; go_simp <;> with_reducible rfl); simp only [Act.put, L0, L1, L2])
      first | (refine Evo2.val ok 5 ?_ ?_ ?_; rotate_left; (intro w' hg; go_simp <;> with_reducible rfl); simp only [Act.put, L0, L1, L2])
      first | (refine Evo2.val ok 6 ?_ ?_ ?_; rotate_left; (intro w' hg; go_simp <;> with_reducible rfl); simp only [Act.put, L0, L1, L2]) | (refine Evo2.idl ok 6 ?_; simp only [Act.put, L0, L1, L2])
      first | (refine Evo2.val ok 7 ?_ ?_ ?_; rotate_left; (intro w' hg; go_simp <;> with_reducible rfl); simp only [Act.put, L0, L1, L2]) | (refine Evo2.idl ok 7 ?_; simp only [Act.put, L0, L1, L2])
      first | (refine Evo2.val ok 8 ?_ ?_ ?_; rotate_left; (intro w' hg; go_simp <;> with_reducible rfl); simp only [Act.put, L0, L1, L2]) | (refine Evo2.idl ok 8 ?_; simp only [Act.put, L0, L1, L2])
      first | (refine Evo2.val ok 9 ?_ ?_ ?_; rotate_left; (intro w' hg; obtain ⟨q1, q2, q3, q4⟩ := KC.out w' (Chg.trans (Chg.refl (fun _ => False) _) hg); go_simp <;> with_reducible rfl); simp only [Act.put, L0, L1, L2]) | (refine Evo2.val ok 9 ?_ ?_ ?_; rotate_left; (intro w' hg; go_simp <;> with_reducible rfl); simp only [Act.put, L0, L1, L2]) | (refine Evo2.idl ok 9 ?_; simp only [Act.put, L0, L1, L2])
      first | (refine Evo2.val ok 10 ?_ ?_ ?_; rotate_left; (intro w' hg; go_simp <;> with_reducible rfl); simp only [Act.put, L0, L1, L2]) | (refine Evo2.idl ok 10 ?_; simp only [Act.put, L0, L1, L2])
      first | (refine Evo2.val ok 11 ?_ ?_ ?_; rotate_left; (intro w' hg; go_simp <;> with_reducible rfl); simp only [Act.put, L0, L1, L2]) | (refine Evo2.idl ok 11 ?_; simp only [Act.put, L0, L1, L2])
      first | (refine Evo2.val ok 12 ?_ ?_ ?_; rotate_left; (intro w' hg; go_simp <;> with_reducible rfl); simp only [Act.put, L0, L1, L2])
      first | (refine Evo2.val ok 13 ?_ ?_ ?_; rotate_left; (intro w' hg; go_simp <;> with_reducible rfl); simp only [Act.put, L0, L1, L2])
      first | (refine Evo2.val ok 14 ?_ ?_ ?_; rotate_left; (intro w' hg; go_simp <;> with_reducible rfl); simp only [Act.put, L0, L1, L2]) | (refine Evo2.idl ok 14 ?_; simp only [Act.put, L0, L1, L2])
      first | (refine Evo2.val ok 15 ?_ ?_ ?_; rotate_left; (intro w' hg; go_simp <;> with_reducible rfl); simp only [Act.put, L0, L1, L2]) | (refine Evo2.idl ok 15 ?_; simp only [Act.put, L0, L1, L2])
      first | (refine Evo2.val ok 16 ?_ ?_ ?_; rotate_left; (intro w' hg; go_simp <;> with_reducible rfl); simp only [Act.put, L0, L1, L2]) | (refine Evo2.idl ok 16 ?_; simp only [Act.put, L0, L1, L2])
      first | (refine Evo2.val ok 17 ?_ ?_ ?_; rotate_left; (intro w' hg; obtain ⟨q1, q2, q3, q4⟩ := KC.out w' (Chg.trans (Chg.refl (fun _ => False) _) hg); go_simp <;> with_reducible rfl); simp only [Act.put, L0, L1, L2]) | (refine Evo2.val ok 17 ?_ ?_ ?_; rotate_left; (intro w' hg; go_simp <;> with_reducible rfl); simp only [Act.put, L0, L1, L2]) | (refine Evo2.idl ok 17 ?_; simp only [Act.put, L0, L1, L2])
      first | (refine Evo2.val ok 18 ?_ ?_ ?_; rotate_left; (intro w' hg; go_simp <;> with_reducible rfl); simp only [Act.put, L0, L1, L2]) | (refine Evo2.idl ok 18 ?_; simp only [Act.put, L0, L1, L2])
      first | (refine Evo2.val ok 19 ?_ ?_ ?_; rotate_left; (intro w' hg; obtain ⟨q1, q2, q3, q4⟩ := KC.out w' (Chg.trans (Chg.refl (fun _ => False) _) hg); go_simp <;> with_reducible rfl); simp only [Act.put, L0, L1, L2]) | (refine Evo2.val ok 19 ?_ ?_ ?_; rotate_left; (intro w' hg; go_simp <;> with_reducible rfl); simp only [Act.put, L0, L1, L2]) | (refine Evo2.idl ok 19 ?_; simp only [Act.put, L0, L1, L2])
      first | (refine Evo2.val ok 20 ?_ ?_ ?_; rotate_left; (intro w' hg; go_simp <;> with_reducible rfl); simp only [Act.put, L0, L1, L2]) | (refine Evo2.idl ok 20 ?_; simp only [Act.put, L0, L1, L2])
      first | (refine Evo2.val ok 21 ?_ ?_ ?_; rotate_left; (intro w' hg; go_simp <;> with_reducible rfl); simp only [Act.put, L0, L1, L2]) | (refine Evo2.idl ok 21 ?_; simp only [Act.put, L0, L1, L2])
      first | (refine Evo2.val ok 22 ?_ ?_ ?_; rotate_left; (intro w' hg; go_simp <;> with_reducible rfl); simp only [Act.put, L0, L1, L2]) | (refine Evo2.idl ok 22 ?_; simp only [Act.put, L0, L1, L2])
      first | (refine Evo2.val ok 23 ?_ ?_ ?_; rotate_left; (intro w' hg; obtain ⟨q1, q2, q3, q4⟩ := KC.out w' (Chg.trans (Chg.refl (fun _ => False) _) hg); go_simp <;> with_reducible rfl); simp only [Act.put, L0, L1, L2]) | (refine Evo2.val ok 23 ?_ ?_ ?_; rotate_left; (intro w' hg; go_simp <;> with_reducible rfl); simp only [Act.put, L0, L1, L2]) | (refine Evo2.idl ok 23 ?_; simp only [Act.put, L0, L1, L2])
      first | (refine Evo2.val ok 24 ?_ ?_ ?_; rotate_left; (intro w' hg; go_simp <;> with_reducible rfl); simp only [Act.put, L0, L1, L2]) | (refine Evo2.idl ok 24 ?_; simp only [Act.put, L0, L1, L2])
      first | (refine Evo2.val ok 25 ?_ ?_ ?_; rotate_left; (intro w' hg; go_simp <;> with_reducible rfl); simp only [Act.put, L0, L1, L2])
      first | (refine Evo2.val ok 26 ?_ ?_ ?_; rotate_left; (intro w' hg; go_simp <;> with_reducible rfl); simp only [Act.put, L0, L1, L2])
      refine Evo2.done (by decide +kernel) (fun wz gz => ?_)
      have AZ := Chg.trans (Chg.refl (fun _ => False) _) (Chg.grow gz)
      have GE := Lib.hid (GA.out.trans (chg_none AZ))
      clear AZ gz ok KC GA
      go_wp2_with fail
      go_ret
      exact ⟨rfl, GE.out⟩
    | x :: y :: r =>
      have h1 := congrArg List.length hd
      rw [List.length_drop] at h1
      simp at h1
      obtain ⟨q1, q2⟩ := ci.two hd
      rw [HL.out] at q1
      have hx : zs.getD p 0 = x := by have := congrArg (fun l => l.getD 0 0) hd; simp only [getD_drop] at this; simpa using this
      have hy : zs.getD (p + 1) 0 = y := by have := congrArg (fun l => l.getD 1 0) hd; simp only [getD_drop] at this; simpa using this
      have bx := BX.out p (by omega)
      have bY := BX.out (p + 1) (by omega)
      have cx := RC.out p (by omega) wr GA.out
      have cy := RC.out (p + 1) (by omega) wr GA.out
      rw [hx] at bx cx
      rw [hy] at bY cy
      have x0 := bx.1; have x1 := bx.2; have y0 := bY.1; have y1 := bY.2
      have er : zs.drop (p + 2) = r := by
        have e : zs.drop (p + 2) = (zs.drop p).drop 2 := by rw [List.drop_drop]
        rw [e, hd]; rfl
      obtain ⟨m, hm⟩ : ∃ m, pieceN x y r = m := ⟨_, rfl⟩
      have PN : pieceN x y r = min (x * 256 + y).toNat r.length := rfl
      rw [hm] at q1 q2 PN
      have hmr : m ≤ r.length := by omega
      have MN : min (x * 256 + y) (r.length : Int) = (m : Int) := by omega
      have tl : (r.take m).length = m := by rw [List.length_take]; omega
      rw [q1, tl] at cellx
      have HO2 := Lib.hid (show OwnB wr wn4.heap.size (.slice sa m ca) (r.take m) from by have := HO.out; rwa [q1, tl] at this)
      have CI := Lib.hid q2
      have P2 := Lib.hid (show PZ w (if cap = p + 2 then some ⟨rb, ro, none⟩ else some ⟨rb, ro + (p + 2), none⟩) (cap - (p + 2)) (r.take m) from by
        split
        · rename_i e
          have : r = [] := List.eq_nil_of_length_eq_zero (by omega)
          rw [this]
          exact .inl (by simp)
        · have := HP.out.drop (k := p + 2)
          rw [er] at this
          exact this.take m)
      obtain ⟨A2, hA2⟩ : ∃ A : Option Addr, (if cap = p + 2 then some ⟨rb, ro, none⟩ else some ⟨rb, ro + (p + 2), none⟩) = A := ⟨_, rfl⟩
      rw [hA2] at P2
      have TLm := Lib.hid tl.symm
      have KC := Lib.hid (fun (w' : World) (h : Chg (fun _ => False) wr w') => (⟨h.cell cx id, h.cell cy id, trivial⟩ : w'.cell? ⟨rb, ro + p, none⟩ = some (.int .u8 x) ∧ w'.cell? ⟨rb, ro + (p + 1), none⟩ = some (.int .u8 y) ∧ True))
      have CL := Lib.hid cellx
      have wA : IntKind.i64.wrap ((zs.length : Int) - (p : Int)) = (r.length : Int) + 2 := by rw [IntKind.wrap_i64]; omega
      have wA2 : ((r.length : Int) + 2 == 1) = false := by rw [beq_eq_false_iff_ne]; omega
      have wA3 : decide ((r.length : Int) + 2 < 2) = false := by simp; omega
      have wP : IntKind.i64.wrap ((p : Int) + 1) = (p : Int) + 1 := by rw [IntKind.wrap_i64]; omega
      have wx : IntKind.i64.wrap x = x := by rw [IntKind.wrap_i64]; omega
      have wy : IntKind.i64.wrap y = y := by rw [IntKind.wrap_i64]; omega
      have wB : IntKind.i64.wrap (x * 256) = x * 256 := by rw [IntKind.wrap_i64]; omega
      have wC : IntKind.i64.wrap (x * 256 + y) = x * 256 + y := by rw [IntKind.wrap_i64]; omega
      have hp1 : (p : Int) + 1 < (zs.length : Int) := by omega
      have hp0 : (p : Int) < (zs.length : Int) := by omega
      have hp00 : 0 ≤ (p : Int) + 1 := by omega
      clear ci hd hx hy q1 q2 cellx cx cy HO RC BX bx bY hm PN er tl
      go_wp2_with fail
      refine Evo2.start' (ℓ := none) (S := Chg (fun _ => False)) (E := Grow.G) (by kernel_rfl) ⟨Chg.pre _, by decide +kernel, (by intro c a d v w h; cases d <;> exact h), by decide +kernel⟩ (fun ok => ?_)
      first | (refine Evo2.val ok 0 ?_ ?_ ?_; rotate_left; (intro w' hg; go_simp <;> with_reducible rfl); simp only [Act.put, L0, L1, L2])
      first | (refine Evo2.val ok 1 ?_ ?_ ?_; rotate_left; (intro w' hg; go_simp <;> with_reducible rfl); simp only [Act.put, L0, L1, L2])
      first | (refine Evo2.val ok 2 ?_ ?_ ?_; rotate_left; (intro w' hg; go_simp <;> with_reducible rfl); simp only [Act.put, L0, L1, L2])
      first | (refine Evo2.val ok 3 ?_ ?_ ?_; rotate_left; (intro w' hg; obtain ⟨q1, q2, q3⟩ := KC.out w' (Chg.trans (Chg.refl (fun _ => False) _) hg); go_simp <;> with_reducible rfl); simp only [Act.put, L0, L1, L2]) | (refine Evo2.val ok 3 ?_ ?_ ?_; rotate_left; (intro w' hg; go_simp <;> with_reducible rfl); simp only [Act.put, L0, L1, L2])
      first | (refine Evo2.val ok 4 ?_ ?_ ?_; rotate_left; (intro w' hg; obtain ⟨q1, q2, q3⟩ := KC.out w' (Chg.trans (Chg.refl (fun _ => False) _) hg); go_simp <;> with_reducible rfl); simp only [Act.put, L0, L1, L2]) | (refine Evo2.val ok 4 ?_ ?_ ?_; rotate_left; (intro w' hg; go_simp <;> with_reducible rfl); simp only [Act.put, L0, L1, L2])
      first | (refine Evo2.val ok 5 ?_ ?_ ?_; rotate_left; (intro w' hg; go_simp <;> with_reducible rfl); simp only [Act.put, L0, L1, L2])
      first | (refine Evo2.val ok 6 ?_ ?_ ?_; rotate_left; (intro w' hg; go_simp <;> with_reducible rfl); simp only [Act.put, L0, L1, L2])
      first | (refine Evo2.val ok 7 ?_ ?_ ?_; rotate_left; (intro w' hg; go_simp <;> with_reducible rfl); simp only [Act.put, L0, L1, L2])
      first | (refine Evo2.val ok 8 ?_ ?_ ?_; rotate_left; (intro w' hg; go_simp <;> with_reducible rfl); simp only [Act.put, L0, L1, L2])
      first | (refine Evo2.val ok 9 ?_ ?_ ?_; rotate_left; (intro w' hg; go_simp <;> with_reducible rfl); simp only [Act.put, L0, L1, L2])
      first | (refine Evo2.val ok 10 ?_ ?_ ?_; rotate_left; (intro w' hg; obtain ⟨q1, q2, q3⟩ := KC.out w' (Chg.trans (Chg.refl (fun _ => False) _) hg); go_simp <;> with_reducible rfl); simp only [Act.put, L0, L1, L2]) | (refine Evo2.val ok 10 ?_ ?_ ?_; rotate_left; (intro w' hg; go_simp <;> with_reducible rfl); simp only [Act.put, L0, L1, L2])
      first | (refine Evo2.val ok 11 ?_ ?_ ?_; rotate_left; (intro w' hg; obtain ⟨q1, q2, q3⟩ := KC.out w' (Chg.trans (Chg.refl (fun _ => False) _) hg); go_simp <;> with_reducible rfl); simp only [Act.put, L0, L1, L2]) | (refine Evo2.val ok 11 ?_ ?_ ?_; rotate_left; (intro w' hg; go_simp <;> with_reducible rfl); simp only [Act.put, L0, L1, L2])
      first | (refine Evo2.val ok 12 ?_ ?_ ?_; rotate_left; (intro w' hg; go_simp <;> with_reducible rfl); simp only [Act.put, L0, L1, L2])
      first | (refine Evo2.val ok 13 ?_ ?_ ?_; rotate_left; (intro w' hg; go_simp <;> with_reducible rfl); simp only [Act.put, L0, L1, L2])
      refine Evo2.done (by decide +kernel) (fun wz gz => ?_)
      have AZ := Chg.trans (Chg.refl (fun _ => False) _) (Chg.grow gz)
      have GA2 := Lib.hid (GA.out.trans (chg_none AZ))
      have GR2 := Lib.hid (GR.out.trans (chg_none AZ))
      have cellx := AZ.cell CL.out id
      have HO3 := Lib.hid (own_later HO2.out (chg_none AZ))
      clear AZ gz ok KC GA GR CL HO2
      have w2 : IntKind.i64.wrap ((p : Int) + 2) = (p : Int) + 2 := by rw [IntKind.wrap_i64]; omega
      have wD : IntKind.i64.wrap ((zs.length : Int) - ((p : Int) + 2)) = (r.length : Int) := by rw [IntKind.wrap_i64]; omega
      have w3 : IntKind.i64.wrap ((p : Int) + 2 + (m : Int)) = (p : Int) + 2 + (m : Int) := by rw [IntKind.wrap_i64]; omega
      have KD := Lib.hid (fun (w' : World) (h : Chg (fun _ => False) wz w') => (⟨h.cell cellx id, cv_own (own_later HO3.out (chg_none h)), (P2.out.grow (GA2.out.trans (chg_none h))).cv TLm.out, trivial⟩ : w'.cell? ⟨g, i, none⟩ = some (.slice sa m ca) ∧ (convert 22 9 (.slice sa m ca)).run Try.prog w' = .ok (.string (strOfNums (r.take m))) w' ∧ (convert 22 9 (.slice A2 m (cap - (p + 2)))).run Try.prog w' = .ok (.string (strOfNums (r.take m))) w' ∧ True))
      have e2 : p + 2 + m - (p + 2) = m := by omega
      have f1 : 0 ≤ (p : Int) + 2 + (m : Int) := by omega
      have f2 : (p : Int) + 2 + (m : Int) ≤ (cap : Int) := by omega
      have f3 : 0 ≤ (p : Int) + 2 := by omega
      have f4 : (p : Int) + 2 ≤ (p : Int) + 2 + (m : Int) := by omega
      have f5 : ((p : Int) + 2).toNat = p + 2 := by omega
      have f6 : ((p : Int) + 2 + (m : Int)).toNat = p + 2 + m := by omega
      clear cellx HO3 P2 TLm
      go_wp2_with fail
      refine Evo2.start' (ℓ := none) (S := Chg (fun _ => False)) (E := Grow.G) (by kernel_rfl) ⟨Chg.pre _, by decide +kernel, (by intro c a d v w h; cases d <;> exact h), by decide +kernel⟩ (fun ok => ?_)
      first | (refine Evo2.val ok 0 ?_ ?_ ?_; rotate_left; (intro w' hg; go_simp <;> with_reducible rfl); simp only [Act.put, L0, L1, L2])
      first | (refine Evo2.val ok 1 ?_ ?_ ?_; rotate_left; (intro w' hg; go_simp <;> with_reducible rfl); simp only [Act.put, L0, L1, L2])
      first | (refine Evo2.val ok 2 ?_ ?_ ?_; rotate_left; (intro w' hg; go_simp <;> with_reducible rfl); simp only [Act.put, L0, L1, L2])
      first | (refine Evo2.val ok 3 ?_ ?_ ?_; rotate_left; (intro w' hg; obtain ⟨q1, q2, q3, q4⟩ := KD.out w' (Chg.trans (Chg.refl (fun _ => False) _) hg); go_simp <;> with_reducible rfl); simp only [Act.put, L0, L1, L2]) | (refine Evo2.val ok 3 ?_ ?_ ?_; rotate_left; (intro w' hg; go_simp <;> with_reducible rfl); simp only [Act.put, L0, L1, L2])
      first | (refine Evo2.val ok 4 ?_ ?_ ?_; rotate_left; (intro w' hg; go_simp <;> with_reducible rfl); simp only [Act.put, L0, L1, L2])
      first | (refine Evo2.val ok 5 ?_ ?_ ?_; rotate_left; (intro w' hg; go_simp <;> with_reducible rfl); simp only [Act.put, L0, L1, L2])
      first | (refine Evo2.val ok 6 ?_ ?_ ?_; rotate_left; (intro w' hg; go_simp <;> with_reducible rfl); simp only [Act.put, L0, L1, L2])
      first | (refine Evo2.val ok 7 ?_ ?_ ?_; rotate_left; (intro w' hg; go_simp <;> with_reducible rfl); simp only [Act.put, L0, L1, L2])
      first | (refine Evo2.val ok 8 ?_ ?_ ?_; rotate_left; (intro w' hg; go_simp <;> with_reducible rfl); simp only [Act.put, L0, L1, L2]) | (refine Evo2.idl ok 8 ?_; simp only [Act.put, L0, L1, L2])
      first | (refine Evo2.val ok 9 ?_ ?_ ?_; rotate_left; (intro w' hg; go_simp <;> with_reducible rfl); simp only [Act.put, L0, L1, L2]) | (refine Evo2.idl ok 9 ?_; simp only [Act.put, L0, L1, L2])
      first | (refine Evo2.val ok 10 ?_ ?_ ?_; rotate_left; (intro w' hg; go_simp <;> with_reducible rfl); simp only [Act.put, L0, L1, L2]) | (refine Evo2.idl ok 10 ?_; simp only [Act.put, L0, L1, L2])
      first | (refine Evo2.val ok 11 ?_ ?_ ?_; rotate_left; (intro w' hg; obtain ⟨q1, q2, q3, q4⟩ := KD.out w' (Chg.trans (Chg.refl (fun _ => False) _) hg); go_simp <;> with_reducible rfl); simp only [Act.put, L0, L1, L2]) | (refine Evo2.val ok 11 ?_ ?_ ?_; rotate_left; (intro w' hg; go_simp <;> with_reducible rfl); simp only [Act.put, L0, L1, L2]) | (refine Evo2.idl ok 11 ?_; simp only [Act.put, L0, L1, L2])
      first | (refine Evo2.val ok 12 ?_ ?_ ?_; rotate_left; (intro w' hg; obtain ⟨q1, q2, q3, q4⟩ := KD.out w' (Chg.trans (Chg.refl (fun _ => False) _) hg); go_simp <;> with_reducible rfl); simp only [Act.put, L0, L1, L2]) | (refine Evo2.val ok 12 ?_ ?_ ?_; rotate_left; (intro w' hg; go_simp <;> with_reducible rfl); simp only [Act.put, L0, L1, L2]) | (refine Evo2.idl ok 12 ?_; simp only [Act.put, L0, L1, L2])
      first | (refine Evo2.val ok 13 ?_ ?_ ?_; rotate_left; (intro w' hg; go_simp <;> with_reducible rfl); simp only [Act.put, L0, L1, L2]) | (refine Evo2.idl ok 13 ?_; simp only [Act.put, L0, L1, L2])
      first | (refine Evo2.val ok 14 ?_ ?_ ?_; rotate_left; (intro w' hg; go_simp <;> with_reducible rfl); simp only [Act.put, L0, L1, L2]) | (refine Evo2.idl ok 14 ?_; simp only [Act.put, L0, L1, L2])
      first | (refine Evo2.val ok 15 ?_ ?_ ?_; rotate_left; (intro w' hg; go_simp <;> with_reducible rfl); simp only [Act.put, L0, L1, L2]) | (refine Evo2.idl ok 15 ?_; simp only [Act.put, L0, L1, L2])
      first | (refine Evo2.val ok 16 ?_ ?_ ?_; rotate_left; (intro w' hg; go_simp <;> with_reducible rfl); simp only [Act.put, L0, L1, L2]) | (refine Evo2.idl ok 16 ?_; simp only [Act.put, L0, L1, L2])
      first | (refine Evo2.val ok 17 ?_ ?_ ?_; rotate_left; (intro w' hg; go_simp <;> with_reducible rfl); simp only [Act.put, L0, L1, L2]) | (refine Evo2.idl ok 17 ?_; simp only [Act.put, L0, L1, L2])
      first | (refine Evo2.val ok 18 ?_ ?_ ?_; rotate_left; (intro w' hg; go_simp <;> with_reducible rfl); simp only [Act.put, L0, L1, L2]) | (refine Evo2.idl ok 18 ?_; simp only [Act.put, L0, L1, L2])
      first | (refine Evo2.val ok 19 ?_ ?_ ?_; rotate_left; (intro w' hg; obtain ⟨q1, q2, q3, q4⟩ := KD.out w' (Chg.trans (Chg.refl (fun _ => False) _) hg); go_simp <;> with_reducible rfl); simp only [Act.put, L0, L1, L2]) | (refine Evo2.val ok 19 ?_ ?_ ?_; rotate_left; (intro w' hg; go_simp <;> with_reducible rfl); simp only [Act.put, L0, L1, L2]) | (refine Evo2.idl ok 19 ?_; simp only [Act.put, L0, L1, L2])
      first | (refine Evo2.val ok 20 ?_ ?_ ?_; rotate_left; (intro w' hg; go_simp <;> with_reducible rfl); simp only [Act.put, L0, L1, L2]) | (refine Evo2.idl ok 20 ?_; simp only [Act.put, L0, L1, L2])
      first | (refine Evo2.val ok 21 ?_ ?_ ?_; rotate_left; (intro w' hg; go_simp <;> with_reducible rfl); simp only [Act.put, L0, L1, L2])
      refine Evo2.done (by decide +kernel) (fun wz gz => ?_)
      have AZ := Chg.trans (Chg.refl (fun _ => False) _) (Chg.grow gz)
      have GN := Lib.hid (And.intro CI.out (GR2.out.trans (chg_none AZ)))
      clear AZ gz ok KD GA2 GR2 CI
      go_wp2_with fail
      go_roundw
      case rel => exact ⟨i + 1, p + 2 + m, by omega, by omega, by go_num, by go_num, GN⟩
      case measure => simp [intOf]; omega
end Go.Proofs.Ytnkekdmikopdgaa


/- TableHundred: of a hundred draws each Share has as many as it weighs. -/
import Derived.Test.YtbagjeefoifpeaaDoorTableShift
import Derived.Test.YtbagjeefoifpeaaDoorZ44
namespace Go.Proofs.YtbagjeefoifpeaaDoor
set_option maxRecDepth 100000
set_option linter.unusedVariables false
set_option linter.unusedSimpArgs false
set_option linter.unnecessarySimpa false
open Go.RowKit Go.Args

section
variable (l : List Shr) (f : Int)
def cnt (n : Nat) (s : Shr) : Nat := cntP (fun d => s.rev.toList == (pickL l d).toList) f n
def cV (n : Nat) (s : Shr) : Value := .int .i64 (cnt l f n s)
def inn (n k : Nat) : List Value := (l.take k).map (cV l f (n + 1)) ++ (l.drop k).map (cV l f n)
theorem inn_get {n k : Nat} {s : Shr} (h : l[k]? = some s) : (inn l f n k)[k]? = some (cV l f n s) := by
  have hk := (List.getElem?_eq_some_iff.1 h).1
  unfold inn
  rw [List.getElem?_append_right (by rw [List.length_map, List.length_take]; omega), List.length_map, List.length_take, show k - min k l.length = 0 by omega, List.getElem?_map, List.getElem?_drop, Nat.add_zero, h]; rfl
theorem inn_set {n k : Nat} {s : Shr} (h : l[k]? = some s) : (inn l f n k).set k (cV l f (n + 1) s) = inn l f n (k + 1) := by
  obtain ⟨hk, e⟩ := List.getElem?_eq_some_iff.1 h
  unfold inn
  have hl : ((l.take k).map (cV l f (n + 1))).length = k := by rw [List.length_map, List.length_take]; omega
  rw [List.set_append_right _ _ (by omega), hl, Nat.sub_self, List.drop_eq_getElem_cons hk, List.map_cons, List.set_cons_zero, List.take_add_one, h, List.map_append, List.append_assoc]; simp
theorem inn_same {n k : Nat} {s : Shr} (h : l[k]? = some s) (e : cV l f (n + 1) s = cV l f n s) : inn l f n (k + 1) = inn l f n k := by
  rw [← inn_set l f h, e]
  have hg := inn_get l f (n := n) h
  obtain ⟨hk, e2⟩ := List.getElem?_eq_some_iff.1 hg
  rw [← e2]; exact List.set_getElem_self hk
theorem inn_zero (n : Nat) : inn l f n 0 = l.map (cV l f n) := by simp [inn]
theorem inn_all (n : Nat) : inn l f n l.length = l.map (cV l f (n + 1)) := by simp [inn]
theorem cnt_le (n : Nat) (s : Shr) : cnt l f n s ≤ n := by
  unfold cnt
  induction n with
  | zero => exact Nat.le_refl _
  | succ n ih => rw [cntP]; have := Bool.toNat_le ((s.rev.toList == (pickL l ((f + n) % 100)).toList)); omega
theorem cnt_step (n : Nat) (s : Shr) : cnt l f (n + 1) s = cnt l f n s + (s.rev.toList == (pickL l ((f + n) % 100)).toList).toNat := rfl
end
theorem infoI : (Tryd.prog.info? 3).map (fun i => (i.zero, i.size, i.bytes)) = some (some (.int .i64 0), 1, 8) := by kernel_rfl
theorem made_rep (z : Value) (n : Nat) : madeCells #[z] n = (List.replicate n z).toArray := by
  apply Array.ext
  · rw [size_madeCells]; simp
  · intro i h1 h2
    simp [madeCells, Nat.mod_one]
theorem make_zeros (n : Nat) (hn : n ≤ 1000) (w : World) : (Instr.makeSlice 26 (.int .i64 n) (.int .i64 n)).run Tryd.prog w = .ok (.slice (some ⟨w.heap.size, 0, none⟩) n n) (w.alloc (.cells (List.replicate n (.int .i64 0)).toArray 3)) := by
  obtain ⟨i0, hi, hz0, hz1, hz2⟩ := info_parts infoI
  have RM := run_makeSlice (P := Tryd.prog) w 26 3 i0 (.int .i64 0) Tryd.underlying26 hi hz0 .i64 .i64 n n (by omega) (by omega) (by rw [hz1]; omega) (by rw [hz2]; omega) (by omega)
  rw [RM, hz1, Nat.mul_one, Int.toNat_natCast]
  show _ = Result.ok _ (w.alloc (.cells _ _))
  rw [← made_rep]; rfl
set_option maxHeartbeats 8000000 in
theorem walkTableHundred (w : World) (v : Value) (zs : List Int) (hz : IntSlice w v zs) (a : Int) (ha : wf64 a) (ht : Tab w) :
    Calls Tryd.prog 5 #[v, .int .i64 a] w fun e w' => e = .returned (.bool true) ∧ Below w.heap.size w w' := by
  have KN := Lib.hid (known5_any w ht)
  have MK := Lib.hid (fun w' (g : Grow.G w w') => make_any w' v zs (hz.below g) (.slice none 0 0) [] (.inr ⟨rfl, none, 0, rfl⟩))
  have W40 := Lib.hid (fun w => within5w_any a 1099511627776 w (by omega) (by omega) ha.1 ha.2)
  have R40 := withinI_range a 1099511627776 (by omega)
  clear ht hz ha
  go_enter Tryd.func5, Tryd.ntmps5
  go_wp2_with fail
  refine KN.out.mono ?_
  rintro e w1 ⟨rfl, hg1⟩
  go_wp2_with fail
  refine (MK.out _ hg1).mono ?_
  rintro e w2 ⟨ta, tc, ta', tc', rfl, MD, hg2⟩
  have SH := MD.shs
  have SM := mkS_small zs
  have SU := mkS_sum zs
  have SL := mkS_len zs
  have AS := Lib.hid (mkS_asc zs)
  generalize mkS zs = l at *
  generalize (mkT []).length = n' at *
  clear KN MK MD
  unfold tabV
  go_wp2_with fail
  have B0 := Blk.new w2 #[.slice ta l.length tc, .slice ta' n' tc'] 25
  have g2 := Grow.G.alloc (Grow.G.refl w2) (.cells #[.slice ta l.length tc, .slice ta' n' tc'] 25)
  obtain ⟨W3, hW3⟩ : ∃ W3, W3 = w2.alloc (.cells #[.slice ta l.length tc, .slice ta' n' tc'] 25) := ⟨_, rfl⟩
  rw [← hW3] at B0 g2 ⊢
  have G3 := Lib.hid ((hg1.trans hg2).trans g2)
  have hzw : w.heap.size ≤ W3.heap.size := G3.out.size
  have SH := Lib.hid (SH.later g2)
  have hgb := B0.lt
  clear hW3 hg1 hg2 g2
  generalize w2.heap.size = gb at *
  refine (W40.out _).mono ?_
  rintro e wx ⟨rfl, rfl⟩
  have hf1 : IntKind.i64.wrap (withinI a 1099511627776 - 549755813888) = withinI a 1099511627776 - 549755813888 := IntWalk.i64_in _ ⟨by omega, by omega⟩
  have hf2 : -549755813888 ≤ withinI a 1099511627776 - 549755813888 ∧ withinI a 1099511627776 - 549755813888 < 549755813888 := by omega
  have e0 := Blk.at (cs := [.slice ta l.length tc, .slice ta' n' tc']) (k := 0) B0 rfl
  have e1 := Blk.at (cs := [.slice ta l.length tc, .slice ta' n' tc']) (k := 1) B0 rfl
  have MZ := make_zeros l.length (by omega)
  go_wp2_with fail
  clear MZ W40 R40 hf1
  generalize withinI a 1099511627776 - 549755813888 = f at *
  have hfh : IntKind.i64.wrap (f + 100) = f + 100 := IntWalk.i64_in _ ⟨by omega, by omega⟩
  have C0 := Blk.new W3 (Array.replicate l.length (.int .i64 0)) 3
  have g4 := Grow.G.alloc (Grow.G.refl W3) (.cells (Array.replicate l.length (.int .i64 0)) 3)
  have hz0 : Array.replicate l.length (Value.int .i64 0) = (inn l f 0 0).toArray := by
    rw [inn_zero]
    apply Array.ext
    · simp
    · intro i h1 h2
      simp [cV, cnt, cntP]
  rw [hz0] at C0 g4 ⊢
  obtain ⟨W4, hW4⟩ : ∃ W4, W4 = W3.alloc (.cells (inn l f 0 0).toArray 3) := ⟨_, rfl⟩
  rw [← hW4] at C0 g4 ⊢
  have SH3 : ShSl W3 ta l := SH.out
  have SH := Lib.hid (SH3.later g4)
  have B0 := Lib.hid (B0.grow g4)
  have G4 := Lib.hid (G3.out.trans g4)
  have C0 := Lib.hid C0
  clear hW4 g4 G3 e0 e1 hz0
  have HBK : ∀ k, Iter.blkOf l ta k → k < W3.heap.size := fun k hk => hk.lt SH3 (fun x => by simp [Shr.cells])
  generalize hgc : W3.heap.size = gc at *
  have KX := Lib.hid (fun (w' : World) (h : Chg (fun k => k = gc) W4 w') => (⟨(Iter.KeepP.chg (p := fun k => k < gc) h (fun k hk q => by have q : k = gc := q; omega)).slOf SH.out HBK, h.blk B0.out (fun q => by have q : gb = gc := q; omega)⟩ : ShSl w' ta l ∧ Blk w' gb #[.slice ta l.length tc, .slice ta' n' tc'] 25))
  have PK := Lib.hid (fun (w' : World) (h : ShSl w' ta l) (x : Int) (hx : wf64 x) => (show Calls Tryd.prog 16 #[.agg #[.slice ta l.length tc, .slice ta' n' tc'], .int .i64 x] w' fun e w'' => e = .returned (.string (pickL l (x % 100))) ∧ Grow.G w' w'' from pick_any ta l tc ta' n' tc' x w' hx h SM))
  have HU := Lib.hid (fun j s hj => hundred l _ AS.out (fun s hs => (SM.2 s hs).1) SU j s hj f)
  clear SH B0 HBK
  go_loopw [7] (fun dv wr => ∃ n : Nat, n ≤ 100 ∧ dv = .int .i64 (f + (n : Int)) ∧ Hid (Blk wr gc (inn l f n 0).toArray 3) ∧ Hid (Chg (fun k => k = gc) W4 wr)) (fun dv _ => (f + 100 - intOf dv).toNat)
  case atStart => exact ⟨0, by omega, by simp, C0, Lib.hid (Chg.refl _ _)⟩
  case round =>
    clear C0
    obtain ⟨n, hn, rfl, HC, CH⟩ := hrel
    by_cases hlt : n < 100
    · have d0 : decide (f + (n : Int) < f + 100) = true := decide_eq_true (by omega)
      obtain ⟨SHr, Br⟩ := KX.out _ CH.out
      have e0 := Blk.at (cs := [.slice ta l.length tc, .slice ta' n' tc']) (k := 0) Br rfl
      have e1 := Blk.at (cs := [.slice ta l.length tc, .slice ta' n' tc']) (k := 1) Br rfl
      have PKr := Lib.hid (PK.out _ SHr (f + n) ⟨by omega, by omega⟩)
      have hdn : IntKind.i64.wrap (f + (n : Int) + 1) = f + (n : Int) + 1 := IntWalk.i64_in _ ⟨by omega, by omega⟩
      obtain ⟨s0, hs0, es0⟩ := pickL_mem l ((f + n) % 100) (by omega) (by omega)
      have AL := Lib.hid (anyR_mem hs0 es0)
      have CS := Lib.hid (fun s => cnt_step l f n s)
      have CB := Lib.hid (fun s => cnt_le l f n s)
      clear SHr Br es0 hs0
      generalize pickL l ((f + n) % 100) = r at *
      go_wp2_with fail
      refine PKr.out.mono ?_
      rintro e W5 ⟨rfl, hg5⟩
      have HC5 := Lib.hid (HC.out.grow hg5)
      have CH5 := Lib.hid (CH.out.trans (Chg.grow hg5))
      clear HC CH hg5 e0 e1 PKr
      go_wp2_with fail
      go_loopw [9, 10] (fun bv i wr => ∃ (k : Nat) (b : Bool), k ≤ l.length ∧ bv = .bool b ∧ i = .int .i64 k ∧ Hid (anyR (l.take k) r = b) ∧ Hid (Blk wr gc (inn l f n k).toArray 3) ∧ Hid (Chg (fun k => k = gc) W4 wr)) (fun _ i _ => l.length - (intOf i).toNat)
      case atStart => exact ⟨0, false, by omega, rfl, rfl, Lib.hid rfl, HC5, CH5⟩
      case round =>
        clear HC5 CH5
        obtain ⟨k, q, hk, rfl, rfl, HQ, HC, CH⟩ := hrel
        obtain ⟨SHr, Br⟩ := KX.out _ CH.out
        have e0 := Blk.at (cs := [.slice ta l.length tc, .slice ta' n' tc']) (k := 0) Br rfl
        have e1 := Blk.at (cs := [.slice ta l.length tc, .slice ta' n' tc']) (k := 1) Br rfl
        by_cases hlt : k < l.length
        · obtain ⟨s, hs⟩ : ∃ s, l[k]? = some s := ⟨_, List.getElem?_eq_getElem hlt⟩
          obtain ⟨sb, off, rfl, hc⟩ := ShSl.at SHr hs
          obtain ⟨c0, c1⟩ := hc _ (Grow.G.refl _)
          have A1 := Lib.hid (anyR_step (r := r) hs)
          have IS := Lib.hid (inn_set l f (n := n) hs)
          have IM := Lib.hid (inn_same l f (n := n) hs)
          have g0 := Blk.at (k := k) HC.out (inn_get l f (n := n) hs)
          have gf := HC.out.free k
          have gl := HC.out.lt
          have CS := Lib.hid (CS.out s)
          have CB := CB.out s
          unfold cV at g0 IS IM
          generalize cnt l f n s = c at *
          generalize cnt l f (n + 1) s = c' at *
          obtain ⟨rv, wt⟩ := s
          dsimp only at *
          clear hs hc Br SHr
          have d0 : decide ((k : Int) < (l.length : Int)) = true := decide_eq_true (by omega)
          have hk1 : IntKind.i64.wrap ((k : Int) + 1) = (k : Int) + 1 := IntWalk.i64_in _ ⟨by omega, by omega⟩
          have hc1 : IntKind.i64.wrap ((c : Int) + 1) = (c : Int) + 1 := IntWalk.i64_in _ ⟨by omega, by omega⟩
          have k1 : (0 : Int) ≤ (k : Int) := by omega
          have k2 : (k : Int) < (l.length : Int) := by omega
          obtain ⟨y, hy⟩ : ∃ y, (rv.toList == r.toList) = y := ⟨_, rfl⟩
          rw [hy] at A1 CS
          cases y with
          | true =>
            have CC : ((c : Int) + 1) = (c' : Int) := by rw [CS.out]; simp
            rw [CC] at hc1
            have HS := Lib.hid (HC.out.set k (.int .i64 (c' : Int)))
            clear CS
            go_wp2_with fail
            go_roundw
            case rel => exact ⟨k + 1, true, by omega, rfl, by go_num, Lib.hid (by rw [A1.out]; simp), Lib.hid (by rw [← IS.out, ← List.setIfInBounds_toArray]; exact HS.out), Lib.hid (Chg.setCell CH.out (G := fun k => k = gc) (fun _ => rfl) _ _)⟩
            case measure => simp [intOf]; omega
          | false =>
            have CC : c' = c := by rw [CS.out]; rfl
            have IE := Lib.hid (IM.out (by rw [CC]))
            clear CS CC IM IS
            go_wp2_with fail
            go_roundw
            case rel => exact ⟨k + 1, q, by omega, rfl, by go_num, Lib.hid (by rw [A1.out, HQ.out]; simp), Lib.hid (by rw [IE.out]; exact HC.out), CH⟩
            case measure => simp [intOf]; omega
        · have d0 : decide ((k : Int) < (l.length : Int)) = false := decide_eq_false (by omega)
          have ek : k = l.length := by omega
          subst ek
          rw [List.take_length, AL.out] at HQ
          obtain rfl : q = true := HQ.out.symm
          have IA : inn l f n l.length = inn l f (n + 1) 0 := by rw [inn_all, inn_zero]
          rw [IA] at HC
          clear IA
          go_wp2_with fail
          go_roundw
          case rel => exact ⟨n + 1, by omega, by go_num, HC, CH⟩
          case measure => simp [intOf]; omega
    · have en : n = 100 := by omega
      subst en
      have d0 : decide (f + ((100 : Nat) : Int) < f + 100) = false := decide_eq_false (by omega)
      obtain ⟨SHr, Br⟩ := KX.out _ CH.out
      have SHr := Lib.hid SHr
      have Br := Lib.hid Br
      have FG := Lib.hid (g0 ((Chg.grow (G := fun _ => False) G4.out).join CH.out (fun i hi q => by have q : i = gc := q; omega)))
      go_wp2_with fail
      go_loopw [11] (fun i wr' => ∃ k : Nat, k ≤ l.length ∧ i = .int .i64 k ∧ Hid (Grow.G wr wr')) (fun i _ => l.length - (intOf i).toNat)
      case atStart => exact ⟨0, by omega, rfl, Lib.hid (Grow.G.refl _)⟩
      case round =>
        obtain ⟨k, hk, rfl, GR⟩ := hrel
        by_cases hlt : k < l.length
        · obtain ⟨s, hs⟩ : ∃ s, l[k]? = some s := ⟨_, List.getElem?_eq_getElem hlt⟩
          obtain ⟨sb, off, rfl, hc⟩ := ShSl.at SHr.out hs
          have g9 := Blk.at (k := k) HC.out (show (inn l f 100 0)[k]? = some (cV l f 100 s) by rw [inn_zero, List.getElem?_map, hs]; rfl)
          have HK : (cnt l f 100 s : Int) = s.w := HU.out k s hs
          unfold cV at g9
          rw [HK] at g9
          have e9 := Blk.at (cs := [.slice (some ⟨sb, off, none⟩) l.length tc, .slice ta' n' tc']) (k := 0) Br.out rfl
          obtain ⟨rv, wt⟩ := s
          dsimp only at *
          have c1 : ∀ w', Grow.G wr w' → w'.cell? ⟨sb, off + k * 2 + 1, none⟩ = some (.int .i64 wt) := fun w' g => (hc w' (GR.out.trans g)).2
          have f0 : ∀ w', Grow.G wr w' → w'.cell? ⟨gb, 0, none⟩ = some (.slice (some ⟨sb, off, none⟩) l.length tc) := fun w' g => cell_later (GR.out.trans g) e9
          have f1 : ∀ w', Grow.G wr w' → w'.cell? ⟨gc, k, none⟩ = some (.int .i64 wt) := fun w' g => cell_later (GR.out.trans g) g9
          clear hs hc HK g9 e9
          have d0 : decide ((k : Int) < (l.length : Int)) = true := decide_eq_true (by omega)
          have hk1 : IntKind.i64.wrap ((k : Int) + 1) = (k : Int) + 1 := IntWalk.i64_in _ ⟨by omega, by omega⟩
          have k1 : (0 : Int) ≤ (k : Int) := by omega
          have k2 : (k : Int) < (l.length : Int) := by omega
          go_wp2_with fail
          refine Grow.region_seqT (by kernel_rfl) (by kernel_rfl) (by intro c a d v w h; cases d <;> exact h) (by kernel_rfl) ?_
          repeat (first
            | (refine Grow.seqT.value ?_ (by rfl) ?_ ?_; rotate_left; (intro w' hg; go_simp <;> with_reducible rfl); simp only [Act.put, L0, L1, L2])
            | (refine Grow.seqT.value ?_ (by rfl) ?_ ?_; rotate_left; (intro w' hg; have ⟨hgc, hgf, hgz⟩ := bcell hg; go_simp <;> with_reducible rfl); simp only [Act.put, L0, L1, L2])
            | (refine Grow.seqT.value ?_ (by rfl) ?_ ?_; rotate_left; (intro w' hg; go_simp; rw [if_neg (by omega)]); simp only [Act.put, L0, L1, L2])
            | (refine Grow.seqT.idle (by rfl) ?_; simp only [Act.put, L0, L1, L2])
            )
          refine Grow.seqT.done (fun w4 g4 => ?_)
          clear c1 f0 f1
          go_wp2_with fail
          go_roundw
          case rel => exact ⟨k + 1, by omega, by go_num, Lib.hid (GR.out.trans g4)⟩
          case measure => simp [intOf]; omega
        · have d0 : decide ((k : Int) < (l.length : Int)) = false := decide_eq_false (by omega)
          go_wp2_with fail
          go_ret
          exact ⟨rfl, FG.out.trans GR.out⟩
end Go.Proofs.YtbagjeefoifpeaaDoor

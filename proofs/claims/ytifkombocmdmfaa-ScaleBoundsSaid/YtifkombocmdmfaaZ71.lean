/- My own texts ScH, laid in one file. -/
import Derived.Test.YtifkombocmdmfaaZ77
import Derived.Test.YtifkombocmdmfaaZ2
import Derived.Test.YtifkombocmdmfaaZ29

/- How many: what the program answers; damperlaw10's helpers. -/
namespace Go.Proofs.Ytifkombocmdmfaa
set_option maxRecDepth 100000
set_option linter.unusedVariables false
set_option linter.unusedSimpArgs false
set_option linter.unnecessarySimpa false
open Go.RowKit

theorem scC_ok (c : Cfg) (n : Int) : (scC (gCfg c n)).ok := by
  have r1 := withinI_range c.co 8 (by omega)
  have r2 := withinI_range c.mx 10 (by omega)
  have r3 := withinI_range c.mn (1 + withinI c.mx 10 + 1) (by omega)
  have r4 := withinI_range c.gr 31 (by omega)
  refine ⟨?_, ?_, ?_, ?_⟩
  · show 1 ≤ 1 + withinI c.co 8 ∧ 1 + withinI c.co 8 ≤ 8; omega
  · show 1 ≤ 1 + withinI c.mx 10 ∧ 1 + withinI c.mx 10 ≤ 10; omega
  · show 0 ≤ withinI c.mn (1 + withinI c.mx 10 + 1) ∧ withinI c.mn (1 + withinI c.mx 10 + 1) ≤ 1 + withinI c.mx 10; omega
  · show 0 ≤ withinI c.gr 31 ∧ withinI c.gr 31 ≤ 30; omega
def bigI (n : Int) : Int := 1 + withinI (n.tdiv 7) 4 * withinI (n.tdiv 28) 4 * 30
theorem bigI_bd (n : Int) : 1 ≤ bigI n ∧ bigI n ≤ 271 := by
  have r1 := withinI_range (n.tdiv 7) 4 (by omega)
  have r2 := withinI_range (n.tdiv 28) 4 (by omega)
  unfold bigI
  generalize withinI (n.tdiv 7) 4 = a at *
  generalize withinI (n.tdiv 28) 4 = b at *
  have h1 : 0 ≤ a * b := Int.mul_nonneg r1.1 r2.1
  have h2 : a * b ≤ 3 * 3 := Int.mul_le_mul (by omega) (by omega) (by omega) (by omega)
  omega
namespace Sc
def G.mk2 (r : G) : G := ⟨withinI r.wt 11, withinI r.lf 7, withinI r.rd 14, withinI r.bs 3, withinI r.st (60 * bigI r.bs), withinI r.sts 7, withinI r.sh (40 * bigI r.bs), withinI r.shs 3, withinI r.id 40⟩
theorem G.mk2_ok (r : G) : r.mk2.ok := by
  have hb := bigI_bd r.bs
  have r1 := withinI_range r.wt 11 (by omega)
  have r2 := withinI_range r.lf 7 (by omega)
  have r3 := withinI_range r.rd 14 (by omega)
  have r4 := withinI_range r.bs 3 (by omega)
  have r5 := withinI_range r.st (60 * bigI r.bs) (by omega)
  have r6 := withinI_range r.sts 7 (by omega)
  have r7 := withinI_range r.sh (40 * bigI r.bs) (by omega)
  have r8 := withinI_range r.shs 3 (by omega)
  have r9 := withinI_range r.id 40 (by omega)
  refine ⟨?_, ?_, ?_, ?_, ?_, ?_, ?_, ?_, ?_⟩ <;> dsimp only [G.mk2] <;> omega
theorem G.mk2_rd (r : G) : r.mk2.rd ≤ 13 := by have r3 := withinI_range r.rd 14 (by omega); dsimp only [G.mk2]; omega
theorem G.mk2_small (r : G) : r.mk2.bs ≤ 2 ∧ r.mk2.st ≤ 20000 ∧ r.mk2.sh ≤ 20000 := by
  have hb := bigI_bd r.bs
  have r4 := withinI_range r.bs 3 (by omega)
  have r5 := withinI_range r.st (60 * bigI r.bs) (by omega)
  have r7 := withinI_range r.sh (40 * bigI r.bs) (by omega)
  refine ⟨?_, ?_, ?_⟩ <;> dsimp only [G.mk2] <;> omega
structure G.wf (r : G) : Prop where
  wt : wf64 r.wt
  lf : wf64 r.lf
  rd : wf64 r.rd
  bs : wf64 r.bs
  st : wf64 r.st
  sts : wf64 r.sts
  sh : wf64 r.sh
  shs : wf64 r.shs
  id : wf64 r.id
def G.cells (g : G) : List Value := [.int .i64 g.wt, .int .i64 g.lf, .int .i64 g.rd, .int .i64 g.bs, .int .i64 g.st, .int .i64 g.sts, .int .i64 g.sh, .int .i64 g.shs, .int .i64 g.id]
abbrev G.v (g : G) : Value := .agg g.cells.toArray
end Sc
set_option maxHeartbeats 16000000 in
theorem make_any (r : Sc.G) (w : World) (h : r.wf) : Calls Try.prog 14 #[r.v] w fun e w' => e = .returned r.mk2.v ∧ Grow.G w w' := by
  obtain ⟨h1, h2, h3, h4, h5, h6, h7, h8, h9⟩ := h
  have hb := bigI_bd r.bs
  have t1 := tdiv_wf h4 7 (by omega)
  have t2 := tdiv_wf h4 28 (by omega)
  have W1 := Lib.hid (fun w => (show Calls Try.prog 18 #[.int .i64 (IntKind.i64.wrap (r.bs.tdiv 7)), .int .i64 4] w fun e w' => e = .returned (.int .i64 (withinI (r.bs.tdiv 7) 4)) ∧ Grow.G w w' from by rw [IntWalk.i64_in _ t1]; exact quietG0 (within10_any (r.bs.tdiv 7) 4 w (by omega) (by omega) t1.1 t1.2)))
  have W2 := Lib.hid (fun w => (show Calls Try.prog 18 #[.int .i64 (IntKind.i64.wrap (r.bs.tdiv 28)), .int .i64 4] w fun e w' => e = .returned (.int .i64 (withinI (r.bs.tdiv 28) 4)) ∧ Grow.G w w' from by rw [IntWalk.i64_in _ t2]; exact quietG0 (within10_any (r.bs.tdiv 28) 4 w (by omega) (by omega) t2.1 t2.2)))
  have WW := Lib.hid (fun w => quietG0 (within10_any r.wt 11 w (by omega) (by omega) h1.1 h1.2))
  have WL := Lib.hid (fun w => quietG0 (within10_any r.lf 7 w (by omega) (by omega) h2.1 h2.2))
  have WR := Lib.hid (fun w => quietG0 (within10_any r.rd 14 w (by omega) (by omega) h3.1 h3.2))
  have WB := Lib.hid (fun w => quietG0 (within10_any r.bs 3 w (by omega) (by omega) h4.1 h4.2))
  have WS := Lib.hid (fun w => (show Calls Try.prog 18 #[.int .i64 r.st, .int .i64 (IntKind.i64.wrap (60 * bigI r.bs))] w fun e w' => e = .returned (.int .i64 (withinI r.st (60 * bigI r.bs))) ∧ Grow.G w w' from by rw [IntWalk.i64_in _ (⟨by omega, by omega⟩)]; exact quietG0 (within10_any r.st (60 * bigI r.bs) w (by omega) (by omega) h5.1 h5.2)))
  have WT := Lib.hid (fun w => quietG0 (within10_any r.sts 7 w (by omega) (by omega) h6.1 h6.2))
  have WU := Lib.hid (fun w => (show Calls Try.prog 18 #[.int .i64 r.sh, .int .i64 (IntKind.i64.wrap (40 * bigI r.bs))] w fun e w' => e = .returned (.int .i64 (withinI r.sh (40 * bigI r.bs))) ∧ Grow.G w w' from by rw [IntWalk.i64_in _ (⟨by omega, by omega⟩)]; exact quietG0 (within10_any r.sh (40 * bigI r.bs) w (by omega) (by omega) h7.1 h7.2)))
  have WV := Lib.hid (fun w => quietG0 (within10_any r.shs 3 w (by omega) (by omega) h8.1 h8.2))
  have WI := Lib.hid (fun w => quietG0 (within10_any r.id 40 w (by omega) (by omega) h9.1 h9.2))
  have EB := Lib.hid (show 1 + withinI (r.bs.tdiv 7) 4 * withinI (r.bs.tdiv 28) 4 * 30 = bigI r.bs from rfl)
  have p1 := withinI_range (r.bs.tdiv 7) 4 (by omega)
  have p2 := withinI_range (r.bs.tdiv 28) 4 (by omega)
  unfold Sc.G.v Sc.G.cells Sc.G.mk2
  dsimp only
  generalize bigI r.bs = big at *
  generalize withinI (r.bs.tdiv 7) 4 = x1 at *
  generalize withinI (r.bs.tdiv 28) 4 = x2 at *
  obtain ⟨wt, lf, rd, bs, st, sts, sh, shs, id⟩ := r
  dsimp only at *
  generalize withinI wt 11 = y1 at *
  generalize withinI lf 7 = y2 at *
  generalize withinI rd 14 = y3 at *
  generalize withinI bs 3 = y4 at *
  generalize withinI st (60 * big) = y5 at *
  generalize withinI sts 7 = y6 at *
  generalize withinI sh (40 * big) = y7 at *
  generalize withinI shs 3 = y8 at *
  generalize withinI id 40 = y9 at *
  have KC := Lib.hid (fun (w' : World) (h : Chg (fun _ => False) ((w.alloc (.cells #[.int .i64 wt, .int .i64 lf, .int .i64 rd, .int .i64 bs, .int .i64 st, .int .i64 sts, .int .i64 sh, .int .i64 shs, .int .i64 id] 23)).alloc (.cells #[.int .i64 0, .int .i64 0, .int .i64 0, .int .i64 0, .int .i64 0, .int .i64 0, .int .i64 0, .int .i64 0, .int .i64 0] 23)) w') =>
    have B := ((Blk.new w #[.int .i64 wt, .int .i64 lf, .int .i64 rd, .int .i64 bs, .int .i64 st, .int .i64 sts, .int .i64 sh, .int .i64 shs, .int .i64 id] 23).alloc (.cells #[.int .i64 0, .int .i64 0, .int .i64 0, .int .i64 0, .int .i64 0, .int .i64 0, .int .i64 0, .int .i64 0, .int .i64 0] 23)).chg h (fun h => h)
    (⟨(B.cell 0).trans rfl, (B.cell 1).trans rfl, (B.cell 2).trans rfl, (B.cell 3).trans rfl, (B.cell 4).trans rfl, (B.cell 5).trans rfl, (B.cell 6).trans rfl, (B.cell 7).trans rfl, (B.cell 8).trans rfl, trivial⟩ : w'.cell? ⟨w.heap.size, 0, none⟩ = some (.int .i64 wt) ∧ w'.cell? ⟨w.heap.size, 1, none⟩ = some (.int .i64 lf) ∧ w'.cell? ⟨w.heap.size, 2, none⟩ = some (.int .i64 rd) ∧ w'.cell? ⟨w.heap.size, 3, none⟩ = some (.int .i64 bs) ∧ w'.cell? ⟨w.heap.size, 4, none⟩ = some (.int .i64 st) ∧ w'.cell? ⟨w.heap.size, 5, none⟩ = some (.int .i64 sts) ∧ w'.cell? ⟨w.heap.size, 6, none⟩ = some (.int .i64 sh) ∧ w'.cell? ⟨w.heap.size, 7, none⟩ = some (.int .i64 shs) ∧ w'.cell? ⟨w.heap.size, 8, none⟩ = some (.int .i64 id) ∧ True))
  have B2 := Lib.hid ((Blk.new (w.alloc (.cells #[.int .i64 wt, .int .i64 lf, .int .i64 rd, .int .i64 bs, .int .i64 st, .int .i64 sts, .int .i64 sh, .int .i64 shs, .int .i64 id] 23)) #[.int .i64 0, .int .i64 0, .int .i64 0, .int .i64 0, .int .i64 0, .int .i64 0, .int .i64 0, .int .i64 0, .int .i64 0] 23))
  simp only [World.size_alloc] at B2
  clear h1 h2 h3 h5 h6 h7 h8 h9
  go_enter Try.func14, Try.ntmps14
  have hm : 0 ≤ x1 * x2 ∧ x1 * x2 ≤ 9 := by
    have q1 : 0 ≤ x1 * x2 := Int.mul_nonneg p1.1 p2.1
    have q2 : x1 * x2 ≤ 3 * 3 := Int.mul_le_mul (by omega) (by omega) (by omega) (by omega)
    omega
  have hw1 : IntKind.i64.wrap (x1 * x2) = x1 * x2 := IntWalk.i64_in _ ⟨by omega, by omega⟩
  have hw2 : IntKind.i64.wrap (x1 * x2 * 30) = x1 * x2 * 30 := IntWalk.i64_in _ ⟨by omega, by omega⟩
  have hw3 : IntKind.i64.wrap (1 + x1 * x2 * 30) = 1 + x1 * x2 * 30 := IntWalk.i64_in _ ⟨by omega, by omega⟩
  go_wp2_with fail
  refine Evo2.start' (ℓ := none) (S := Chg (fun _ => False)) (E := Grow.G) (by kernel_rfl) ⟨Chg.pre _, by decide +kernel, (by intro c a d v w h; cases d <;> exact h), by decide +kernel⟩ (fun ok => ?_)
  refine Evo2.va ok 0 _ _ ?_
  first | (refine Evo2.vl ok 1 KC.out (Chg.refl (fun _ => False) _) _ _ ?_) | (refine Evo2.va ok 1 _ _ ?_)
  refine Evo2.va ok 2 _ _ ?_
  (refine Evo2.cal ok 3 ?_ 18 ?_ ?_ ?_ ?_; rotate_left 2; (focus (intro w'; go_simp <;> with_reducible rfl)); (focus (intro w' g'; with_reducible exact W1.out w')); simp only [Act.put, L0, L1, L2])
  refine Evo2.va ok 4 _ _ ?_
  first | (refine Evo2.vl ok 5 KC.out (Chg.refl (fun _ => False) _) _ _ ?_) | (refine Evo2.va ok 5 _ _ ?_)
  refine Evo2.va ok 6 _ _ ?_
  (refine Evo2.cal ok 7 ?_ 18 ?_ ?_ ?_ ?_; rotate_left 2; (focus (intro w'; go_simp <;> with_reducible rfl)); (focus (intro w' g'; with_reducible exact W2.out w')); simp only [Act.put, L0, L1, L2])
  refine Evo2.va ok 8 _ _ ?_
  refine Evo2.va ok 9 _ _ ?_
  refine Evo2.va ok 10 _ _ ?_
  refine Evo2.va ok 11 _ _ ?_
  refine Evo2.done (by decide +kernel) (fun wz gz => ?_)
  have AZ := Chg.trans (Chg.refl (fun _ => False) _) (Chg.grow gz)
  simp only [hw1, hw2, hw3, EB.out]
  have KD := Lib.hid (fun (w' : World) (h : Chg (fun _ => False) wz w') => KC.out w' (AZ.trans h))
  have C0 := Lib.hid AZ
  clear AZ gz hw1 hw2 hw3 hm p1 p2
  go_wp2_with fail
  refine Evo2.start' (ℓ := some 32) (S := Chg (fun _ => False)) (E := Grow.G) (by kernel_rfl) ⟨Chg.pre _, by decide +kernel, (by intro c a d v w h; cases d <;> exact h), by decide +kernel⟩ (fun ok => ?_)
  refine Evo2.va ok 0 _ _ ?_
  first | (refine Evo2.vl ok 1 KD.out (Chg.refl (fun _ => False) _) _ _ ?_) | (refine Evo2.va ok 1 _ _ ?_)
  (refine Evo2.cal ok 2 ?_ 18 ?_ ?_ ?_ ?_; rotate_left 2; (focus (intro w'; go_simp <;> with_reducible rfl)); (focus (intro w' g'; with_reducible exact WW.out w')); simp only [Act.put, L0, L1, L2])
  refine Evo2.va ok 3 _ _ ?_
  first | (refine Evo2.vl ok 4 KD.out (Chg.refl (fun _ => False) _) _ _ ?_) | (refine Evo2.va ok 4 _ _ ?_)
  (refine Evo2.cal ok 5 ?_ 18 ?_ ?_ ?_ ?_; rotate_left 2; (focus (intro w'; go_simp <;> with_reducible rfl)); (focus (intro w' g'; with_reducible exact WL.out w')); simp only [Act.put, L0, L1, L2])
  refine Evo2.va ok 6 _ _ ?_
  first | (refine Evo2.vl ok 7 KD.out (Chg.refl (fun _ => False) _) _ _ ?_) | (refine Evo2.va ok 7 _ _ ?_)
  (refine Evo2.cal ok 8 ?_ 18 ?_ ?_ ?_ ?_; rotate_left 2; (focus (intro w'; go_simp <;> with_reducible rfl)); (focus (intro w' g'; with_reducible exact WR.out w')); simp only [Act.put, L0, L1, L2])
  refine Evo2.va ok 9 _ _ ?_
  first | (refine Evo2.vl ok 10 KD.out (Chg.refl (fun _ => False) _) _ _ ?_) | (refine Evo2.va ok 10 _ _ ?_)
  (refine Evo2.cal ok 11 ?_ 18 ?_ ?_ ?_ ?_; rotate_left 2; (focus (intro w'; go_simp <;> with_reducible rfl)); (focus (intro w' g'; with_reducible exact WB.out w')); simp only [Act.put, L0, L1, L2])
  refine Evo2.va ok 12 _ _ ?_
  first | (refine Evo2.vl ok 13 KD.out (Chg.refl (fun _ => False) _) _ _ ?_) | (refine Evo2.va ok 13 _ _ ?_)
  refine Evo2.va ok 14 _ _ ?_
  refine Evo2.va ok 15 _ _ ?_
  (refine Evo2.cal ok 16 ?_ 18 ?_ ?_ ?_ ?_; rotate_left 2; (focus (intro w'; go_simp <;> with_reducible rfl)); (focus (intro w' g'; with_reducible exact WS.out w')); simp only [Act.put, L0, L1, L2])
  refine Evo2.va ok 17 _ _ ?_
  first | (refine Evo2.vl ok 18 KD.out (Chg.refl (fun _ => False) _) _ _ ?_) | (refine Evo2.va ok 18 _ _ ?_)
  (refine Evo2.cal ok 19 ?_ 18 ?_ ?_ ?_ ?_; rotate_left 2; (focus (intro w'; go_simp <;> with_reducible rfl)); (focus (intro w' g'; with_reducible exact WT.out w')); simp only [Act.put, L0, L1, L2])
  refine Evo2.va ok 20 _ _ ?_
  first | (refine Evo2.vl ok 21 KD.out (Chg.refl (fun _ => False) _) _ _ ?_) | (refine Evo2.va ok 21 _ _ ?_)
  refine Evo2.va ok 22 _ _ ?_
  refine Evo2.va ok 23 _ _ ?_
  (refine Evo2.cal ok 24 ?_ 18 ?_ ?_ ?_ ?_; rotate_left 2; (focus (intro w'; go_simp <;> with_reducible rfl)); (focus (intro w' g'; with_reducible exact WU.out w')); simp only [Act.put, L0, L1, L2])
  refine Evo2.va ok 25 _ _ ?_
  first | (refine Evo2.vl ok 26 KD.out (Chg.refl (fun _ => False) _) _ _ ?_) | (refine Evo2.va ok 26 _ _ ?_)
  (refine Evo2.cal ok 27 ?_ 18 ?_ ?_ ?_ ?_; rotate_left 2; (focus (intro w'; go_simp <;> with_reducible rfl)); (focus (intro w' g'; with_reducible exact WV.out w')); simp only [Act.put, L0, L1, L2])
  refine Evo2.va ok 28 _ _ ?_
  first | (refine Evo2.vl ok 29 KD.out (Chg.refl (fun _ => False) _) _ _ ?_) | (refine Evo2.va ok 29 _ _ ?_)
  (refine Evo2.cal ok 30 ?_ 18 ?_ ?_ ?_ ?_; rotate_left 2; (focus (intro w'; go_simp <;> with_reducible rfl)); (focus (intro w' g'; with_reducible exact WI.out w')); simp only [Act.put, L0, L1, L2])
  refine Evo2.va ok 31 _ _ ?_
  refine Evo2.all [32] (by decide +kernel) rfl ?_
  intro wp1 gp1 iq hq
  simp only [List.mem_cons, List.mem_nil_iff, or_false] at hq
  have AP1 := Chg.trans (Chg.refl (fun _ => False) _) (Chg.grow gp1)
  subst hq
  refine Evo2.runs (by rfl) (by rfl) (fun K' hK' => ?_)
  (try obtain ⟨q1, q2, q3, q4, q5, q6, q7, q8, q9⟩ := KD.out wp1 AP1)
  have BQ := (B2.out.chg C0.out (fun h => h)).chg AP1 (fun h => h); have gl := BQ.lt; have f0 := BQ.free 0; have f1 := BQ.free 1; have f2 := BQ.free 2; have f3 := BQ.free 3; have f4 := BQ.free 4; have f5 := BQ.free 5; have f6 := BQ.free 6; have f7 := BQ.free 7; have f8 := BQ.free 8; have e0 := (BQ.cell 0).trans rfl; have e1 := (BQ.cell 1).trans rfl; have e2 := (BQ.cell 2).trans rfl; have e3 := (BQ.cell 3).trans rfl; have e4 := (BQ.cell 4).trans rfl; have e5 := (BQ.cell 5).trans rfl; have e6 := (BQ.cell 6).trans rfl; have e7 := (BQ.cell 7).trans rfl; have e8 := (BQ.cell 8).trans rfl; clear BQ
  go_simp
  (try (simp only [Evo.after_value, Evo.after_skip]))
  refine hK'.out _ _ ?_
  clear hK'
  simp only [Act.put, L0, L1, L2]
  (try clear gl f0 f1 f2 f3 f4 f5 f6 f7 f8 e0 e1 e2 e3 e4 e5 e6 e7 e8)
  (try clear q1 q2 q3 q4 q5 q6 q7 q8 q9)
  refine ⟨.inl (by first | rfl | trivial), ?_⟩
  refine Evo2.done (by decide +kernel) (fun wz gz => ?_)
  have BF := (((((((((((B2.out.chg C0.out (fun h => h)).chg AP1 (fun h => h)).set 0 (.int .i64 y1)).set 1 (.int .i64 y2)).set 2 (.int .i64 y3)).set 3 (.int .i64 y4)).set 4 (.int .i64 y5)).set 5 (.int .i64 y6)).set 6 (.int .i64 y7)).set 7 (.int .i64 y8)).set 8 (.int .i64 y9)).grow gz
  simp only [List.setIfInBounds_toArray, List.set_cons_zero, List.set_cons_succ] at BF
  have GW : Grow.G w wp1 := (show Grow.G w ((w.alloc _).alloc _) by (repeat (first | with_reducible exact Grow.G.refl _ | with_reducible exact Below.refl _ _ | with_reducible refine Grow.G.alloc ?_ _ | with_reducible refine Grow.G.trans ?_ hb1 | ((with_reducible refine Below.setCell ?_ ?_ _); rotate_left; (focus (first | omega | (simp; done) | (simp; omega)))) | with_reducible assumption | with_reducible refine Grow.G.trans ?_ (by with_reducible assumption)))).trans ((C0.out.trans AP1).toGrow (fun _ _ h => h))
  have lw : w.heap.size + 1 < wp1.heap.size := ((B2.out.chg C0.out (fun h => h)).chg AP1 (fun h => h)).lt
  have GF : Grow.G w wz := Below.trans ((by (repeat (refine Below.setCell ?_ (by first | (simp; done) | omega | (simp; omega)) _)); exact GW))
    (Below.mono gz (by have := GW.size; simpa [World.setCell] using this))
  have HF := Lib.hid GF
  have HBF := Lib.hid BF
  clear BF GF gz GW AP1
  go_wp2_with fail
  have B9 := HBF.out
  refine bodyPost_ret (v := .agg #[.int .i64 y1, .int .i64 y2, .int .i64 y3, .int .i64 y4, .int .i64 y5, .int .i64 y6, .int .i64 y7, .int .i64 y8, .int .i64 y9]) (by simp [results, Try.results14, go_sem, B9.cell]) rfl ?_
  exact ⟨rfl, HF.out⟩
set_option maxHeartbeats 4000000 in
theorem dec10_any (g : Sc.G) (c : Cfg) (w : World) (hg : g.ok) (hc : (scC c).ok) :
    Calls Try.prog 16 #[g.v, c.v] w fun e w' => e = .returned (stV (Sc.want g (scC c)) (Sc.left g (scC c))) ∧ Grow.G w w' := by
  have DC := Lib.hid (fun w => decide_any g c w hg hc)
  unfold Sc.G.args at DC
  unfold Sc.G.v Sc.G.cells
  generalize Sc.want g (scC c) = W at *
  generalize Sc.left g (scC c) = L at *
  obtain ⟨wt, lf, rd, bs, st, sts, sh, shs, id⟩ := g
  obtain ⟨nm, im, co, mn, mx, gr⟩ := c
  unfold Cfg.v at *
  clear hg hc
  dsimp only at *
  go_enter Try.func16, Try.ntmps16
  go_wp2_with fail
  refine (DC.out _).mono ?_
  rintro e w1 ⟨rfl, hg⟩
  have B2 := (Blk.new ((w.alloc (.cells #[.int .i64 wt, .int .i64 lf, .int .i64 rd, .int .i64 bs, .int .i64 st, .int .i64 sts, .int .i64 sh, .int .i64 shs, .int .i64 id] 23)).alloc (.cells #[.string nm, .int .i64 im, .int .i64 co, .int .i64 mn, .int .i64 mx, .int .i64 gr] 25)) #[.int .i64 0, .int .i64 0] 30).grow hg
  simp only [World.size_alloc] at B2
  have HM : Hid (Mem w w1 [(w.heap.size + 2, [.int .i64 0, .int .i64 0], 30)]) := Lib.hid ⟨(show Grow.G w (((w.alloc _).alloc _).alloc _) by (repeat (first | with_reducible exact Grow.G.refl _ | with_reducible exact Below.refl _ _ | with_reducible refine Grow.G.alloc ?_ _ | with_reducible refine Grow.G.trans ?_ hb1 | ((with_reducible refine Below.setCell ?_ ?_ _); rotate_left; (focus (first | omega | (simp; done) | (simp; omega)))) | with_reducible assumption | with_reducible refine Grow.G.trans ?_ (by with_reducible assumption)))).trans hg, by
    intro b hb
    simp only [List.mem_cons, List.mem_nil_iff, or_false] at hb
    subst hb
    exact ⟨B2, Nat.le_add_right _ _⟩, by simp⟩
  clear hg B2
  go_wp2_with ((refine Mem.storeAll 0 (t := 30) rfl rfl rfl rfl (n := 2) (by kernel_rfl) HM.out rfl rfl rfl rfl ?_; intro V1 HMm CV1))
  simp only [K0, K1, L1, L2, K2, K3, K4, K5, K6, K7, Nat.reduceAdd, Nat.reduceSub] at HMm
  replace HM := Lib.hid HMm
  clear HMm
  refine Stay.go ?_
  go_wp2_with fail
  have B2 := HM.out.blk (i := 0) rfl
  refine bodyPost_ret (v := stV W L) (by simp [results, Try.results16, go_sem, B2.cell]) rfl ?_
  exact ⟨rfl, HM.out.below⟩
def knG : Sc.G := ⟨0, 0, 0, 0, 6, 6, 0, 1, 0⟩
def knC : Cfg := ⟨⟨#[]⟩, 0, 1, 0, 5, 0⟩
theorem kn_ok : knG.ok ∧ (scC knC).ok := ⟨⟨by decide, by decide, by decide, by decide, by decide, by decide, by decide, by decide, by decide⟩, ⟨by decide, by decide, by decide, by decide⟩⟩
set_option maxHeartbeats 4000000 in
theorem known10_any (w : World) : Calls Try.prog 13 #[] w fun e w' => e = .returned (.bool true) ∧ Below w.heap.size w w' := by
  have DC := Lib.hid (fun w => decide_any knG knC w kn_ok.1 kn_ok.2)
  have NC := Lib.hid (fun w => need_any 9 2 2 w (by decide) (by decide) (by decide))
  rw [show Sc.need 9 2 2 = 3 by decide] at NC
  rw [show Sc.want knG (scC knC) = 1 by decide, show Sc.left knG (scC knC) = 0 by decide] at DC
  unfold Sc.G.args knG knC Cfg.v at DC
  dsimp only at DC
  go_enter Try.func13, Try.ntmps13
  go_wp2_with fail
  refine (DC.out _).mono ?_
  rintro e w1 ⟨rfl, hg⟩
  have HM : Hid (Mem w w1 []) := Lib.hid ⟨hg, by simp, by simp⟩
  clear hg
  go_wp2_with ((refine Mem.storeAll 0 (t := 30) rfl rfl rfl rfl (n := 2) (by kernel_rfl) (Mem.alloc' HM.out _ _ rfl) rfl rfl rfl rfl ?_; intro V1 HMm CV1))
  simp only [K0, K1, L1, L2, K2, K3, K4, K5, K6, K7, Nat.reduceAdd, Nat.reduceSub] at HMm
  replace HM := Lib.hid HMm
  clear HMm
  refine Stay.go ?_
  go_wp2_with fail
  refine (NC.out _).mono ?_
  rintro e w2 ⟨rfl, hg⟩
  replace HM := Lib.hid (HM.out.grow hg)
  clear hg
  have c0 := HM.out.cell (i := 0) (o := 0) rfl rfl
  have c1 := HM.out.cell (i := 0) (o := 1) rfl rfl
  go_wp2_with fail
  go_ret
  exact ⟨rfl, HM.out.below⟩
end Go.Proofs.Ytifkombocmdmfaa


/- The walk of FleetKnown. -/
import Derived.Test.YtfnpghekkhnjkaaZ75
import Derived.Test.YtfnpghekkhnjkaaZ73
import Derived.Test.YtfnpghekkhnjkaaZ72
namespace Go.Proofs.Ytfnpghekkhnjkaa
set_option maxRecDepth 100000
set_option linter.unusedVariables false
set_option linter.unusedSimpArgs false
set_option linter.unnecessarySimpa false
open Go.RowKit Go.Args

namespace Kn11
def s0 : Fl := Fl.new 4
def s1 : Fl := s0.scale rvA1 2 3
def s2 : Fl := s1.scale rvB1 1 3
def s3 : Fl := s2.aftUp 1
def s4 : Fl := s3.aftUp 2
def s5 : Fl := s4.aftTake rvA1 10
def s6 : Fl := s5.aftTake rvA1 11
def s7 : Fl := s6.aftTake rvA1 12
def s8 : Fl := s7.scale rvA1 2 2
def s9 : Fl := s8.scale rvA1 2 1
def t0 : Fl := s9.scale rvA1 2 0
def t1 : Fl := t0.aftGive 10
def t2 : Fl := t1.scale rvB1 1 3
end Kn11
open Kn11
theorem kn_a : s0.made rvA1 3 = [1, 2, 3] ∧ s0.gone rvA1 3 = [] ∧ s1.made rvB1 3 = [4] ∧ s1.gone rvB1 3 = [] ∧ s2.up 1 = 0 ∧ s3.up 2 = 0 := ⟨by decide +kernel, by decide +kernel, by decide +kernel, by decide +kernel, by decide +kernel, by decide +kernel⟩
theorem kn_b : s4.take rvA1 10 = 1 ∧ s4.takeB rvA1 10 = true ∧ s5.take rvA1 11 = 2 ∧ s5.takeB rvA1 11 = true ∧ s6.take rvA1 12 = 1 ∧ s6.takeB rvA1 12 = true := ⟨by decide +kernel, by decide +kernel, by decide +kernel, by decide +kernel, by decide +kernel, by decide +kernel⟩
theorem kn_c : s7.take rvB1 13 = 0 ∧ s7.takeB rvB1 13 = false ∧ s7.take rvA1 12 = 0 ∧ s7.takeB rvA1 12 = false := ⟨by decide +kernel, by decide +kernel, by decide +kernel, by decide +kernel⟩
theorem kn_d : s7.made rvA1 2 = [] ∧ s7.gone rvA1 2 = [3] ∧ s8.made rvA1 1 = [] ∧ s8.gone rvA1 1 = [2] ∧ s9.made rvA1 0 = [] ∧ s9.gone rvA1 0 = [1] := ⟨by decide +kernel, by decide +kernel, by decide +kernel, by decide +kernel, by decide +kernel, by decide +kernel⟩
theorem kn_e : t0.giveR 10 = rvA1 ∧ t0.give 10 = 0 ∧ t1.giveR 10 = ⟨#[]⟩ ∧ t1.give 10 = 6 ∧ t1.made rvB1 3 = [5] ∧ t1.gone rvB1 3 = [] := ⟨by decide +kernel, by decide +kernel, by decide +kernel, by decide +kernel, by decide +kernel, by decide +kernel⟩
theorem kn_f : t2.l.length = 4 ∧ t2.ofP 3 = ⟨#[]⟩ ∧ t2.ofP 2 = rvA1 ∧ t2.ofP 5 = rvB1 := ⟨by decide +kernel, by decide +kernel, by decide +kernel, by decide +kernel⟩
theorem kn_g : (t0.pods rvA1).length = 2 ∧ (t1.pods rvA1).length = 2 ∧ (t0.pods rvA1).map (fun h => (h.id, h.p.st, h.load)) = [(1, 3, 2), (2, 3, 1)] ∧ (t1.pods rvA1).map (fun h => (h.id, h.p.st, h.load)) = [(1, 3, 1), (2, 3, 1)] := ⟨by decide +kernel, by decide +kernel, by decide +kernel, by decide +kernel⟩
theorem kn_n : s0.n ≤ 99000 ∧ s1.n ≤ 99000 ∧ s7.n ≤ 99000 ∧ s8.n ≤ 99000 ∧ s9.n ≤ 99000 ∧ t1.n ≤ 99000 := ⟨by decide +kernel, by decide +kernel, by decide +kernel, by decide +kernel, by decide +kernel, by decide +kernel⟩
theorem looks_of {l : List Po} {m : List (Int × Int × Nat)} (h : l.map (fun h => (h.id, h.p.st, h.load)) = m) : looks l = m.flatMap fun x => [.int .i64 x.1, .int .i64 x.2.1, .int .i64 x.2.2] := by
  subst h
  unfold looks
  rw [List.flatMap_map]
  rfl
set_option maxHeartbeats 64000000 in
theorem walkFleetKnown (w : World) (n : Int) (hn : wf64 n) :
    Calls Try.prog 6 #[.int .i64 n] w fun e w' => e = .returned (.bool true) ∧ Below w.heap.size w w' := by
  have KN := Lib.hid (fun w => known11_any w)
  have FE := Lib.hid Emp.foot
  have WN := Lib.hid (fun w => within11_any n 6 w (by omega) (by omega) hn.1 hn.2)
  have rk := withinI_range n 6 (by omega)
  generalize withinI n 6 = k at *
  clear hn
  go_enter Try.func6, Try.ntmps6
  go_wp2_with fail
  refine (KN.out _).mono ?_
  rintro e w1 ⟨rfl, hg⟩
  have H := Lib.hid ((Hold.nil w).grow Emp.foot hg)
  clear hg
  go_wp2_with fail
  refine (hold_fnew H.out FE.out 4 (by decide)).mono ?_
  rintro e w2 ⟨g, rfl, hh⟩
  replace H := Lib.hid hh
  have hf : Foot Emp := Emp.foot
  have HF := Lib.hid hf
  clear hh hf
  go_wp2_with fail
  refine (hold_fscale (f' := s1) H.out HF.out rvA1 2 3 (by decide) (by decide) (by decide) kn_n.1 kn_a.1 kn_a.2.1 rfl).mono ?_
  rintro e w1s ⟨v1, u1, rfl, hh⟩
  obtain ⟨am1, dm1, rfl, -⟩ := hold_row hh
  obtain ⟨ag1, dg1, rfl, -⟩ := hold_row3 hh
  replace H := Lib.hid (drop3 hh)
  replace HF := Lib.hid ((IntO.foot (.slice am1 ([1, 2, 3] : List Int).length dm1) [1, 2, 3]).sep HF.out)
  clear hh
  go_wp2_with fail
  refine (hold_fscale (f' := s2) H.out HF.out rvB1 1 3 (by decide) (by decide) (by decide) kn_n.2.1 kn_a.2.2.1 kn_a.2.2.2.1 rfl).mono ?_
  rintro e w2s ⟨v2, u2, rfl, hh⟩
  obtain ⟨am2, dm2, rfl, -⟩ := hold_row hh
  obtain ⟨ag2, dg2, rfl, -⟩ := hold_row3 hh
  replace H := Lib.hid (drop3 hh)
  replace HF := Lib.hid ((IntO.foot (.slice am2 ([4] : List Int).length dm2) [4]).sep HF.out)
  clear hh
  go_wp2_with fail
  refine (hold_fup (er := 0) (f' := s3) H.out HF.out 1 ⟨by decide, by decide⟩ kn_a.2.2.2.2.1 rfl).mono ?_
  rintro e ws1 ⟨rfl, hst⟩
  replace H := Lib.hid hst
  clear hst
  go_wp2_with fail
  refine (hold_fup (er := 0) (f' := s4) H.out HF.out 2 ⟨by decide, by decide⟩ kn_a.2.2.2.2.2 rfl).mono ?_
  rintro e ws2 ⟨rfl, hst⟩
  replace H := Lib.hid hst
  clear hst
  go_wp2_with fail
  refine (hold_ftake (er := 1) (bo := true) (f' := s5) H.out HF.out rvA1 10 (by decide) ⟨by decide, by decide⟩ kn_b.1 kn_b.2.1 rfl).mono ?_
  rintro e ws3 ⟨rfl, hst⟩
  replace H := Lib.hid hst
  clear hst
  go_wp2_with fail
  refine (hold_ftake (er := 2) (bo := true) (f' := s6) H.out HF.out rvA1 11 (by decide) ⟨by decide, by decide⟩ kn_b.2.2.1 kn_b.2.2.2.1 rfl).mono ?_
  rintro e ws4 ⟨rfl, hst⟩
  replace H := Lib.hid hst
  clear hst
  go_wp2_with fail
  refine (hold_ftake (er := 1) (bo := true) (f' := s7) H.out HF.out rvA1 12 (by decide) ⟨by decide, by decide⟩ kn_b.2.2.2.2.1 kn_b.2.2.2.2.2 rfl).mono ?_
  rintro e ws5 ⟨rfl, hst⟩
  replace H := Lib.hid hst
  clear hst
  go_wp2_with fail
  refine (hold_ftake (er := 0) (bo := false) (f' := s7) H.out HF.out rvB1 13 (by decide) ⟨by decide, by decide⟩ kn_c.1 kn_c.2.1 (take_same kn_c.2.1)).mono ?_
  rintro e ws6 ⟨rfl, hst⟩
  replace H := Lib.hid hst
  clear hst
  go_wp2_with fail
  refine (hold_ftake (er := 0) (bo := false) (f' := s7) H.out HF.out rvA1 12 (by decide) ⟨by decide, by decide⟩ kn_c.2.2.1 kn_c.2.2.2 (take_same kn_c.2.2.2)).mono ?_
  rintro e ws7 ⟨rfl, hst⟩
  replace H := Lib.hid hst
  clear hst
  go_wp2_with fail
  refine (hold_fscale (f' := s8) H.out HF.out rvA1 2 2 (by decide) (by decide) (by decide) kn_n.2.2.1 kn_d.1 kn_d.2.1 rfl).mono ?_
  rintro e w3s ⟨v3, u3, rfl, hh⟩
  obtain ⟨am3, dm3, rfl, -⟩ := hold_row hh
  obtain ⟨ag3, dg3, rfl, -⟩ := hold_row3 hh
  replace H := Lib.hid (drop2 hh)
  replace HF := Lib.hid ((IntO.foot (.slice ag3 ([3] : List Int).length dg3) [3]).sep HF.out)
  clear hh
  go_wp2_with fail
  refine (hold_fscale (f' := s9) H.out HF.out rvA1 2 1 (by decide) (by decide) (by decide) kn_n.2.2.2.1 kn_d.2.2.1 kn_d.2.2.2.1 rfl).mono ?_
  rintro e w4s ⟨v4, u4, rfl, hh⟩
  obtain ⟨am4, dm4, rfl, -⟩ := hold_row hh
  obtain ⟨ag4, dg4, rfl, -⟩ := hold_row3 hh
  replace H := Lib.hid (drop2 hh)
  replace HF := Lib.hid ((IntO.foot (.slice ag4 ([2] : List Int).length dg4) [2]).sep HF.out)
  clear hh
  go_wp2_with fail
  refine (hold_fscale (f' := t0) H.out HF.out rvA1 2 0 (by decide) (by decide) (by decide) kn_n.2.2.2.2.1 kn_d.2.2.2.2.1 kn_d.2.2.2.2.2 rfl).mono ?_
  rintro e w5s ⟨v5, u5, rfl, hh⟩
  obtain ⟨am5, dm5, rfl, -⟩ := hold_row hh
  obtain ⟨ag5, dg5, rfl, -⟩ := hold_row3 hh
  replace H := Lib.hid (drop2 hh)
  replace HF := Lib.hid ((IntO.foot (.slice ag5 ([1] : List Int).length dg5) [1]).sep HF.out)
  clear hh
  go_wp2_with fail
  refine (hold_fpods H.out HF.out rvA1 (by decide)).mono ?_
  rintro e w6p ⟨v6, rfl, hh⟩
  obtain ⟨ap6, dp6, rfl⟩ := hold_look hh
  replace H := Lib.hid hh
  replace HF := Lib.hid ((LookO.foot (.slice ap6 (t0.pods rvA1).length dp6) (t0.pods rvA1)).sep HF.out)
  clear hh
  go_wp2_with fail
  refine (hold_fgive (st := ⟨#[97, 45, 49]⟩) (er := 0) (f' := t1) H.out HF.out 10 ⟨by decide, by decide⟩ kn_e.1 kn_e.2.1 rfl).mono ?_
  rintro e ws8 ⟨rfl, hst⟩
  replace H := Lib.hid hst
  clear hst
  go_wp2_with fail
  refine (hold_fgive (st := ⟨#[]⟩) (er := 6) (f' := t1) H.out HF.out 10 ⟨by decide, by decide⟩ kn_e.2.2.1 kn_e.2.2.2.1 (give_same kn_e.2.2.2.1)).mono ?_
  rintro e ws9 ⟨rfl, hst⟩
  replace H := Lib.hid hst
  clear hst
  go_wp2_with fail
  refine (hold_fpods H.out HF.out rvA1 (by decide)).mono ?_
  rintro e w7p ⟨v7, rfl, hh⟩
  obtain ⟨ap7, dp7, rfl⟩ := hold_look hh
  replace H := Lib.hid hh
  replace HF := Lib.hid ((LookO.foot (.slice ap7 (t1.pods rvA1).length dp7) (t1.pods rvA1)).sep HF.out)
  clear hh
  go_wp2_with fail
  refine (hold_fscale (f' := t2) H.out HF.out rvB1 1 3 (by decide) (by decide) (by decide) kn_n.2.2.2.2.2 kn_e.2.2.2.2.1 kn_e.2.2.2.2.2 rfl).mono ?_
  rintro e w8s ⟨v8, u8, rfl, hh⟩
  obtain ⟨am8, dm8, rfl, -⟩ := hold_row hh
  obtain ⟨ag8, dg8, rfl, -⟩ := hold_row3 hh
  replace H := Lib.hid (drop3 hh)
  replace HF := Lib.hid ((IntO.foot (.slice am8 ([5] : List Int).length dm8) [5]).sep HF.out)
  clear hh
  go_wp2_with fail
  simp only [kn_g.1, kn_g.2.1]
  obtain ⟨F, ⟨_, _, _, ⟨_, _, r8, ⟨_, _, l7, ⟨_, _, l6, ⟨_, _, r5, ⟨_, _, r4, ⟨_, _, r3, ⟨_, _, r2, ⟨_, _, r1, -⟩, -⟩, -⟩, -⟩, -⟩, -⟩, -⟩, -⟩, -⟩, -⟩ := H.out.st
  have R1 := Lib.hid (off_intR r1.1)
  have R2 := Lib.hid (off_intR r2.1)
  have R3 := Lib.hid (off_intR r3.1)
  have R4 := Lib.hid (off_intR r4.1)
  have R5 := Lib.hid (off_intR r5.1)
  have R8 := Lib.hid (off_intR r8.1)
  obtain ⟨g6, o6, c6, hv6, -, -, -, hc6⟩ := l6.1.at.resolve_left (fun q => by have := q.2.1; rw [kn_g.1] at this; cases this)
  obtain ⟨g7, o7, c7, hv7, -, -, -, hc7⟩ := l7.1.at.resolve_left (fun q => by have := q.2.1; rw [kn_g.2.1] at this; cases this)
  cases hv6
  cases hv7
  rw [looks_of kn_g.2.2.1] at hc6
  rw [looks_of kn_g.2.2.2] at hc7
  have C6 := Lib.hid (And.intro (hc6 1 _ rfl) (And.intro (hc6 2 _ rfl) (And.intro (hc6 4 _ rfl) (hc6 5 _ rfl))))
  have C7 := Lib.hid (hc7 2 _ rfl)
  clear hc6 hc7 r1 r2 r3 r4 r5 r8 l6 l7
  have FT := Lib.hid ((FlP.foot g t2).sep HF.out)
  have LV := Lib.hid (fun w' (h : Grow.G w8s w') => (hold_flive (er := 4) (H.out.grow FT.out h) HF.out (by rw [kn_f.1]; rfl)).mono fun e w'' ⟨q1, q2, _⟩ => (⟨q1, q2⟩ : e = _ ∧ Grow.G w' w''))
  have O3 := Lib.hid (fun w' (h : Grow.G w8s w') => (hold_fof (st := ⟨#[]⟩) (H.out.grow FT.out h) HF.out 3 ⟨by decide, by decide⟩ kn_f.2.1).mono fun e w'' ⟨q1, q2, _⟩ => (⟨q1, q2⟩ : e = _ ∧ Grow.G w' w''))
  have O2 := Lib.hid (fun w' (h : Grow.G w8s w') => (hold_fof (st := ⟨#[97, 45, 49]⟩) (H.out.grow FT.out h) HF.out 2 ⟨by decide, by decide⟩ kn_f.2.2.1).mono fun e w'' ⟨q1, q2, _⟩ => (⟨q1, q2⟩ : e = _ ∧ Grow.G w' w''))
  have O5 := Lib.hid (fun w' (h : Grow.G w8s w') => (hold_fof (st := ⟨#[98, 45, 49]⟩) (H.out.grow FT.out h) HF.out 5 ⟨by decide, by decide⟩ kn_f.2.2.2).mono fun e w'' ⟨q1, q2, _⟩ => (⟨q1, q2⟩ : e = _ ∧ Grow.G w' w''))
  refine Free.region (by kernel_rfl) (by decide +kernel) (by decide +kernel) (fun wf gf => ?_)
  (refine Free.va [] _ _ _ ?_)
  refine Free.ma [] (fun β => (.slice (some ⟨β 1, 0, none⟩) 3 3)) _ _ _ _ ?_ (hv := by intro β w1 hg hf; have e1 := cell_later (gf.trans hg) C6.out.1; have e2 := cell_later (gf.trans hg) C6.out.2.1; have e3 := cell_later (gf.trans hg) C6.out.2.2.1; have e4 := cell_later (gf.trans hg) C6.out.2.2.2; have e5 := cell_later (gf.trans hg) C7.out; show _ = Result.ok (Next.value (.slice (some ⟨w1.heap.size, 0, none⟩) 3 3)) _; go_simp <;> with_reducible rfl) (hl := by intro β β' hk; (try dsimp only); rw [hk 1 (.inl rfl)])
  refine Free.ca [0, 1] _ _ _ _ _ ?_ (hcall := by intro β w1 hg hf; have f1 := Free.fact_of (hf 1 (by decide)) rfl; dsimp only [Free.blkFa] at f1; exact ints8_same _ (some ⟨β 1, 0, none⟩) _ 3 [1, 2, 3] w1 (by decide) (R1.out.grow (gf.trans hg)) (blk_intR (l := [1, 2, 3]) f1.1)) (hl := by intro β β' hk; first | rfl | ((try dsimp only); simp only [hk 1 (by decide)]))
  (refine Free.va [1, 2] _ _ _ ?_ (hl := by intro β β' hk; first | rfl | ((try dsimp only); simp only [hk 1 (by decide)])))
  first | (refine Free.va [1, 3] _ _ _ ?_ (hl := by intro β β' hk; first | rfl | ((try dsimp only); simp only [hk 1 (by decide)]))) | (refine Free.ii [1, 3] _ _ ?_)
  refine Free.ma [1, 3] (fun β => (.slice (some ⟨β 5, 0, none⟩) 1 1)) _ _ _ _ ?_ (hv := by intro β w1 hg hf; have e1 := cell_later (gf.trans hg) C6.out.1; have e2 := cell_later (gf.trans hg) C6.out.2.1; have e3 := cell_later (gf.trans hg) C6.out.2.2.1; have e4 := cell_later (gf.trans hg) C6.out.2.2.2; have e5 := cell_later (gf.trans hg) C7.out; have f1 := Free.fact_of (hf 1 (by decide)) rfl; dsimp only [Free.blkFa] at f1; show _ = Result.ok (Next.value (.slice (some ⟨w1.heap.size, 0, none⟩) 1 1)) _; go_simp <;> with_reducible rfl) (hl := by intro β β' hk; (try dsimp only); rw [hk 5 (.inl rfl)])
  refine Free.ca [1, 3, 4, 5] _ _ _ _ _ ?_ (hcall := by intro β w1 hg hf; have f1 := Free.fact_of (hf 1 (by decide)) rfl; dsimp only [Free.blkFa] at f1; have f5 := Free.fact_of (hf 5 (by decide)) rfl; dsimp only [Free.blkFa] at f5; exact ints8_same _ (some ⟨β 5, 0, none⟩) _ 1 [4] w1 (by decide) (R2.out.grow (gf.trans hg)) (blk_intR (l := [4]) f5.1)) (hl := by intro β β' hk; first | rfl | ((try dsimp only); simp only [hk 1 (by decide), hk 5 (by decide)]))
  (refine Free.va [1, 3, 5, 6] _ _ _ ?_ (hl := by intro β β' hk; first | rfl | ((try dsimp only); simp only [hk 1 (by decide), hk 5 (by decide)])))
  (refine Free.va [] _ _ _ ?_)
  (refine Free.va [8] _ _ _ ?_)
  (refine Free.va [9] _ _ _ ?_)
  first | (refine Free.va [10] _ _ _ ?_) | (refine Free.ii [10] _ _ ?_)
  first | (refine Free.va [10, 11] _ _ _ ?_) | (refine Free.ii [10, 11] _ _ ?_)
  (refine Free.va [10, 12] _ _ _ ?_)
  (refine Free.va [13] _ _ _ ?_)
  first | (refine Free.va [14] _ _ _ ?_) | (refine Free.ii [14] _ _ ?_)
  first | (refine Free.va [14, 15] _ _ _ ?_) | (refine Free.ii [14, 15] _ _ ?_)
  (refine Free.va [14, 16] _ _ _ ?_)
  (refine Free.va [17] _ _ _ ?_)
  first | (refine Free.va [18] _ _ _ ?_) | (refine Free.ii [18] _ _ ?_)
  first | (refine Free.va [18, 19] _ _ _ ?_) | (refine Free.ii [18, 19] _ _ ?_)
  (refine Free.va [18, 20] _ _ _ ?_)
  (refine Free.va [21] _ _ _ ?_)
  first | (refine Free.va [22] _ _ _ ?_) | (refine Free.ii [22] _ _ ?_)
  first | (refine Free.va [22, 23] _ _ _ ?_) | (refine Free.ii [22, 23] _ _ ?_)
  (refine Free.va [22, 24] _ _ _ ?_)
  (refine Free.va [] _ _ _ ?_)
  refine Free.ma [] (fun β => (.slice (some ⟨β 27, 0, none⟩) 1 1)) _ _ _ _ ?_ (hv := by intro β w1 hg hf; have e1 := cell_later (gf.trans hg) C6.out.1; have e2 := cell_later (gf.trans hg) C6.out.2.1; have e3 := cell_later (gf.trans hg) C6.out.2.2.1; have e4 := cell_later (gf.trans hg) C6.out.2.2.2; have e5 := cell_later (gf.trans hg) C7.out; show _ = Result.ok (Next.value (.slice (some ⟨w1.heap.size, 0, none⟩) 1 1)) _; go_simp <;> with_reducible rfl) (hl := by intro β β' hk; (try dsimp only); rw [hk 27 (.inl rfl)])
  refine Free.ca [26, 27] _ _ _ _ _ ?_ (hcall := by intro β w1 hg hf; have f27 := Free.fact_of (hf 27 (by decide)) rfl; dsimp only [Free.blkFa] at f27; exact ints8_same _ (some ⟨β 27, 0, none⟩) _ 1 [3] w1 (by decide) (R3.out.grow (gf.trans hg)) (blk_intR (l := [3]) f27.1)) (hl := by intro β β' hk; first | rfl | ((try dsimp only); simp only [hk 27 (by decide)]))
  (refine Free.va [27, 28] _ _ _ ?_ (hl := by intro β β' hk; first | rfl | ((try dsimp only); simp only [hk 27 (by decide)])))
  first | (refine Free.va [27, 29] _ _ _ ?_ (hl := by intro β β' hk; first | rfl | ((try dsimp only); simp only [hk 27 (by decide)]))) | (refine Free.ii [27, 29] _ _ ?_)
  refine Free.ma [27, 29] (fun β => (.slice (some ⟨β 31, 0, none⟩) 1 1)) _ _ _ _ ?_ (hv := by intro β w1 hg hf; have e1 := cell_later (gf.trans hg) C6.out.1; have e2 := cell_later (gf.trans hg) C6.out.2.1; have e3 := cell_later (gf.trans hg) C6.out.2.2.1; have e4 := cell_later (gf.trans hg) C6.out.2.2.2; have e5 := cell_later (gf.trans hg) C7.out; have f27 := Free.fact_of (hf 27 (by decide)) rfl; dsimp only [Free.blkFa] at f27; show _ = Result.ok (Next.value (.slice (some ⟨w1.heap.size, 0, none⟩) 1 1)) _; go_simp <;> with_reducible rfl) (hl := by intro β β' hk; (try dsimp only); rw [hk 31 (.inl rfl)])
  refine Free.ca [27, 29, 30, 31] _ _ _ _ _ ?_ (hcall := by intro β w1 hg hf; have f27 := Free.fact_of (hf 27 (by decide)) rfl; dsimp only [Free.blkFa] at f27; have f31 := Free.fact_of (hf 31 (by decide)) rfl; dsimp only [Free.blkFa] at f31; exact ints8_same _ (some ⟨β 31, 0, none⟩) _ 1 [2] w1 (by decide) (R4.out.grow (gf.trans hg)) (blk_intR (l := [2]) f31.1)) (hl := by intro β β' hk; first | rfl | ((try dsimp only); simp only [hk 27 (by decide), hk 31 (by decide)]))
  (refine Free.va [27, 29, 31, 32] _ _ _ ?_ (hl := by intro β β' hk; first | rfl | ((try dsimp only); simp only [hk 27 (by decide), hk 31 (by decide)])))
  (refine Free.va [27, 31, 33] _ _ _ ?_ (hl := by intro β β' hk; first | rfl | ((try dsimp only); simp only [hk 27 (by decide), hk 31 (by decide)])))
  first | (refine Free.va [27, 31, 34] _ _ _ ?_ (hl := by intro β β' hk; first | rfl | ((try dsimp only); simp only [hk 27 (by decide), hk 31 (by decide)]))) | (refine Free.ii [27, 31, 34] _ _ ?_)
  refine Free.ma [27, 31, 34] (fun β => (.slice (some ⟨β 36, 0, none⟩) 1 1)) _ _ _ _ ?_ (hv := by intro β w1 hg hf; have e1 := cell_later (gf.trans hg) C6.out.1; have e2 := cell_later (gf.trans hg) C6.out.2.1; have e3 := cell_later (gf.trans hg) C6.out.2.2.1; have e4 := cell_later (gf.trans hg) C6.out.2.2.2; have e5 := cell_later (gf.trans hg) C7.out; have f27 := Free.fact_of (hf 27 (by decide)) rfl; dsimp only [Free.blkFa] at f27; have f31 := Free.fact_of (hf 31 (by decide)) rfl; dsimp only [Free.blkFa] at f31; show _ = Result.ok (Next.value (.slice (some ⟨w1.heap.size, 0, none⟩) 1 1)) _; go_simp <;> with_reducible rfl) (hl := by intro β β' hk; (try dsimp only); rw [hk 36 (.inl rfl)])
  refine Free.ca [27, 31, 34, 35, 36] _ _ _ _ _ ?_ (hcall := by intro β w1 hg hf; have f27 := Free.fact_of (hf 27 (by decide)) rfl; dsimp only [Free.blkFa] at f27; have f31 := Free.fact_of (hf 31 (by decide)) rfl; dsimp only [Free.blkFa] at f31; have f36 := Free.fact_of (hf 36 (by decide)) rfl; dsimp only [Free.blkFa] at f36; exact ints8_same _ (some ⟨β 36, 0, none⟩) _ 1 [1] w1 (by decide) (R5.out.grow (gf.trans hg)) (blk_intR (l := [1]) f36.1)) (hl := by intro β β' hk; first | rfl | ((try dsimp only); simp only [hk 27 (by decide), hk 31 (by decide), hk 36 (by decide)]))
  (refine Free.va [27, 31, 34, 36, 37] _ _ _ ?_ (hl := by intro β β' hk; first | rfl | ((try dsimp only); simp only [hk 27 (by decide), hk 31 (by decide), hk 36 (by decide)])))
  (refine Free.va [] _ _ _ ?_)
  (refine Free.va [39] _ _ _ ?_)
  (refine Free.va [40] _ _ _ ?_)
  (refine Free.va [41] _ _ _ ?_)
  first | (refine Free.va [42] _ _ _ ?_) | (refine Free.ii [42] _ _ ?_)
  first | (refine Free.va [42, 43] _ _ _ ?_) | (refine Free.ii [42, 43] _ _ ?_)
  first | (refine Free.va [42, 44] _ _ _ ?_) | (refine Free.ii [42, 44] _ _ ?_)
  first | (refine Free.va [42, 45] _ _ _ ?_ (hv := by intro β w1 hg hf; have e1 := cell_later (gf.trans hg) C6.out.1; have e2 := cell_later (gf.trans hg) C6.out.2.1; have e3 := cell_later (gf.trans hg) C6.out.2.2.1; have e4 := cell_later (gf.trans hg) C6.out.2.2.2; have e5 := cell_later (gf.trans hg) C7.out; first | (go_simp <;> with_reducible rfl) | (go_simp; rw [if_neg (by omega)]))) | (refine Free.ii [42, 45] _ _ ?_)
  first | (refine Free.va [42, 46] _ _ _ ?_) | (refine Free.ii [42, 46] _ _ ?_)
  (refine Free.va [42, 47] _ _ _ ?_)
  (refine Free.va [48] _ _ _ ?_)
  first | (refine Free.va [49] _ _ _ ?_) | (refine Free.ii [49] _ _ ?_)
  first | (refine Free.va [49, 50] _ _ _ ?_) | (refine Free.ii [49, 50] _ _ ?_)
  first | (refine Free.va [49, 51] _ _ _ ?_) | (refine Free.ii [49, 51] _ _ ?_)
  first | (refine Free.va [49, 52] _ _ _ ?_ (hv := by intro β w1 hg hf; have e1 := cell_later (gf.trans hg) C6.out.1; have e2 := cell_later (gf.trans hg) C6.out.2.1; have e3 := cell_later (gf.trans hg) C6.out.2.2.1; have e4 := cell_later (gf.trans hg) C6.out.2.2.2; have e5 := cell_later (gf.trans hg) C7.out; first | (go_simp <;> with_reducible rfl) | (go_simp; rw [if_neg (by omega)]))) | (refine Free.ii [49, 52] _ _ ?_)
  first | (refine Free.va [49, 53] _ _ _ ?_) | (refine Free.ii [49, 53] _ _ ?_)
  (refine Free.va [49, 54] _ _ _ ?_)
  (refine Free.va [55] _ _ _ ?_)
  first | (refine Free.va [56] _ _ _ ?_) | (refine Free.ii [56] _ _ ?_)
  first | (refine Free.va [56, 57] _ _ _ ?_) | (refine Free.ii [56, 57] _ _ ?_)
  first | (refine Free.va [56, 58] _ _ _ ?_) | (refine Free.ii [56, 58] _ _ ?_)
  first | (refine Free.va [56, 59] _ _ _ ?_ (hv := by intro β w1 hg hf; have e1 := cell_later (gf.trans hg) C6.out.1; have e2 := cell_later (gf.trans hg) C6.out.2.1; have e3 := cell_later (gf.trans hg) C6.out.2.2.1; have e4 := cell_later (gf.trans hg) C6.out.2.2.2; have e5 := cell_later (gf.trans hg) C7.out; first | (go_simp <;> with_reducible rfl) | (go_simp; rw [if_neg (by omega)]))) | (refine Free.ii [56, 59] _ _ ?_)
  first | (refine Free.va [56, 60] _ _ _ ?_) | (refine Free.ii [56, 60] _ _ ?_)
  (refine Free.va [56, 61] _ _ _ ?_)
  (refine Free.va [62] _ _ _ ?_)
  first | (refine Free.va [63] _ _ _ ?_) | (refine Free.ii [63] _ _ ?_)
  first | (refine Free.va [63, 64] _ _ _ ?_) | (refine Free.ii [63, 64] _ _ ?_)
  first | (refine Free.va [63, 65] _ _ _ ?_) | (refine Free.ii [63, 65] _ _ ?_)
  first | (refine Free.va [63, 66] _ _ _ ?_ (hv := by intro β w1 hg hf; have e1 := cell_later (gf.trans hg) C6.out.1; have e2 := cell_later (gf.trans hg) C6.out.2.1; have e3 := cell_later (gf.trans hg) C6.out.2.2.1; have e4 := cell_later (gf.trans hg) C6.out.2.2.2; have e5 := cell_later (gf.trans hg) C7.out; first | (go_simp <;> with_reducible rfl) | (go_simp; rw [if_neg (by omega)]))) | (refine Free.ii [63, 66] _ _ ?_)
  first | (refine Free.va [63, 67] _ _ _ ?_) | (refine Free.ii [63, 67] _ _ ?_)
  (refine Free.va [63, 68] _ _ _ ?_)
  (refine Free.va [] _ _ _ ?_)
  (refine Free.va [70] _ _ _ ?_)
  (refine Free.va [71] _ _ _ ?_)
  first | (refine Free.va [72] _ _ _ ?_) | (refine Free.ii [72] _ _ ?_)
  first | (refine Free.va [72, 73] _ _ _ ?_) | (refine Free.ii [72, 73] _ _ ?_)
  (refine Free.va [72, 74] _ _ _ ?_)
  (refine Free.va [75] _ _ _ ?_)
  first | (refine Free.va [76] _ _ _ ?_) | (refine Free.ii [76] _ _ ?_)
  first | (refine Free.va [76, 77] _ _ _ ?_) | (refine Free.ii [76, 77] _ _ ?_)
  (refine Free.va [76, 78] _ _ _ ?_)
  (refine Free.va [79] _ _ _ ?_)
  first | (refine Free.va [80] _ _ _ ?_) | (refine Free.ii [80] _ _ ?_)
  first | (refine Free.va [80, 81] _ _ _ ?_) | (refine Free.ii [80, 81] _ _ ?_)
  first | (refine Free.va [80, 82] _ _ _ ?_) | (refine Free.ii [80, 82] _ _ ?_)
  (refine Free.va [80, 83] _ _ _ ?_)
  (refine Free.va [84] _ _ _ ?_)
  first | (refine Free.va [85] _ _ _ ?_) | (refine Free.ii [85] _ _ ?_)
  first | (refine Free.va [85, 86] _ _ _ ?_) | (refine Free.ii [85, 86] _ _ ?_)
  first | (refine Free.va [85, 87] _ _ _ ?_) | (refine Free.ii [85, 87] _ _ ?_)
  first | (refine Free.va [85, 88] _ _ _ ?_ (hv := by intro β w1 hg hf; have e1 := cell_later (gf.trans hg) C6.out.1; have e2 := cell_later (gf.trans hg) C6.out.2.1; have e3 := cell_later (gf.trans hg) C6.out.2.2.1; have e4 := cell_later (gf.trans hg) C6.out.2.2.2; have e5 := cell_later (gf.trans hg) C7.out; first | (go_simp <;> with_reducible rfl) | (go_simp; rw [if_neg (by omega)]))) | (refine Free.ii [85, 88] _ _ ?_)
  first | (refine Free.va [85, 89] _ _ _ ?_) | (refine Free.ii [85, 89] _ _ ?_)
  (refine Free.va [85, 90] _ _ _ ?_)
  (refine Free.va [] _ _ _ ?_)
  refine Free.ma [] (fun β => (.slice (some ⟨β 93, 0, none⟩) 1 1)) _ _ _ _ ?_ (hv := by intro β w1 hg hf; have e1 := cell_later (gf.trans hg) C6.out.1; have e2 := cell_later (gf.trans hg) C6.out.2.1; have e3 := cell_later (gf.trans hg) C6.out.2.2.1; have e4 := cell_later (gf.trans hg) C6.out.2.2.2; have e5 := cell_later (gf.trans hg) C7.out; show _ = Result.ok (Next.value (.slice (some ⟨w1.heap.size, 0, none⟩) 1 1)) _; go_simp <;> with_reducible rfl) (hl := by intro β β' hk; (try dsimp only); rw [hk 93 (.inl rfl)])
  refine Free.ca [92, 93] _ _ _ _ _ ?_ (hcall := by intro β w1 hg hf; have f93 := Free.fact_of (hf 93 (by decide)) rfl; dsimp only [Free.blkFa] at f93; exact ints8_same _ (some ⟨β 93, 0, none⟩) _ 1 [5] w1 (by decide) (R8.out.grow (gf.trans hg)) (blk_intR (l := [5]) f93.1)) (hl := by intro β β' hk; first | rfl | ((try dsimp only); simp only [hk 93 (by decide)]))
  (refine Free.va [93, 94] _ _ _ ?_ (hl := by intro β β' hk; first | rfl | ((try dsimp only); simp only [hk 93 (by decide)])))
  first | (refine Free.va [93, 95] _ _ _ ?_ (hl := by intro β β' hk; first | rfl | ((try dsimp only); simp only [hk 93 (by decide)]))) | (refine Free.ii [93, 95] _ _ ?_)
  refine Free.ca [93, 95, 96] _ _ _ _ _ ?_ (hcall := by intro β w1 hg hf; have f93 := Free.fact_of (hf 93 (by decide)) rfl; dsimp only [Free.blkFa] at f93; exact LV.out _ (gf.trans hg)) (hl := by intro β β' hk; first | rfl | ((try dsimp only); simp only [hk 93 (by decide)]))
  first | (refine Free.va [93, 95, 97] _ _ _ ?_ (hl := by intro β β' hk; first | rfl | ((try dsimp only); simp only [hk 93 (by decide)]))) | (refine Free.ii [93, 95, 97] _ _ ?_)
  (refine Free.va [93, 95, 98] _ _ _ ?_ (hl := by intro β β' hk; first | rfl | ((try dsimp only); simp only [hk 93 (by decide)])))
  (refine Free.va [93, 99] _ _ _ ?_ (hl := by intro β β' hk; first | rfl | ((try dsimp only); simp only [hk 93 (by decide)])))
  first | (refine Free.va [93, 100] _ _ _ ?_ (hl := by intro β β' hk; first | rfl | ((try dsimp only); simp only [hk 93 (by decide)]))) | (refine Free.ii [93, 100] _ _ ?_)
  refine Free.ca [93, 100, 101] _ _ _ _ _ ?_ (hcall := by intro β w1 hg hf; have f93 := Free.fact_of (hf 93 (by decide)) rfl; dsimp only [Free.blkFa] at f93; exact O3.out _ (gf.trans hg)) (hl := by intro β β' hk; first | rfl | ((try dsimp only); simp only [hk 93 (by decide)]))
  first | (refine Free.va [93, 100, 102] _ _ _ ?_ (hl := by intro β β' hk; first | rfl | ((try dsimp only); simp only [hk 93 (by decide)]))) | (refine Free.ii [93, 100, 102] _ _ ?_)
  (refine Free.va [93, 100, 103] _ _ _ ?_ (hl := by intro β β' hk; first | rfl | ((try dsimp only); simp only [hk 93 (by decide)])))
  (refine Free.va [93, 104] _ _ _ ?_ (hl := by intro β β' hk; first | rfl | ((try dsimp only); simp only [hk 93 (by decide)])))
  first | (refine Free.va [93, 105] _ _ _ ?_ (hl := by intro β β' hk; first | rfl | ((try dsimp only); simp only [hk 93 (by decide)]))) | (refine Free.ii [93, 105] _ _ ?_)
  refine Free.ca [93, 105, 106] _ _ _ _ _ ?_ (hcall := by intro β w1 hg hf; have f93 := Free.fact_of (hf 93 (by decide)) rfl; dsimp only [Free.blkFa] at f93; exact O2.out _ (gf.trans hg)) (hl := by intro β β' hk; first | rfl | ((try dsimp only); simp only [hk 93 (by decide)]))
  first | (refine Free.va [93, 105, 107] _ _ _ ?_ (hl := by intro β β' hk; first | rfl | ((try dsimp only); simp only [hk 93 (by decide)]))) | (refine Free.ii [93, 105, 107] _ _ ?_)
  (refine Free.va [93, 105, 108] _ _ _ ?_ (hl := by intro β β' hk; first | rfl | ((try dsimp only); simp only [hk 93 (by decide)])))
  (refine Free.va [93, 109] _ _ _ ?_ (hl := by intro β β' hk; first | rfl | ((try dsimp only); simp only [hk 93 (by decide)])))
  first | (refine Free.va [93, 110] _ _ _ ?_ (hl := by intro β β' hk; first | rfl | ((try dsimp only); simp only [hk 93 (by decide)]))) | (refine Free.ii [93, 110] _ _ ?_)
  refine Free.ca [93, 110, 111] _ _ _ _ _ ?_ (hcall := by intro β w1 hg hf; have f93 := Free.fact_of (hf 93 (by decide)) rfl; dsimp only [Free.blkFa] at f93; exact O5.out _ (gf.trans hg)) (hl := by intro β β' hk; first | rfl | ((try dsimp only); simp only [hk 93 (by decide)]))
  first | (refine Free.va [93, 110, 112] _ _ _ ?_ (hl := by intro β β' hk; first | rfl | ((try dsimp only); simp only [hk 93 (by decide)]))) | (refine Free.ii [93, 110, 112] _ _ ?_)
  (refine Free.va [93, 110, 113] _ _ _ ?_ (hl := by intro β β' hk; first | rfl | ((try dsimp only); simp only [hk 93 (by decide)])))
  refine Free.ma [1, 5, 7, 25, 27, 31, 36, 38, 69, 91, 93, 114] (fun β => (.slice (some ⟨β 115, 0, none⟩) 6 6)) _ _ _ _ ?_ (hv := by intro β w1 hg hf; have e1 := cell_later (gf.trans hg) C6.out.1; have e2 := cell_later (gf.trans hg) C6.out.2.1; have e3 := cell_later (gf.trans hg) C6.out.2.2.1; have e4 := cell_later (gf.trans hg) C6.out.2.2.2; have e5 := cell_later (gf.trans hg) C7.out; have f1 := Free.fact_of (hf 1 (by decide)) rfl; dsimp only [Free.blkFa] at f1; have f5 := Free.fact_of (hf 5 (by decide)) rfl; dsimp only [Free.blkFa] at f5; have f27 := Free.fact_of (hf 27 (by decide)) rfl; dsimp only [Free.blkFa] at f27; have f31 := Free.fact_of (hf 31 (by decide)) rfl; dsimp only [Free.blkFa] at f31; have f36 := Free.fact_of (hf 36 (by decide)) rfl; dsimp only [Free.blkFa] at f36; have f93 := Free.fact_of (hf 93 (by decide)) rfl; dsimp only [Free.blkFa] at f93; show _ = Result.ok (Next.value (.slice (some ⟨w1.heap.size, 0, none⟩) 6 6)) _; go_simp <;> with_reducible rfl) (hl := by intro β β' hk; (try dsimp only); rw [hk 115 (.inl rfl)])
  (refine Free.va [1, 5, 27, 31, 36, 93, 115] _ _ _ ?_ (hl := by intro β β' hk; first | rfl | ((try dsimp only); simp only [hk 1 (by decide), hk 5 (by decide), hk 27 (by decide), hk 31 (by decide), hk 36 (by decide), hk 93 (by decide), hk 115 (by decide)])))
  refine Free.Walk.done ?_
  intro βz wz gz hfz
  have Z1 := Free.fact_in hfz 1 rfl
  dsimp only [Free.blkFa] at Z1
  have Z5 := Free.fact_in hfz 5 rfl
  dsimp only [Free.blkFa] at Z5
  have Z27 := Free.fact_in hfz 27 rfl
  dsimp only [Free.blkFa] at Z27
  have Z31 := Free.fact_in hfz 31 rfl
  dsimp only [Free.blkFa] at Z31
  have Z36 := Free.fact_in hfz 36 rfl
  dsimp only [Free.blkFa] at Z36
  have Z93 := Free.fact_in hfz 93 rfl
  dsimp only [Free.blkFa] at Z93
  have Z115 := Free.fact_in hfz 115 rfl
  dsimp only [Free.blkFa] at Z115
  clear hfz
  have HB := Lib.hid (H.out.grow FT.out (gf.trans gz)).below
  have ZB := Lib.hid Z115.1
  clear gf gz Z1 Z5 Z27 Z31 Z36 Z93 Z115 R1 R2 R3 R4 R5 R8 C6 C7 LV O3 O2 O5 H HF FT
  go_wp2_with fail
  refine (WN.out _).mono ?_
  rintro e wx ⟨rfl, rfl⟩
  clear WN
  have hk : k = 0 ∨ k = 1 ∨ k = 2 ∨ k = 3 ∨ k = 4 ∨ k = 5 := by omega
  have lz := ZB.out.lt
  rcases hk with rfl | rfl | rfl | rfl | rfl | rfl
  · have cz := (ZB.out.cell 0).trans rfl
    go_wp2_with fail
    go_ret
    exact ⟨rfl, HB.out⟩
  · have cz := (ZB.out.cell 1).trans rfl
    go_wp2_with fail
    go_ret
    exact ⟨rfl, HB.out⟩
  · have cz := (ZB.out.cell 2).trans rfl
    go_wp2_with fail
    go_ret
    exact ⟨rfl, HB.out⟩
  · have cz := (ZB.out.cell 3).trans rfl
    go_wp2_with fail
    go_ret
    exact ⟨rfl, HB.out⟩
  · have cz := (ZB.out.cell 4).trans rfl
    go_wp2_with fail
    go_ret
    exact ⟨rfl, HB.out⟩
  · have cz := (ZB.out.cell 5).trans rfl
    go_wp2_with fail
    go_ret
    exact ⟨rfl, HB.out⟩
end Go.Proofs.Ytfnpghekkhnjkaa

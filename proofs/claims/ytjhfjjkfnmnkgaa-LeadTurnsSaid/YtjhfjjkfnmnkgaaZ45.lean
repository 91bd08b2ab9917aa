/- My own texts Tab16, laid in one file. -/
import Derived.Test.YtjhfjjkfnmnkgaaZ44
import Derived.Test.YtjhfjjkfnmnkgaaZ38

/- Tables that a law makes: damperlaw5.Make. -/
namespace Go.Proofs.Ytjhfjjkfnmnkgaa
set_option maxRecDepth 100000
set_option linter.unusedVariables false
set_option linter.unusedSimpArgs false
set_option linter.unnecessarySimpa false
open Go.RowKit Go.Args

def dgB (k : Nat) : ByteArray := strOfNums [48 + (k : Int)]
def tagK (k : Nat) : ByteArray := ⟨#[116]⟩ ++ dgB k
def mkTg (ms : List Int) : Nat → List Tgo
  | 0 => []
  | n + 1 => if 3 - n < ms.length then (if withinI (ms.getD (3 - n) 0) 2 = 0 then [⟨tagK (3 - n), revK (withinI ((ms.getD (3 - n) 0).tdiv 2) 6).toNat⟩] else []) ++ mkTg ms n else []
def mkT (ms : List Int) : List Tgo := mkTg ms 4
theorem mkTg_short (ms : List Int) (n : Nat) (h : ¬ 4 - n < ms.length) : mkTg ms n = [] := by
  cases n with
  | zero => rfl
  | succ n => rw [mkTg, if_neg (by omega)]
theorem infoTgo : (Try.prog.info? 55).map (fun i => (i.zero, i.size, i.bytes)) = some (some (.agg #[.string ⟨#[]⟩, .string ⟨#[]⟩]), 2, 32) := by kernel_rfl
theorem cv_dig (k : Nat) (b : Nat) (w : World) (h : Blk w b #[.int .u8 (48 + (k : Int))] 5) : (convert 69 9 (.slice (some ⟨b, 0, none⟩) 1 1)).run Try.prog w = .ok (.string (dgB k)) w := by
  have h2 := run_convert_bytes_arg (P := Try.prog) w 69 5 Try.underlying69 Try.underlying5 b 0 1 1 [48 + (k : Int)] rfl (fun i hi => by
    obtain rfl : i = 0 := by omega
    exact Blk.at (cs := [Value.int .u8 (48 + (k : Int))]) (k := 0) h rfl) 9 Try.underlying9
  exact h2
theorem dgB_size (k : Nat) : (dgB k).size = 1 := by unfold dgB; rw [strOfNums_size]; rfl
/-- What a made table is in memory. -/
structure MadeT (w0 w : World) (a : Option Addr) (c : Nat) (a' : Option Addr) (c' : Nat) (zs ms : List Int) : Prop where
  sh : w.ownsRow w0.heap.size 53 2 (.slice a (mkS zs).length c) (mkS zs).length ((mkS zs).flatMap Shr.cells)
  tg : w.ownsRow w0.heap.size 55 2 (.slice a' (mkT ms).length c') (mkT ms).length ((mkT ms).flatMap Tgo.cells)
set_option maxHeartbeats 8000000 in
theorem make_any (w : World) (v : Value) (zs : List Int) (hz : IntSlice w v zs) (v2 : Value) (ms : List Int) (hm : IntSlice w v2 ms) :
    Calls Try.prog 15 #[v, v2] w fun e w' => ∃ a c a' c', e = .returned (tabV a (mkS zs).length c a' (mkT ms).length c') ∧ MadeT w w' a c a' c' zs ms ∧ Grow.G w w' := by
  obtain ⟨sa, cap, rfl, hsl⟩ : ∃ sa cap, v2 = .slice sa ms.length cap ∧ (∀ k, k < ms.length → ∃ b off, sa = some ⟨b, off, none⟩ ∧ ∀ w', Grow.G w w' → w'.cell? ⟨b, off + k, none⟩ = some (.int .i64 (ms.getD k 0))) := by
    rcases hm with ⟨b, off, cap, rfl, h⟩ | ⟨rfl, a, cap, rfl⟩
    · exact ⟨_, cap, rfl, fun k hk => ⟨b, off, rfl, fun w' g => cell_later g (h.cell k hk)⟩⟩
    · exact ⟨a, cap, rfl, fun k hk => absurd hk (by simp)⟩
  have hwf : ∀ k, wf64 (ms.getD k 0) := by
    intro k
    rcases hm with ⟨b, off, cap, _, h⟩ | ⟨rfl, _⟩
    · exact h.wf k
    · exact ⟨by simp, by simp⟩
  have hml : ms.length ≤ maxLen := by
    rcases hm with ⟨b, off, cap, _, h⟩ | ⟨rfl, _⟩
    · exact h.len
    · simp
  unfold maxLen at hml
  have HWF := Lib.hid hwf
  have HSL := Lib.hid hsl
  have SH := Lib.hid (fun w' (g : Grow.G w w') => shares_any w' v zs (hz.below g))
  clear hz hsl hwf hm
  go_enter Try.func15, Try.ntmps15
  go_wp2_with fail
  have g0' := Grow.G.alloc (Grow.G.refl w) (.cells #[.slice none 0 0, .slice none 0 0] 40)
  refine (SH.out _ g0').mono ?_
  rintro e w1 ⟨x, rfl, hox, hg⟩
  obtain ⟨xa, xc, rfl⟩ := own_shape hox
  have B4 := (Blk.new w #[.slice none 0 0, .slice none 0 0] 40).grow hg
  have G1 := g0'.trans hg
  have hw4 := B4.lt
  clear hg
  go_wp2_with fail
  have B5 := Lib.hid (Blk.new w1 #[.slice xa (mkS zs).length xc, .slice none 0 0] 40)
  have g2 := Grow.G.alloc (Grow.G.refl w1) (.cells #[.slice xa (mkS zs).length xc, .slice none 0 0] 40)
  obtain ⟨W2, hW2⟩ : ∃ W2, W2 = w1.alloc (.cells #[.slice xa (mkS zs).length xc, .slice none 0 0] 40) := ⟨_, rfl⟩
  have hz2 : W2.heap.size = w1.heap.size + 1 := by rw [hW2]; simp
  rw [← hW2] at B5 g2 ⊢
  have B4 := Lib.hid (B4.grow g2)
  have HOX := Lib.hid (own_base (own_later hox g2) (by simp : w.heap.size ≤ (w.alloc (.cells #[.slice none 0 0, .slice none 0 0] 40)).heap.size))
  have HXB : ∀ k, (Value.slice xa (mkS zs).length xc).ownBlock = some k → k < w1.heap.size := fun k hk => (hox.lt k hk).2
  have HXB := Lib.hid HXB
  have G2 := Lib.hid (G1.trans g2)
  have hw1 := G1.size
  clear hW2 hox g0' G1 g2
  generalize w1.heap.size = gb at *
  go_loopw [6] (fun i wr => ∃ (k : Nat) (acc : List Tgo) (y : Value), k ≤ 4 ∧ i = .int .i64 k ∧ acc.length ≤ k ∧ Hid (wr.ownsRow W2.heap.size 55 2 y acc.length (acc.flatMap Tgo.cells)) ∧ Hid (Blk wr gb #[.slice xa (mkS zs).length xc, y] 40) ∧ Hid (mkT ms = acc ++ mkTg ms (4 - k)) ∧ Hid (Chg (fun k => k = gb) W2 wr)) (fun i _ => 4 - (intOf i).toNat)
  case atStart => exact ⟨0, [], .slice none 0 0, by omega, rfl, by simp, Lib.hid (World.ownsRow_nil _ _ _ _), B5, Lib.hid rfl, Lib.hid (Chg.refl _ _)⟩
  case round =>
    obtain ⟨k, acc, y, hk, rfl, hac, OW, BG, SP, CH⟩ := hrel
    by_cases hgo : k < 4 ∧ k < ms.length
    · obtain ⟨hk4, hkm⟩ := hgo
      have d0 : decide (k < 4) = true := decide_eq_true hk4
      have d1 : decide (k < ms.length) = true := decide_eq_true hkm
      have d2 : decide ((k : Int) < (ms.length : Int)) = true := decide_eq_true (by omega)
      have k1 : (0 : Int) ≤ (k : Int) := by omega
      have k2 : (k : Int) < (ms.length : Int) := by omega
      have hk1 : IntKind.i64.wrap ((k : Int) + 1) = (k : Int) + 1 := IntWalk.i64_in _ ⟨by omega, by omega⟩
      have hk48 : IntKind.i64.wrap (48 + (k : Int)) = 48 + (k : Int) := IntWalk.i64_in _ ⟨by omega, by omega⟩
      have hu8 : IntKind.u8.wrap (48 + (k : Int)) = 48 + (k : Int) := by
        have : k = 0 ∨ k = 1 ∨ k = 2 ∨ k = 3 := by omega
        rcases this with rfl | rfl | rfl | rfl <;> rfl
      have hkk := HWF.out k
      obtain ⟨b, off, rfl, hc⟩ := HSL.out k hkm
      have ST : Hid (mkT ms = acc ++ ((if withinI (ms.getD k 0) 2 = 0 then [⟨tagK k, revK (withinI ((ms.getD k 0).tdiv 2) 6).toNat⟩] else []) ++ mkTg ms (4 - (k + 1)))) := Lib.hid (by
        rw [SP.out, show 4 - k = (3 - k) + 1 by omega, mkTg, if_pos (by omega), show 3 - (3 - k) = k by omega, show 4 - (k + 1) = 3 - k by omega])
      have hq : -9223372036854775808 ≤ (ms.getD k 0).tdiv 2 ∧ (ms.getD k 0).tdiv 2 ≤ 9223372036854775807 := by
        unfold wf64 at hkk
        rcases Int.le_total 0 (ms.getD k 0) with h | h
        · rw [Int.tdiv_eq_ediv_of_nonneg h]; omega
        · have e : ms.getD k 0 = -(-(ms.getD k 0)) := by omega
          rw [e, Int.neg_tdiv, Int.tdiv_eq_ediv_of_nonneg (by omega)]; omega
      have hcell := CH.out.cell (hc _ G2.out) (fun q => by
        have q : b = gb := q
        have := cell_in (hc w (Grow.G.refl w)); omega)
      have hbw := cell_in (hc w (Grow.G.refl w))
      clear hc SP
      generalize hkv : ms.getD k 0 = kk at *
      clear hkv
      have W2' := Lib.hid (fun w => within5w_any kk 2 w (by omega) (by omega) hkk.1 hkk.2)
      have hq1 : IntKind.i64.wrap (kk.tdiv 2) = kk.tdiv 2 := IntWalk.i64_in _ ⟨by omega, by omega⟩
      have J := withinI_range (kk.tdiv 2) 6 (by omega)
      obtain ⟨j, hj⟩ : ∃ j : Nat, withinI (kk.tdiv 2) 6 = (j : Int) := ⟨(withinI (kk.tdiv 2) 6).toNat, by omega⟩
      have W6 := Lib.hid (fun w => (within5w_any (kk.tdiv 2) 6 w (by omega) (by omega) hq.1 hq.2).mono (fun e w' (h : _ ∧ _) => (⟨by rw [h.1, hj], h.2 ▸ Grow.G.refl _⟩ : e = .returned (.int .i64 (j : Int)) ∧ Grow.G w w')))
      rw [hj] at J ST
      rw [Int.toNat_natCast] at ST
      clear hj hq hkk
      generalize withinI kk 2 = u at *
      obtain ⟨ub, hub⟩ : ∃ ub, (u == 0) = ub := ⟨_, rfl⟩
      have UB : ub = decide (u = 0) := by rw [← hub]; rfl
      go_wp2_with fail
      refine (W2'.out _).mono ?_
      rintro e wx ⟨rfl, rfl⟩
      cases ub with
      | false =>
        have ST2 : Hid (mkT ms = acc ++ mkTg ms (4 - (k + 1))) := Lib.hid (by rw [ST.out, if_neg (of_decide_eq_false UB.symm)]; rfl)
        clear ST UB
        go_wp2_with fail
        go_roundw
        case rel => exact ⟨k + 1, acc, y, by omega, by go_num, by omega, OW, BG, ST2, CH⟩
        case measure => simp [intOf]; omega
      | true =>
        have ST2 : Hid (mkT ms = (acc ++ [⟨tagK k, revK j⟩]) ++ mkTg ms (4 - (k + 1))) := Lib.hid (by rw [ST.out, if_pos (of_decide_eq_true UB.symm), List.append_assoc])
        clear ST UB
        have NG : ¬ y.ownBlock = some gb := own_blk_types OW.out BG.out (by decide)
        have hyl : ∀ k, y.ownBlock = some k → W2.heap.size ≤ k ∧ k < wr.heap.size := fun k hk => OW.out.lt k hk
        have KC := Lib.hid (fun (w' : World) (h : Chg (fun k => k < wr.heap.size ∧ y.ownBlock = some k) wr w') => (⟨h.cell (Blk.at (cs := [.slice xa (mkS zs).length xc, y]) (k := 1) BG.out rfl) (fun q => NG q.2), h.cell hcell (fun q => by have := (hyl _ q.2).1; omega), trivial⟩ : w'.cell? ⟨gb, 1, none⟩ = some y ∧ w'.cell? ⟨b, off + k, none⟩ = some (.int .i64 kk) ∧ True))
        have CVB := cv_dig k
        have zWr := CH.out.size
        have QJ : ∀ b' w', Blk w' b' #[.string (revK 0), .string (revK 1), .string (revK 2), .string (revK 3), .string (revK 4), .string (revK 5)] 9 → w'.cell? ⟨b', j, none⟩ = some (.string (revK j)) := fun b' w' h => rev_at h (by omega)
        have j2 : (j : Int) < 6 := J.2
        obtain ⟨i0, hi, ha0, ha1, ha2⟩ := info_parts infoTgo
        have HI := Lib.hid hi; have HZ0 := Lib.hid ha0; have HZ1 := Lib.hid ha1; have HZ2 := Lib.hid ha2
        clear hi ha0 ha1 ha2
        generalize hrj : revK j = rj at *
        have htk : (⟨#[116]⟩ : ByteArray) ++ dgB k = tagK k := rfl
        have hdz := dgB_size k
        go_wp2_with fail
        refine Evo2.start' (ℓ := some 21) (S := Chg (fun k => k < wr.heap.size ∧ y.ownBlock = some k)) (E := Grow.G) (by kernel_rfl) ⟨Chg.pre _, by decide +kernel, (by intro c a d v w h; cases d <;> exact h), by decide +kernel⟩ (fun ok => ?_)
        refine Evo2.va ok 0 _ _ ?_
        first | (refine Evo2.vl ok 1 KC.out (Chg.refl (fun k => k < wr.heap.size ∧ y.ownBlock = some k) _) _ _ ?_) | (refine Evo2.va ok 1 _ _ ?_)
        refine Evo2.va ok 2 _ _ ?_
        refine Evo2.va ok 3 _ _ ?_
        first | (refine Evo2.vl ok 4 KC.out (Chg.refl (fun k => k < wr.heap.size ∧ y.ownBlock = some k) _) _ _ ?_) | (refine Evo2.va ok 4 _ _ ?_)
        refine Evo2.va ok 9 _ _ ?_
        refine Evo2.va ok 10 _ _ ?_
        refine Evo2.va ok 11 _ _ ?_
        first | (refine Evo2.vl ok 12 KC.out (Chg.refl (fun k => k < wr.heap.size ∧ y.ownBlock = some k) _) _ _ ?_) | (refine Evo2.va ok 12 _ _ ?_)
        refine Evo2.va ok 13 _ _ ?_
        refine Evo2.all [5, 8] (by decide +kernel) rfl ?_
        intro wp1 gp1 iq hq
        simp only [List.mem_cons, List.mem_nil_iff, or_false] at hq
        have AP1 := Chg.trans (Chg.refl (fun k => k < wr.heap.size ∧ y.ownBlock = some k) _) (Chg.grow gp1)
        rcases hq with rfl | rfl
        ·
          refine Evo2.runs (by rfl) (by rfl) (fun K' hK' => ?_)
          (try obtain ⟨q1, q2⟩ := KC.out wp1 AP1)
          go_simp
          (try (simp only [Evo.after_value, Evo.after_skip]))
          refine hK'.out _ _ ?_
          clear hK'
          simp only [Act.put, L0, L1, L2]
          (try clear q1 q2)
          refine ⟨.inr (Chg.alloc (Chg.refl _ _) _), ?_⟩
          generalize hG1 : World.alloc wp1 _ = wg1
          have GG1 : Grow.G wp1 wg1 := hG1 ▸ Grow.G.alloc (Grow.G.refl _) _
          have NC1 := (congrArg (fun W : World => W.heap[wp1.heap.size]?) hG1).symm.trans (MapKept.heap_alloc wp1 _).1
          have NL1 : wp1.heap.size < wg1.heap.size := by rw [← hG1]; simp
          clear hG1
          first | (refine Evo2.val ok 6 ?_ ?_ ?_; rotate_left; (intro w' hg; have nq := CVB _ _ (hg.blk NC1 (by intro q; first | exact q | (have h1 := AP1.size; have h2 := NL1; (try dsimp only at q); omega))); go_simp <;> with_reducible rfl); simp only [Act.put, L0, L1, L2]) | (refine Evo2.vl ok 6 KC.out (Chg.trans AP1 (Chg.grow GG1)) _ _ ?_) | (refine Evo2.va ok 6 _ _ ?_) | (refine Evo2.val ok 6 ?_ ?_ ?_; rotate_left; (intro w' hg; have nq := fun j => Blk.cell (w := w') (hg.blk NC1 (by intro q; first | exact q | (have h1 := AP1.size; have h2 := NL1; (try dsimp only at q); omega))) j; go_simp <;> with_reducible rfl); simp only [Act.put, L0, L1, L2])
          refine Evo2.va ok 7 _ _ ?_
          refine Evo2.all [8] (by decide +kernel) rfl ?_
          intro wp2 gp2 iq hq
          simp only [List.mem_cons, List.mem_nil_iff, or_false] at hq
          have AP2 := Chg.trans (Chg.trans AP1 (Chg.grow GG1)) (Chg.grow gp2)
          have NC1 := (gp2.block _ NL1).trans NC1
          have NL1 := Nat.lt_of_lt_of_le NL1 gp2.size
          subst hq
          refine Evo2.enters 22 _ (by rfl) (by rfl) (by go_simp; exact ⟨rfl, rfl⟩) ?_
          refine (revs_any _).mono ?_
          rintro e wc2 ⟨rfl, hbR, hgR⟩; have CH2 := Chg.grow (G := fun k => k < wr.heap.size ∧ y.ownBlock = some k) hgR; have QK2 := (fun w' (g : Chg (fun k => k < wr.heap.size ∧ y.ownBlock = some k) wc2 w') => QJ _ w' (g.blk hbR (fun q => by have := q.1; have := AP2.size; omega)))
          refine ⟨_, rfl, .inr CH2, ?_⟩
          have AC2 := Chg.trans AP2 CH2
          simp only [Act.put, L0, L1, L2]
          (refine Evo2.cal ok 14 ?_ 28 ?_ ?_ ?_ ?_; rotate_left 2; (focus (intro w'; go_simp <;> with_reducible rfl)); (focus (intro w' g'; with_reducible exact W6.out w')); simp only [Act.put, L0, L1, L2])
          refine Evo2.va ok 15 _ _ ?_
          first | (refine Evo2.val ok 16 ?_ ?_ ?_; rotate_left; (intro w' hg; have nq := QK2 w' hg; go_simp <;> with_reducible rfl); simp only [Act.put, L0, L1, L2]) | (refine Evo2.vl ok 16 KC.out AC2 _ _ ?_) | (refine Evo2.va ok 16 _ _ ?_)
          refine Evo2.va ok 17 _ _ ?_
          refine Evo2.all [18] (by decide +kernel) rfl ?_
          intro wp3 gp3 iq hq
          simp only [List.mem_cons, List.mem_nil_iff, or_false] at hq
          have AP3 := Chg.trans AC2 (Chg.grow gp3)
          subst hq
          refine Evo2.runs (by rfl) (by rfl) (fun K' hK' => ?_)
          (try obtain ⟨q1, q2⟩ := KC.out wp3 AP3)
          go_simp
          (try (simp only [Evo.after_value, Evo.after_skip]))
          refine hK'.out _ _ ?_
          clear hK'
          simp only [Act.put, L0, L1, L2]
          (try clear q1 q2)
          refine ⟨.inr (Chg.alloc (Chg.refl _ _) _), ?_⟩
          generalize hG3 : World.alloc wp3 _ = wg3
          have GG3 : Grow.G wp3 wg3 := hG3 ▸ Grow.G.alloc (Grow.G.refl _) _
          have NC3 := (congrArg (fun W : World => W.heap[wp3.heap.size]?) hG3).symm.trans (MapKept.heap_alloc wp3 _).1
          have NL3 : wp3.heap.size < wg3.heap.size := by rw [← hG3]; simp
          clear hG3
          refine Evo2.all [19] (by decide +kernel) rfl ?_
          intro wp4 gp4 iq hq
          simp only [List.mem_cons, List.mem_nil_iff, or_false] at hq
          have AP4 := Chg.trans (Chg.trans AP3 (Chg.grow GG3)) (Chg.grow gp4)
          have NC3 := (gp4.block _ NL3).trans NC3
          have NL3 := Nat.lt_of_lt_of_le NL3 gp4.size
          subst hq
          refine Fr.own_fr (by rfl) (by rfl) (Operand.tmp 27) (Operand.tmp 44) 38 (by rfl) W2.heap.size 55 i0 (.agg #[.string ⟨#[]⟩, .string ⟨#[]⟩]) 2 32 Try.underlying38 HI.out HZ0.out HZ1.out HZ2.out rfl (by decide) _ _ _ (by rfl) (own_later OW.out ?_) _ 1 1 [.string (tagK k), .string rj] (by rfl) rfl (news_at NC3) ?_ ?_ ?_ ?_ ?_ 
          · first | exact ((((gp1.trans GG1).trans gp2).trans hgR).trans gp3).trans (GG3.trans gp4) | exact ((((gp1.trans hgR).trans gp2).trans GG2).trans gp3).trans (GG3.trans gp4) 
          · intro u hu; simp at hu; rcases hu with rfl | rfl <;> rfl 
          · unfold maxLen; omega 
          · omega 
          · have := AP4.size; omega
          intro vw4 wc4 OW4 fr4
          obtain ⟨g9, c9, rfl, hg9⟩ := own_some OW4 (by omega); have CH4 : Chg (fun k => k < wr.heap.size ∧ y.ownBlock = some k) _ _ := (Chg.ofFr fr4).mono (fun k _ q => ⟨(hyl k q).2, q⟩)
          refine ⟨.inr CH4, ?_⟩
          have AC4 := Chg.trans AP4 CH4
          simp only [Act.put, L0, L1, L2]
          refine Evo2.va ok 20 _ _ ?_
          refine Evo2.all [21] (by decide +kernel) rfl ?_
          intro wp5 gp5 iq hq
          simp only [List.mem_cons, List.mem_nil_iff, or_false] at hq
          have AP5 := Chg.trans AC4 (Chg.grow gp5)
          subst hq
          refine Evo2.runs (by rfl) (by rfl) (fun K' hK' => ?_)
          (try obtain ⟨q1, q2⟩ := KC.out wp5 AP5)
          have BQ := BG.out.chg AP5 (fun q => NG q.2); have gl := BQ.lt; have e0 := Blk.at (cs := [.slice xa (mkS zs).length xc, y]) (k := 1) BQ rfl; have f0 := BQ.free 1; clear BQ
          go_simp
          (try (simp only [Evo.after_value, Evo.after_skip]))
          refine hK'.out _ _ ?_
          clear hK'
          simp only [Act.put, L0, L1, L2]
          (try clear gl e0 f0)
          (try clear q1 q2)
          refine ⟨.inl (by first | rfl | trivial), ?_⟩
          refine Evo2.done (by decide +kernel) (fun wz gz => ?_)
          have V4 := BG.out.chg AP5 (fun q => NG q.2)
          have CS : Chg (fun k => k = gb) wp5 (wp5.setCell ⟨gb, 1, none⟩ (.slice (some ⟨g9, 0, none⟩) (acc.length + 1) c9)) := Chg.setCell (G := fun k => k = gb) (Chg.refl _ _) (fun _ => rfl) _ _
          have VZ := Lib.hid ((V4.set 1 (.slice (some ⟨g9, 0, none⟩) (acc.length + 1) c9)).grow gz)
          have RW4 := own_later OW4 gp5
          have RZ := Lib.hid (own_later (CS.own RW4 (fun k hk q => by have q : k = gb := q; subst q; exact own_blk_types RW4 V4 (by decide) hk)) gz)
          have D : Chg (fun k => k = gb ∨ W2.heap.size ≤ k) wr wz := ((AP5.mono (fun k _ q => .inr (hyl k q.2).1)).trans (CS.mono (fun k _ q => .inl q))).trans (Chg.grow gz)
          have CZ : Hid (Chg (fun k => k = gb) W2 wz) := Lib.hid (CH.out.join D (fun i hi q => q.elim id (fun q => by omega)))
          clear D RW4 CS V4
          go_wp2_with fail
          go_roundw
          case rel => exact ⟨k + 1, acc ++ [⟨tagK k, rj⟩], _, by omega, by go_num, by rw [List.length_append, List.length_singleton]; omega, by rw [List.length_append, List.length_singleton, List.flatMap_append]; exact RZ, VZ, ST2, CZ⟩
          case measure => simp [intOf]; omega
        ·
          refine Evo2.enters 22 _ (by rfl) (by rfl) (by go_simp; exact ⟨rfl, rfl⟩) ?_
          refine (revs_any _).mono ?_
          rintro e wc1 ⟨rfl, hbR, hgR⟩; have CH1 := Chg.grow (G := fun k => k < wr.heap.size ∧ y.ownBlock = some k) hgR; have QK1 := (fun w' (g : Chg (fun k => k < wr.heap.size ∧ y.ownBlock = some k) wc1 w') => QJ _ w' (g.blk hbR (fun q => by have := q.1; have := AP1.size; omega)))
          refine ⟨_, rfl, .inr CH1, ?_⟩
          have AC1 := Chg.trans AP1 CH1
          simp only [Act.put, L0, L1, L2]
          (refine Evo2.cal ok 14 ?_ 28 ?_ ?_ ?_ ?_; rotate_left 2; (focus (intro w'; go_simp <;> with_reducible rfl)); (focus (intro w' g'; with_reducible exact W6.out w')); simp only [Act.put, L0, L1, L2])
          refine Evo2.va ok 15 _ _ ?_
          first | (refine Evo2.val ok 16 ?_ ?_ ?_; rotate_left; (intro w' hg; have nq := QK2 w' hg; go_simp <;> with_reducible rfl); simp only [Act.put, L0, L1, L2]) | (refine Evo2.val ok 16 ?_ ?_ ?_; rotate_left; (intro w' hg; have nq := QK1 w' hg; go_simp <;> with_reducible rfl); simp only [Act.put, L0, L1, L2]) | (refine Evo2.vl ok 16 KC.out AC1 _ _ ?_) | (refine Evo2.va ok 16 _ _ ?_)
          refine Evo2.all [5] (by decide +kernel) rfl ?_
          intro wp2 gp2 iq hq
          simp only [List.mem_cons, List.mem_nil_iff, or_false] at hq
          have AP2 := Chg.trans AC1 (Chg.grow gp2)
          subst hq
          refine Evo2.runs (by rfl) (by rfl) (fun K' hK' => ?_)
          (try obtain ⟨q1, q2⟩ := KC.out wp2 AP2)
          go_simp
          (try (simp only [Evo.after_value, Evo.after_skip]))
          refine hK'.out _ _ ?_
          clear hK'
          simp only [Act.put, L0, L1, L2]
          (try clear q1 q2)
          refine ⟨.inr (Chg.alloc (Chg.refl _ _) _), ?_⟩
          generalize hG2 : World.alloc wp2 _ = wg2
          have GG2 : Grow.G wp2 wg2 := hG2 ▸ Grow.G.alloc (Grow.G.refl _) _
          have NC2 := (congrArg (fun W : World => W.heap[wp2.heap.size]?) hG2).symm.trans (MapKept.heap_alloc wp2 _).1
          have NL2 : wp2.heap.size < wg2.heap.size := by rw [← hG2]; simp
          clear hG2
          first | (refine Evo2.val ok 6 ?_ ?_ ?_; rotate_left; (intro w' hg; have nq := QK2 w' hg; go_simp <;> with_reducible rfl); simp only [Act.put, L0, L1, L2]) | (refine Evo2.val ok 6 ?_ ?_ ?_; rotate_left; (intro w' hg; have nq := QK1 w' hg; go_simp <;> with_reducible rfl); simp only [Act.put, L0, L1, L2]) | (refine Evo2.val ok 6 ?_ ?_ ?_; rotate_left; (intro w' hg; have nq := CVB _ _ (hg.blk NC2 (by intro q; first | exact q | (have h1 := AP2.size; have h2 := NL2; (try dsimp only at q); omega))); go_simp <;> with_reducible rfl); simp only [Act.put, L0, L1, L2]) | (refine Evo2.vl ok 6 KC.out (Chg.trans AP2 (Chg.grow GG2)) _ _ ?_) | (refine Evo2.va ok 6 _ _ ?_) | (refine Evo2.val ok 6 ?_ ?_ ?_; rotate_left; (intro w' hg; have nq := fun j => Blk.cell (w := w') (hg.blk NC2 (by intro q; first | exact q | (have h1 := AP2.size; have h2 := NL2; (try dsimp only at q); omega))) j; go_simp <;> with_reducible rfl); simp only [Act.put, L0, L1, L2])
          refine Evo2.va ok 7 _ _ ?_
          refine Evo2.va ok 17 _ _ ?_
          refine Evo2.all [18] (by decide +kernel) rfl ?_
          intro wp3 gp3 iq hq
          simp only [List.mem_cons, List.mem_nil_iff, or_false] at hq
          have AP3 := Chg.trans (Chg.trans AP2 (Chg.grow GG2)) (Chg.grow gp3)
          have NC2 := (gp3.block _ NL2).trans NC2
          have NL2 := Nat.lt_of_lt_of_le NL2 gp3.size
          subst hq
          refine Evo2.runs (by rfl) (by rfl) (fun K' hK' => ?_)
          (try obtain ⟨q1, q2⟩ := KC.out wp3 AP3)
          go_simp
          (try (simp only [Evo.after_value, Evo.after_skip]))
          refine hK'.out _ _ ?_
          clear hK'
          simp only [Act.put, L0, L1, L2]
          (try clear q1 q2)
          refine ⟨.inr (Chg.alloc (Chg.refl _ _) _), ?_⟩
          generalize hG3 : World.alloc wp3 _ = wg3
          have GG3 : Grow.G wp3 wg3 := hG3 ▸ Grow.G.alloc (Grow.G.refl _) _
          have NC2 := (GG3.block _ NL2).trans NC2
          have NL2 := Nat.lt_of_lt_of_le NL2 GG3.size
          have NC3 := (congrArg (fun W : World => W.heap[wp3.heap.size]?) hG3).symm.trans (MapKept.heap_alloc wp3 _).1
          have NL3 : wp3.heap.size < wg3.heap.size := by rw [← hG3]; simp
          clear hG3
          refine Evo2.all [19] (by decide +kernel) rfl ?_
          intro wp4 gp4 iq hq
          simp only [List.mem_cons, List.mem_nil_iff, or_false] at hq
          have AP4 := Chg.trans (Chg.trans AP3 (Chg.grow GG3)) (Chg.grow gp4)
          have NC2 := (gp4.block _ NL2).trans NC2
          have NL2 := Nat.lt_of_lt_of_le NL2 gp4.size
          have NC3 := (gp4.block _ NL3).trans NC3
          have NL3 := Nat.lt_of_lt_of_le NL3 gp4.size
          subst hq
          refine Fr.own_fr (by rfl) (by rfl) (Operand.tmp 27) (Operand.tmp 44) 38 (by rfl) W2.heap.size 55 i0 (.agg #[.string ⟨#[]⟩, .string ⟨#[]⟩]) 2 32 Try.underlying38 HI.out HZ0.out HZ1.out HZ2.out rfl (by decide) _ _ _ (by rfl) (own_later OW.out ?_) _ 1 1 [.string (tagK k), .string rj] (by rfl) rfl (news_at NC3) ?_ ?_ ?_ ?_ ?_ 
          · first | exact ((((gp1.trans GG1).trans gp2).trans hgR).trans gp3).trans (GG3.trans gp4) | exact ((((gp1.trans hgR).trans gp2).trans GG2).trans gp3).trans (GG3.trans gp4) 
          · intro u hu; simp at hu; rcases hu with rfl | rfl <;> rfl 
          · unfold maxLen; omega 
          · omega 
          · have := AP4.size; omega
          intro vw4 wc4 OW4 fr4
          obtain ⟨g9, c9, rfl, hg9⟩ := own_some OW4 (by omega); have CH4 : Chg (fun k => k < wr.heap.size ∧ y.ownBlock = some k) _ _ := (Chg.ofFr fr4).mono (fun k _ q => ⟨(hyl k q).2, q⟩)
          refine ⟨.inr CH4, ?_⟩
          have AC4 := Chg.trans AP4 CH4
          simp only [Act.put, L0, L1, L2]
          refine Evo2.va ok 20 _ _ ?_
          refine Evo2.all [21] (by decide +kernel) rfl ?_
          intro wp5 gp5 iq hq
          simp only [List.mem_cons, List.mem_nil_iff, or_false] at hq
          have AP5 := Chg.trans AC4 (Chg.grow gp5)
          subst hq
          refine Evo2.runs (by rfl) (by rfl) (fun K' hK' => ?_)
          (try obtain ⟨q1, q2⟩ := KC.out wp5 AP5)
          have BQ := BG.out.chg AP5 (fun q => NG q.2); have gl := BQ.lt; have e0 := Blk.at (cs := [.slice xa (mkS zs).length xc, y]) (k := 1) BQ rfl; have f0 := BQ.free 1; clear BQ
          go_simp
          (try (simp only [Evo.after_value, Evo.after_skip]))
          refine hK'.out _ _ ?_
          clear hK'
          simp only [Act.put, L0, L1, L2]
          (try clear gl e0 f0)
          (try clear q1 q2)
          refine ⟨.inl (by first | rfl | trivial), ?_⟩
          refine Evo2.done (by decide +kernel) (fun wz gz => ?_)
          have V4 := BG.out.chg AP5 (fun q => NG q.2)
          have CS : Chg (fun k => k = gb) wp5 (wp5.setCell ⟨gb, 1, none⟩ (.slice (some ⟨g9, 0, none⟩) (acc.length + 1) c9)) := Chg.setCell (G := fun k => k = gb) (Chg.refl _ _) (fun _ => rfl) _ _
          have VZ := Lib.hid ((V4.set 1 (.slice (some ⟨g9, 0, none⟩) (acc.length + 1) c9)).grow gz)
          have RW4 := own_later OW4 gp5
          have RZ := Lib.hid (own_later (CS.own RW4 (fun k hk q => by have q : k = gb := q; subst q; exact own_blk_types RW4 V4 (by decide) hk)) gz)
          have D : Chg (fun k => k = gb ∨ W2.heap.size ≤ k) wr wz := ((AP5.mono (fun k _ q => .inr (hyl k q.2).1)).trans (CS.mono (fun k _ q => .inl q))).trans (Chg.grow gz)
          have CZ : Hid (Chg (fun k => k = gb) W2 wz) := Lib.hid (CH.out.join D (fun i hi q => q.elim id (fun q => by omega)))
          clear D RW4 CS V4
          go_wp2_with fail
          go_roundw
          case rel => exact ⟨k + 1, acc ++ [⟨tagK k, rj⟩], _, by omega, by go_num, by rw [List.length_append, List.length_singleton]; omega, by rw [List.length_append, List.length_singleton, List.flatMap_append]; exact RZ, VZ, ST2, CZ⟩
          case measure => simp [intOf]; omega
    · have E : Hid (mkT ms = acc) := Lib.hid (by
        rw [SP.out]
        by_cases h4 : k < 4
        · rw [mkTg_short _ _ (fun h => hgo ⟨h4, by omega⟩), List.append_nil]
        · rw [show 4 - k = 0 by omega]; exact List.append_nil _)
      have zWr := CH.out.size
      have NG : ¬ y.ownBlock = some gb := own_blk_types OW.out BG.out (by decide)
      have hz4 := CH.out.blk B4.out (fun q => by have q : w.heap.size = gb := q; omega)
      have SX := CH.out.own HOX.out (fun k hk q => by have q : k = gb := q; have := HXB.out k hk; omega)
      have FG : Hid (Grow.G w wr) := Lib.hid (g0 ((Chg.grow (G := fun _ => False) G2.out).join CH.out (fun i hi q => by have q : i = gb := q; omega)))
      obtain ⟨ya, yc, rfl⟩ := own_shape OW.out
      have e0 := Blk.at (cs := [.slice xa (mkS zs).length xc, .slice ya acc.length yc]) (k := 0) BG.out rfl
      have e1 := Blk.at (cs := [.slice xa (mkS zs).length xc, .slice ya acc.length yc]) (k := 1) BG.out rfl
      have hz4 : Blk wr w.heap.size #[.slice none 0 0, .slice none 0 0] 40 := hz4
      have f0 := hz4.free 0
      have f1 := hz4.free 1
      have l4 := hz4.lt
      have g40 := Blk.at (cs := [.slice none 0 0, .slice none 0 0]) (k := 0) hz4 rfl
      have g41 := Blk.at (cs := [.slice none 0 0, .slice none 0 0]) (k := 1) hz4 rfl
      have HZ4 := Lib.hid hz4
      have EL : acc = mkT ms := E.out.symm
      subst EL
      have MD : MadeT w wr xa xc ya yc zs ms := ⟨SX, own_base OW.out (by omega)⟩
      have CS : Chg (fun k => k = w.heap.size) wr ((wr.setCell ⟨w.heap.size, 0, none⟩ (.slice xa (mkS zs).length xc)).setCell ⟨w.heap.size, 1, none⟩ (.slice ya (mkT ms).length yc)) := Chg.setCell (G := fun k => k = w.heap.size) (Chg.setCell (G := fun k => k = w.heap.size) (Chg.refl _ _) (fun _ => rfl) _ _) (fun _ => rfl) _ _
      have MZ : MadeT w ((wr.setCell ⟨w.heap.size, 0, none⟩ (.slice xa (mkS zs).length xc)).setCell ⟨w.heap.size, 1, none⟩ (.slice ya (mkT ms).length yc)) xa xc ya yc zs ms := ⟨CS.own MD.sh (fun k hk q => by have q : k = w.heap.size := q; subst q; exact own_blk_types MD.sh HZ4.out (by decide) hk), CS.own MD.tg (fun k hk q => by have q : k = w.heap.size := q; subst q; exact own_blk_types MD.tg HZ4.out (by decide) hk)⟩
      have FZ : Grow.G w ((wr.setCell ⟨w.heap.size, 0, none⟩ (.slice xa (mkS zs).length xc)).setCell ⟨w.heap.size, 1, none⟩ (.slice ya (mkT ms).length yc)) := g0 ((Chg.grow (G := fun _ => False) FG.out).join CS (fun i hi q => by have q : i = w.heap.size := q; omega))
      have FIN := Lib.hid (And.intro MZ FZ)
      clear hz4 MZ FZ CS MD SX E FG NG
      by_cases h4 : k < 4
      · have d0 : decide (k < 4) = true := decide_eq_true h4
        have d1 : decide (k < ms.length) = false := decide_eq_false (fun h => hgo ⟨h4, h⟩)
        have d2 : decide ((k : Int) < (ms.length : Int)) = false := decide_eq_false (by omega)
        go_wp2_with fail
        refine bodyPost_ret (v := tabV xa (mkS zs).length xc ya (mkT ms).length yc) ?_ rfl ⟨xa, xc, ya, yc, rfl, FIN.out.1, FIN.out.2⟩
        have ZB := (HZ4.out.set 0 (.slice xa (mkS zs).length xc)).set 1 (.slice ya (mkT ms).length yc)
        simp only [List.setIfInBounds_toArray, List.set_cons_zero, List.set_cons_succ] at ZB
        simp [results, Try.results15, go_sem, tabV, ZB.cell]
      · have d0 : decide (k < 4) = false := decide_eq_false h4
        go_wp2_with fail
        refine bodyPost_ret (v := tabV xa (mkS zs).length xc ya (mkT ms).length yc) ?_ rfl ⟨xa, xc, ya, yc, rfl, FIN.out.1, FIN.out.2⟩
        have ZB := (HZ4.out.set 0 (.slice xa (mkS zs).length xc)).set 1 (.slice ya (mkT ms).length yc)
        simp only [List.setIfInBounds_toArray, List.set_cons_zero, List.set_cons_succ] at ZB
        simp [results, Try.results15, go_sem, tabV, ZB.cell]
end Go.Proofs.Ytjhfjjkfnmnkgaa


/- The walk of StampOrder. -/
import Derived.Test.YtjcdmnogmpjkkaaDoorZ97
import Derived.Test.YtjcdmnogmpjkkaaDoorZ51
import Derived.Test.YtjcdmnogmpjkkaaDoorZ92
import Derived.Test.YtjcdmnogmpjkkaaDoorZ2
namespace Go.Proofs.YtjcdmnogmpjkkaaDoor
set_option maxRecDepth 100000
set_option linter.unusedVariables false
set_option linter.unusedSimpArgs false
set_option linter.unnecessarySimpa false
open Go.RowKit

def ordL : List ByteArray := [webN, aN, web1N]
def ordC (s : ByteArray) : Cfg := ⟨s, 0, 1, 0, 1, 0⟩
theorem ord_at {j : Nat} (h : j < 3) : ∃ s, (ordL.map Value.string)[j]? = some (.string s) ∧ (ordC s).err = 0 ∧ s.size ≤ 16 := by
  match j, h with
  | 0, _ => exact ⟨_, rfl, by decide +kernel, by decide⟩
  | 1, _ => exact ⟨_, rfl, by decide +kernel, by decide⟩
  | 2, _ => exact ⟨_, rfl, by decide +kernel, by decide⟩
set_option maxHeartbeats 64000000 in
theorem walkStampOrder (w : World) (v1 : Value) (zs : List Int) (hz : IntSlice w v1 zs) (v2 : Value) (ys : List Int) (hy : IntSlice w v2 ys) (ht : Tab w) :
    Calls Tryd.prog 7 #[v1, v2] w fun e w' => e = .returned (.bool true) ∧ Below w.heap.size w w' := by
  have KN := Lib.hid (known12_any w ht)
  have HT := Lib.hid ht
  have FP := Lib.hid (fun g l => (BkB.foot g l).sep Emp.foot)
  have FE := Lib.hid Emp.foot
  obtain ⟨va, vc, rfl, hat⟩ := hz.open
  obtain ⟨ua, uc, rfl, hau⟩ := hy.open
  have HZ := Lib.hid hat
  have HY := Lib.hid hau
  have CE : (Tryd.prog.info? 33).map (·.size) = some 6 := by kernel_rfl
  clear hat hz hau hy ht
  go_enter Tryd.func7, Tryd.ntmps7
  go_wp2_with fail
  refine KN.out.mono ?_
  rintro e w3 ⟨rfl, hg⟩
  have H := Lib.hid ((Hold.nil w).grow Emp.foot hg)
  clear hg
  go_wp2_with fail
  refine (hold_bknew H.out FE.out).mono ?_
  rintro e w4 ⟨g, rfl, hh⟩
  replace H := Lib.hid hh
  clear hh
  go_wp2_with fail
  go_loopw [6, 7] (fun p i wr => ∃ (k : Nat) (l : List Rv) (pa : Option Addr) (pc : Nat), k ≤ 30 ∧ l.length ≤ k ∧ p = .slice pa (allK l).length pc ∧ i = .int .i64 (k : Int) ∧ Hid (wr.ownsRow w.heap.size 9 1 (.slice pa (allK l).length pc) (allK l).length ((allK l).map Value.string)) ∧ Hid (Hold w wr [] (Sep (BkB g l) Emp))) (fun _ i _ => 30 - (_root_.Go.RowKit.intOf i).toNat)
  case atStart => exact ⟨0, [], none, 0, by omega, Nat.le_refl _, rfl, rfl, Lib.hid (World.ownsRow_nil _ _ _ _), H⟩
  case round =>
    clear H
    obtain ⟨k, l, pa, pc, hk, hll, rfl, rfl, OW, H⟩ := hrel
    have hk1 : IntKind.i64.wrap ((k : Int) + 1) = (k : Int) + 1 := IntWalk.i64_in _ ⟨by omega, by omega⟩
    by_cases h12 : k < zs.length ∧ k < 30
    · obtain ⟨h1, h2⟩ := h12
      obtain ⟨b, off, hbo, hcz, hw⟩ := HZ.out.at H.out.below h1
      have ZC : Hid (∀ w', Grow.G w w' → w'.cell? ⟨b, off + k, none⟩ = some (.int .i64 (zs.getD k 0))) := Lib.hid (fun w' q => by
        obtain ⟨b', off', e, hc, _⟩ := HZ.out.at q h1
        rw [hbo] at e; cases e; exact hc)
      have d1 : decide ((k : Int) < (zs.length : Int)) = true := decide_eq_true (by omega)
      have d2 : decide ((k : Int) < 30) = true := decide_eq_true (by omega)
      have k1 : (0 : Int) ≤ (k : Int) := by omega
      have k2 : (k : Int) < (zs.length : Int) := by omega
      obtain ⟨z, hzz⟩ : ∃ z, zs.getD k 0 = z := ⟨_, rfl⟩
      rw [hzz] at hcz hw ZC
      subst hbo
      have WZ := Lib.hid (fun w => quiet12 (within12_any z 130 w (by omega) (by omega) hw.1 hw.2))
      have r130 := withinI_range z 130 (by omega)
      obtain ⟨G, hG⟩ : ∃ G, 1 + withinI z 130 = G := ⟨_, rfl⟩
      have hwr : IntKind.i64.wrap (1 + withinI z 130) = G := by rw [hG]; exact IntWalk.i64_in _ ⟨by omega, by omega⟩
      have hGb : 1 ≤ G ∧ G ≤ 999999 := by omega
      clear hw hzz r130 hG hcz
      have hcase : (¬ k < ys.length ∧ wf64 (0 : Int)) ∨ ∃ (b2 : Nat) (off2 : Nat) (y : Int), k < ys.length ∧ ua = some ⟨b2, off2, none⟩ ∧ wr.cell? ⟨b2, off2 + k, none⟩ = some (.int .i64 y) ∧ wf64 y := by
        by_cases hky : k < ys.length
        · obtain ⟨b2, off2, e, hc, hwy⟩ := HY.out.at H.out.below hky
          exact .inr ⟨b2, off2, _, hky, e, hc, hwy⟩
        · exact .inl ⟨hky, by unfold wf64; omega⟩
      rcases hcase with ⟨hn, hyw⟩ | ⟨b2, off2, y, hky, rfl, hcy, hyw⟩
      case' inl =>
        have d3 : decide ((k : Int) < (ys.length : Int)) = false := decide_eq_false (by omega)
        obtain ⟨j, j3, hWY⟩ := within3_nat 0 hyw
      case' inr =>
        have d3 : decide ((k : Int) < (ys.length : Int)) = true := decide_eq_true (by omega)
        have k3 : (k : Int) < (ys.length : Int) := by omega
        obtain ⟨j, j3, hWY⟩ := within3_nat y hyw
      all_goals
        have WY := Lib.hid hWY
        obtain ⟨nm, hnm, hce, hns⟩ := ord_at j3
        have HJ := Lib.hid hnm
        have HCE := Lib.hid hce
        have j1 : (0 : Int) ≤ (j : Int) := by omega
        have j2 : (j : Int) < 3 := by omega
        clear hnm hce hyw hWY
        go_wp2_with fail
        have H5 := H.out.alloc' (FP.out _ _) (ordL.map Value.string) 9 (g := wr.heap.size) rfl
        have c0 := ((H5.mem.blk (i := 0) rfl).cell j).trans (show _ = some (.string nm) from by rw [List.getElem?_toArray]; exact HJ.out)
        have hfl := (H5.mem.blk (i := 0) rfl).lt
        have OW2 := Lib.hid (own_later OW.out (Grow.G.alloc (Grow.G.refl wr) (.cells (ordL.map Value.string).toArray 9)))
        unfold ordL webN aN web1N at H5 c0 hfl OW2
        simp only [List.map_cons, List.map_nil] at H5 c0 hfl OW2
        obtain ⟨W5, hW5⟩ : ∃ W5, W5 = wr.alloc (.cells #[.string ⟨#[119, 101, 98]⟩, .string ⟨#[97]⟩, .string ⟨#[119, 101, 98, 45, 49]⟩] 9) := ⟨_, rfl⟩
        rw [← hW5] at H5 c0 hfl OW2 ⊢
        have OW := OW2
        have H := Lib.hid H5
        clear hW5 H5 OW2
        generalize wr.heap.size = fb at *
        refine (WY.out _).mono ?_
        rintro e wx ⟨rfl, rfl⟩
        clear WY
        go_wp2_with ((refine Hold.storeAll 1 (t := 33) (FP.out _ _) rfl rfl rfl rfl (n := 6) (by kernel_rfl) (Hold.alloc' H.out (FP.out _ _) _ _ rfl) rfl rfl rfl rfl ?_; intro W6 HMm CW6))
        simp only [K0, K1, L1, L2, K2, K3, K4, K5, K6, K7, Nat.reduceAdd, Nat.reduceSub] at HMm
        replace H := Lib.hid HMm
        clear HMm
        refine Stay.go ?_
        have hrl : ∀ k, (Value.slice pa (allK l).length pc).ownBlock = some k → k < W5.heap.size := fun k hk => (OW.out.lt k hk).2
        have OW := Lib.hid (CW6.own (own_later OW.out (Grow.G.alloc (Grow.G.refl W5) _)) (fun k hk q => by have := hrl k hk; have q : k = W5.heap.size := q; omega))
        clear CW6 hrl c0 hfl
        generalize W5.heap.size = cb at *
        obtain ⟨F, hF⟩ := H.out.named
        have HF := Lib.hid hF
        have OKB := Lib.hid (hold_bkok H.out)
        obtain ⟨bo, hbo⟩ : ∃ bo, newK l (ordC nm) G = bo := ⟨_, rfl⟩
        obtain ⟨l1, hl1⟩ : ∃ l1, putK l (ordC nm) G = l1 := ⟨_, rfl⟩
        obtain ⟨sv, hsv⟩ : ∃ sv, revS nm G = sv := ⟨_, rfl⟩
        have HAL : Hid (insN (allK l) sv = allK l1) := Lib.hid (by rw [← hsv, ← hl1]; exact (allK_put (c := ordC nm)).symm)
        have P4 : l1.length ≤ k + 1 := by have := putK_len l (ordC nm) G; rw [hl1] at this; omega
        have ST := Lib.hid (fun (w' : World) (h : HoldF w w' [(fb, [.string ⟨#[119, 101, 98]⟩, .string ⟨#[97]⟩, .string ⟨#[119, 101, 98, 45, 49]⟩], 9), (cb, [.string nm, .int .i64 0, .int .i64 1, .int .i64 0, .int .i64 1, .int .i64 0], 33)] (Sep (BkB g l) Emp) F) => hold_bkstampF (st := sv) h (tabG HT.out h.mem.below) (ordC nm) G HCE.out hGb (by omega) hsv hbo hl1)
        unfold ordC Cfg.v at ST
        dsimp only at ST
        have RV := Lib.hid (fun w => rrev_any nm G w (by unfold maxLen; omega))
        rw [hsv] at RV
        clear hF hbo hl1 hsv HCE HJ
        have KC := Lib.hid (fun (w' : World) (h : Chg F W6 w') => (⟨ZC.out w' (HF.out.mem.below.trans (h.base HF.out.mem.size HF.out.lo)), trivial⟩ : w'.cell? ⟨b, off + k, none⟩ = some (.int .i64 z) ∧ True))
        go_wp2_with fail
        refine Evo2.start' (ℓ := none) (S := Chg (F)) (E := Grow.G) (by kernel_rfl) ⟨Chg.pre _, by decide +kernel, (by intro c a d v w h; cases d <;> exact h), by decide +kernel⟩ (fun ok => ?_)
        refine Evo2.va ok 0 _ _ ?_
        first | (refine Evo2.val ok 1 ?_ ?_ ?_; rotate_left; (focus (intro w' hg; refine Box.exec_loadAll ?_ Tryd.underlying33 CE (HF.out.blk (Chg.trans (Chg.refl (F) _) hg) (i := 1) rfl) ?_; (all_goals (first | exact ⟨rfl, rfl⟩ | rfl)))); simp only [Act.put, L0, L1, L2]) | (refine Evo2.vl ok 1 KC.out (Chg.refl (F) _) _ _ ?_) | (refine Evo2.va ok 1 _ _ ?_)
        refine Evo2.va ok 2 _ _ ?_
        refine Evo2.va ok 3 _ _ ?_
        refine Evo2.va ok 4 _ _ ?_
        first | (refine Evo2.vl ok 5 KC.out (Chg.refl (F) _) _ _ ?_) | (refine Evo2.va ok 5 _ _ ?_)
        (refine Evo2.cal ok 6 ?_ 13 ?_ ?_ ?_ ?_; rotate_left 2; (focus (intro w'; go_simp <;> with_reducible rfl)); (focus (intro w' g'; with_reducible exact WZ.out w')); simp only [Act.put, L0, L1, L2])
        refine Evo2.va ok 7 _ _ ?_
        refine Evo2.all [8] (by decide +kernel) rfl ?_
        intro wp1 gp1 iq hq
        simp only [List.mem_cons, List.mem_nil_iff, or_false] at hq
        have AP1 := Chg.trans (Chg.refl (F) _) (Chg.grow gp1)
        subst hq
        refine Evo2.enters 15 _ (by rfl) (by rfl) (by go_simp; exact ⟨rfl, rfl⟩) ?_
        refine (ST.out wp1 (HF.out.grow (FP.out _ _) gp1)).mono ?_
        rintro e wc1 ⟨rfl, H7, CH1⟩
        refine ⟨_, rfl, .inr CH1, ?_⟩
        have AC1 := Chg.trans AP1 CH1
        simp only [Act.put, L0, L1, L2]
        refine Evo2.va ok 9 _ _ ?_
        refine Evo2.va ok 10 _ _ ?_
        refine Evo2.va ok 11 _ _ ?_
        refine Evo2.va ok 12 _ _ ?_
        refine Evo2.va ok 13 _ _ ?_
        refine Evo2.done (by decide +kernel) (fun wz gz => ?_)
        have AZ := Chg.trans AC1 (Chg.grow gz)
        have OW := Lib.hid (AZ.own OW.out (fun k hk q => book_apart HF.out.st OW.out k hk q))
        have H := Lib.hid (H7.grow (FP.out _ _) gz)
        clear H7 AZ gz CH1 KC HF ST
        go_wp2_with fail
        have KC := Lib.hid (fun (w' : World) (h : Chg (fun _ => False) wz w') => (⟨h.cell (H.out.mem.cell (i := 1) (o := 0) rfl rfl) id, h.cell (ZC.out wz H.out.below) id, trivial⟩ : w'.cell? ⟨cb, 0, none⟩ = some (.string nm) ∧ w'.cell? ⟨b, off + k, none⟩ = some (.int .i64 z) ∧ True))
        refine Evo2.start' (ℓ := none) (S := Chg (fun _ => False)) (E := Grow.G) (by kernel_rfl) ⟨Chg.pre _, by decide +kernel, (by intro c a d v w h; cases d <;> exact h), by decide +kernel⟩ (fun ok => ?_)
        refine Evo2.va ok 0 _ _ ?_
        refine Evo2.va ok 1 _ _ ?_
        first | (refine Evo2.vl ok 2 KC.out (Chg.refl (fun _ => False) _) _ _ ?_) | (refine Evo2.va ok 2 _ _ ?_)
        refine Evo2.va ok 3 _ _ ?_
        refine Evo2.va ok 4 _ _ ?_
        refine Evo2.va ok 5 _ _ ?_
        first | (refine Evo2.vl ok 6 KC.out (Chg.refl (fun _ => False) _) _ _ ?_) | (refine Evo2.va ok 6 _ _ ?_)
        (refine Evo2.cal ok 7 ?_ 13 ?_ ?_ ?_ ?_; rotate_left 2; (focus (intro w'; go_simp <;> with_reducible rfl)); (focus (intro w' g'; with_reducible exact WZ.out w')); simp only [Act.put, L0, L1, L2])
        refine Evo2.va ok 8 _ _ ?_
        (refine Evo2.cal ok 9 ?_ 18 ?_ ?_ ?_ ?_; rotate_left 2; (focus (intro w'; go_simp <;> with_reducible rfl)); (focus (intro w' g'; with_reducible exact RV.out w')); simp only [Act.put, L0, L1, L2])
        refine Evo2.va ok 10 _ _ ?_
        refine Evo2.done (by decide +kernel) (fun wz gz => ?_)
        have AZ := Chg.trans (Chg.refl (fun _ => False) _) (Chg.grow gz)
        have GZ := AZ.toGrow (fun _ _ => id)
        have OW := Lib.hid (own_later OW.out GZ)
        have H := Lib.hid (H.out.grow (FP.out _ _) GZ)
        clear AZ gz KC GZ RV WZ
        go_wp2_with fail
        have hls := allK_len l
        refine (rput_any _ (allK l) sv w.heap.size _ (by omega) H.out.below.size OW.out).mono ?_
        rintro e w9 ⟨v9, rfl, ho, g9⟩
        rw [HAL.out] at ho
        obtain ⟨pa', pc', rfl⟩ := own_shape ho
        have OW := Lib.hid ho
        have H := Lib.hid ((H.out.grow (FP.out _ _) g9).take 0)
        clear ho g9
        go_wp2_with fail
        go_roundw
        case rel => exact ⟨k + 1, l1, pa', pc', by omega, by omega, rfl, by go_num, OW, H⟩
        case measure => simp [_root_.Go.RowKit.intOf]; omega
    · have hl9 : l.length ≤ 1000 := by omega
      have hls := allK_len l
      have h3 : ¬ k < zs.length ∨ (k < zs.length ∧ ¬ k < 30) := by omega
      clear h12
      rcases h3 with c1 | ⟨c1, c2⟩
      case' inl => have d1 : decide ((k : Int) < (zs.length : Int)) = false := decide_eq_false (by omega)
      case' inr =>
        have d1 : decide ((k : Int) < (zs.length : Int)) = true := decide_eq_true (by omega)
        have d2 : decide ((k : Int) < 30) = false := decide_eq_false (by omega)
      all_goals
        go_wp2_with fail
        refine (hold_bkall H.out FE.out (tabG HT.out H.out.below) hl9).mono ?_
        rintro e w8 ⟨x, rfl, ho, g8, hh⟩
        obtain ⟨xa, xc, rfl⟩ := own_shape ho
        have SM := Lib.hid (same12s_any w8 xa xc pa pc (allK l) (own_strAt ho) (own_strAt (own_later OW.out g8)) (by omega))
        replace H := Lib.hid hh
        clear hh ho g8
        go_wp2_with fail
        refine SM.out.mono ?_
        rintro e w9 ⟨rfl, g9⟩
        go_wp2_with fail
        go_ret
        exact ⟨rfl, Grow.G.trans H.out.below g9⟩
end Go.Proofs.YtjcdmnogmpjkkaaDoor

/- My own texts LwT, laid in one file. -/
import Derived.Test.YtjhfjjkfnmnkgaaZ98G
import Derived.Test.YtjhfjjkfnmnkgaaZ98C
import Derived.Test.YtjhfjjkfnmnkgaaZ98B
import Derived.Test.YtjhfjjkfnmnkgaaZ51
import Derived.Test.YtjhfjjkfnmnkgaaZ29
import Derived.Test.YtjhfjjkfnmnkgaaZ2

/- lead's way: turn (written by tools/gen_turn.py). -/
namespace Go.Proofs.Ytjhfjjkfnmnkgaa
set_option maxRecDepth 100000
set_option linter.unusedVariables false
set_option linter.unusedSimpArgs false
set_option linter.unnecessarySimpa false
open Go.RowKit Go.Args

abbrev lwT13 : TypeId := 71
abbrev ltT13 : TypeId := 40
set_option maxHeartbeats 8000000 in
theorem turn_keep (fa : Option Addr) (fr : List Shr) (fc : Nat) (ta : Option Addr) (to : List Shr) (tc : Nat) (si : Int) (sa : Option Addr) (sn sc : Nat) (ga : Option Addr) (gn gc : Nat) (xa : Option Addr) (sh : List Shr) (xc : Nat) (yb : Option Addr) (yn yd : Nat) (now wh : Int) (w : World) (hf : ShSl w fa fr) (ht : ShSl w ta to) (sd1 : Sd fr) (sd2 : Sd to) (he : to = sh) (hs : 0 ≤ si ∧ si ≤ 1000000) (hn : 0 ≤ now ∧ now ≤ 1000000) (hw : 0 ≤ wh ∧ wh ≤ 1000000) (hx : ShSl w xa sh) (hsd : Sd sh) :
    Calls Try.prog 31 #[.agg #[.slice fa fr.length fc, .slice ta to.length tc, .int .i64 si, .int .i64 wh, .slice sa sn sc, .slice ga gn gc], .agg #[.slice xa sh.length xc, .slice yb yn yd], .int .i64 now, .int .i64 wh] w fun e w' => ∃ u, e = .returned (.agg #[.slice fa fr.length fc, .slice ta to.length tc, .int .i64 si, .int .i64 wh, u, .slice yb yn yd]) ∧ w'.ownsRow w.heap.size shareT13 2 u (rollL fr to (now - si) wh).length ((rollL fr to (now - si) wh).flatMap Shr.cells) ∧ Grow.G w w' := by
  obtain ⟨W0, hW0⟩ : ∃ W0, W0 = ((w.alloc (.cells #[.slice fa fr.length fc, .slice ta to.length tc, .int .i64 si, .int .i64 wh, .slice sa sn sc, .slice ga gn gc] lwT13)).alloc (.cells #[.slice xa sh.length xc, .slice yb yn yd] ltT13)).alloc (.cells #[.slice none 0 0, .slice none 0 0, .int .i64 0, .int .i64 0, .slice none 0 0, .slice none 0 0] lwT13) := ⟨_, rfl⟩
  have HM0 : Mem w W0 [(w.heap.size, [.slice fa fr.length fc, .slice ta to.length tc, .int .i64 si, .int .i64 wh, .slice sa sn sc, .slice ga gn gc], lwT13), (w.heap.size + 1, [.slice xa sh.length xc, .slice yb yn yd], ltT13), (w.heap.size + 2, [.slice none 0 0, .slice none 0 0, .int .i64 0, .int .i64 0, .slice none 0 0, .slice none 0 0], lwT13)] := by rw [hW0]; exact Mem.alloc' (Mem.alloc' (Mem.alloc' (Mem.nil w) _ _ rfl) _ _ (g := w.heap.size + 1) (by simp)) _ _ (g := w.heap.size + 2) (by simp)
  have RG := Lib.hid (fun w' (q : Grow.G w w') => roll_any fa fr fc ta to tc (now - si) wh w' sd1.small sd2.small sd1.pos sd1.revs sd2.revs (by omega) (by omega) (SlOf.later hf q) (SlOf.later ht q))
  have HRL : Hid ((rollL fr to (now - si) wh).length ≤ 1000) := Lib.hid (by have := sd_len (roll_sd' (t := now - si) (n := wh) sd1 sd2); omega)
  have h1 : (wh != wh) = false := by simp
  have EQ := Lib.hid (fun w' (q : Grow.G w w') => equalS_any xa ta sh to xc tc w' (by have := hsd.len; omega) (SlOf.later hx q) (SlOf.later ht q))
  rw [show sameShr sh to = true from (sameL_iff shrB_iff).2 he.symm] at EQ
  have hsb : IntKind.i64.wrap (now - si) = now - si := IntWalk.i64_in _ ⟨by omega, by omega⟩
  clear ht hf hx hsd sd1 sd2 he
  go_enter Try.func31, Try.ntmps31
  go_wp2_with fail
  rw [← hW0]
  refine (EQ.out _ HM0.below).mono ?_
  rintro e w1 ⟨rfl, hg⟩
  have HM := Lib.hid (HM0.grow hg)
  have HZL : Hid (w.heap.size + 2 < w1.heap.size) := Lib.hid (HM.out.lt (i := 2) rfl)
  clear HM0 hg EQ hW0
  have KC := Lib.hid (fun (w' : World) (h : Chg (fun _ => False) w1 w') => (have q := (HM.out.blk (i := 0) rfl).chg h id; ⟨Blk.at q (k := 0) rfl, Blk.at q (k := 1) rfl, Blk.at q (k := 2) rfl, Blk.at q (k := 3) rfl, h.cell (HM.out.cell (i := 1) (o := 1) rfl rfl) id, trivial⟩ : w'.cell? ⟨w.heap.size, 0, none⟩ = some (.slice fa fr.length fc) ∧ w'.cell? ⟨w.heap.size, 1, none⟩ = some (.slice ta to.length tc) ∧ w'.cell? ⟨w.heap.size, 2, none⟩ = some (.int .i64 (si)) ∧ w'.cell? ⟨w.heap.size, 3, none⟩ = some (.int .i64 (wh)) ∧ w'.cell? ⟨w.heap.size + 1, 1, none⟩ = some (.slice yb yn yd) ∧ True))
  go_wp2_with fail
  refine Evo2.start' (ℓ := some 15) (S := Chg (fun _ => False)) (E := Grow.G) (by kernel_rfl) ⟨Chg.pre _, by decide +kernel, (by intro c a d v w h; cases d <;> exact h), by decide +kernel⟩ (fun ok => ?_)
  refine Evo2.va ok 0 _ _ ?_
  first | (refine Evo2.vl ok 1 KC.out (Chg.refl (fun _ => False) _) _ _ ?_) | (refine Evo2.va ok 1 _ _ ?_)
  refine Evo2.va ok 2 _ _ ?_
  first | (refine Evo2.vl ok 3 KC.out (Chg.refl (fun _ => False) _) _ _ ?_) | (refine Evo2.va ok 3 _ _ ?_)
  refine Evo2.va ok 4 _ _ ?_
  refine Evo2.va ok 5 _ _ ?_
  first | (refine Evo2.vl ok 6 KC.out (Chg.refl (fun _ => False) _) _ _ ?_) | (refine Evo2.va ok 6 _ _ ?_)
  refine Evo2.va ok 7 _ _ ?_
  refine Evo2.va ok 8 _ _ ?_
  first | (refine Evo2.vl ok 9 KC.out (Chg.refl (fun _ => False) _) _ _ ?_) | (refine Evo2.va ok 9 _ _ ?_)
  refine Evo2.va ok 11 _ _ ?_
  first | (refine Evo2.vl ok 12 KC.out (Chg.refl (fun _ => False) _) _ _ ?_) | (refine Evo2.va ok 12 _ _ ?_)
  refine Evo2.all [10] (by decide +kernel) rfl ?_
  intro wp1 gp1 iq hq
  simp only [List.mem_cons, List.mem_nil_iff, or_false] at hq
  have AP1 := Chg.trans (Chg.refl (fun _ => False) _) (Chg.grow gp1)
  (try replace RO := Lib.hid (own_later RO.out gp1))
  subst hq
  refine Evo2.enters 47 _ (by rfl) (by rfl) (by go_simp; exact ⟨rfl, rfl⟩) ?_
  refine (RG.out wp1 (Grow.G.trans HM.out.below (Chg.toGrow AP1 (fun _ _ => id)))).mono ?_
  rintro e wc1 ⟨u, rfl, ho, hg⟩; obtain ⟨ua, uc, rfl⟩ := own_shape ho; have CH1 := Chg.grow (G := fun _ => False) hg; have hbs := Nat.le_trans HM.out.below.size AP1.size; have RO := Lib.hid (own_base ho hbs); have HX := Lib.hid (fun k (q : (Value.slice ua (rollL fr to (now - si) wh).length uc).ownBlock = some k) => (show w1.heap.size ≤ k from Nat.le_trans AP1.size (ho.lt k q).1))
  refine ⟨_, rfl, .inr CH1, ?_⟩
  have AC1 := Chg.trans AP1 CH1
  simp only [Act.put, L0, L1, L2]
  refine Evo2.va ok 13 _ _ ?_
  refine Evo2.va ok 14 _ _ ?_
  refine Evo2.all [15] (by decide +kernel) rfl ?_
  intro wp2 gp2 iq hq
  simp only [List.mem_cons, List.mem_nil_iff, or_false] at hq
  have AP2 := Chg.trans AC1 (Chg.grow gp2)
  (try replace RO := Lib.hid (own_later RO.out gp2))
  subst hq
  refine upStoreAt (by rfl) (by rfl) rfl rfl rfl ((HM.out.blk (i := 0) rfl).chg AP2 id)  (v := .agg #[Value.slice ua (rollL fr to (now - si) wh).length uc, .slice yb yn yd]) ⟨by kernel_rfl, by rw [show Try.prog.cellsOf ltT13 = 2 by kernel_rfl]; rfl⟩ (by show 4 + 2 ≤ 6; decide) (by intro u hu; simp [Value.cells] at hu; rcases hu with rfl | rfl <;> rfl) ?_
  intro wc2 BZ CW2
  refine ⟨.inl (by first | rfl | trivial), ?_⟩
  simp only [Act.put, L0, L1, L2]
  refine Evo2.done (by decide +kernel) (fun wz gz => ?_)
  have AZ := AP2
  have BZ : Blk wc2 w.heap.size [.slice fa fr.length fc, .slice ta to.length tc, .int .i64 (si), .int .i64 (wh), Value.slice ua (rollL fr to (now - si) wh).length uc, .slice yb yn yd].toArray lwT13 := BZ
  have hlx : w.heap.size < w1.heap.size := HM.out.lt (i := 0) rfl
  have R1 : Hid (wz.ownsRow w.heap.size shareT13 2 (Value.slice ua (rollL fr to (now - si) wh).length uc) (rollL fr to (now - si) wh).length ((rollL fr to (now - si) wh).flatMap Shr.cells)) := Lib.hid (own_later (CW2.own RO.out (fun k hk q => by have := HX.out k hk; have q : k = w.heap.size := q; omega)) gz)
  have HM := Lib.hid (((HM.out.grow (AZ.toGrow (fun _ _ => id))).set (i := 0) rfl BZ CW2).grow gz)
  simp only [List.set_cons_zero, List.set_cons_succ] at HM
  have HX := Lib.hid (fun k (q : (Value.slice ua (rollL fr to (now - si) wh).length uc).ownBlock = some k) => (show w.heap.size + 2 < k from Nat.lt_of_lt_of_le HZL.out (HX.out k q)))
  clear AZ BZ CW2 gz RO RG KC
  go_wp2_with (first | (refine Mem.loadAll 0 (t := 71) rfl rfl rfl Try.underlying71 (n := 6) (by kernel_rfl) HM.out rfl rfl ?_) | (refine Mem.storeAll 2 (t := 71) rfl rfl rfl rfl (n := 6) (by kernel_rfl) HM.out rfl rfl rfl rfl ?_; intro W9 HMm CW9))
  simp only [K0, K1, L1, L2, K2, K3, K4, K5, K6, K7, Nat.reduceAdd, Nat.reduceSub] at HMm
  replace HM := Lib.hid HMm
  clear HMm
  refine Stay.go ?_
  have BF := HM.out.blk (i := 2) rfl
  go_wp2_with fail
  refine bodyPost_ret (v := .agg #[.slice fa fr.length fc, .slice ta to.length tc, .int .i64 (si), .int .i64 (wh), Value.slice ua (rollL fr to (now - si) wh).length uc, .slice yb yn yd]) (by simp [results, Try.results31, go_sem, BF.cell]) rfl ?_
  exact ⟨_, rfl, CW9.own R1.out (fun k hk q => by have := HX.out k hk; have q : k = w.heap.size + 2 := q; omega), HM.out.below⟩
set_option maxHeartbeats 8000000 in
theorem turn_go_wh (fa : Option Addr) (fn fc : Nat) (ta : Option Addr) (to : List Shr) (tc : Nat) (si wh0 : Int) (sa : Option Addr) (so : List Shr) (sc : Nat) (ga : Option Addr) (gn gc : Nat) (xa : Option Addr) (sh : List Shr) (xc : Nat) (yb : Option Addr) (yn yd : Nat) (now wh : Int) (w : World) (hso : ShSl w sa so) (sd1 : Sd so) (hd : ¬ wh0 = wh) (hn : 0 ≤ now ∧ now ≤ 1000000) (hw : 0 ≤ wh ∧ wh ≤ 1000000) (hx : ShSl w xa sh) (hsd : Sd sh) :
    Calls Try.prog 31 #[.agg #[.slice fa fn fc, .slice ta to.length tc, .int .i64 si, .int .i64 wh0, .slice sa so.length sc, .slice ga gn gc], .agg #[.slice xa sh.length xc, .slice yb yn yd], .int .i64 now, .int .i64 wh] w fun e w' => ∃ u, e = .returned (.agg #[.slice sa so.length sc, .slice xa sh.length xc, .int .i64 now, .int .i64 wh, u, .slice yb yn yd]) ∧ w'.ownsRow w.heap.size shareT13 2 u (rollL so sh 0 wh).length ((rollL so sh 0 wh).flatMap Shr.cells) ∧ Grow.G w w' := by
  obtain ⟨W0, hW0⟩ : ∃ W0, W0 = ((w.alloc (.cells #[.slice fa fn fc, .slice ta to.length tc, .int .i64 si, .int .i64 wh0, .slice sa so.length sc, .slice ga gn gc] lwT13)).alloc (.cells #[.slice xa sh.length xc, .slice yb yn yd] ltT13)).alloc (.cells #[.slice none 0 0, .slice none 0 0, .int .i64 0, .int .i64 0, .slice none 0 0, .slice none 0 0] lwT13) := ⟨_, rfl⟩
  have HM0 : Mem w W0 [(w.heap.size, [.slice fa fn fc, .slice ta to.length tc, .int .i64 si, .int .i64 wh0, .slice sa so.length sc, .slice ga gn gc], lwT13), (w.heap.size + 1, [.slice xa sh.length xc, .slice yb yn yd], ltT13), (w.heap.size + 2, [.slice none 0 0, .slice none 0 0, .int .i64 0, .int .i64 0, .slice none 0 0, .slice none 0 0], lwT13)] := by rw [hW0]; exact Mem.alloc' (Mem.alloc' (Mem.alloc' (Mem.nil w) _ _ rfl) _ _ (g := w.heap.size + 1) (by simp)) _ _ (g := w.heap.size + 2) (by simp)
  have RG := Lib.hid (fun w' (q : Grow.G w w') => roll_any sa so sc xa sh xc 0 wh w' sd1.small hsd.small sd1.pos sd1.revs hsd.revs (by omega) (by omega) (SlOf.later hso q) (SlOf.later hx q))
  have HRL : Hid ((rollL so sh 0 wh).length ≤ 1000) := Lib.hid (by have := sd_len (roll_sd' (t := 0) (n := wh) sd1 hsd); omega)
  have h1 : (wh != wh0) = true := by simp; exact fun e => hd e.symm
  have h00 : IntKind.i64.wrap (now - now) = 0 := by rw [Int.sub_self]; rfl
  have HM := Lib.hid HM0
  rw [hW0] at HM
  have HZL : Hid (w.heap.size + 2 < W0.heap.size) := Lib.hid (HM0.lt (i := 2) rfl)
  rw [hW0] at HZL
  clear hso hx hsd sd1 hd HM0 hW0
  go_enter Try.func31, Try.ntmps31
  go_wp2_with ((with_reducible refine Mem.isList ?_; refine Mem.storeAll 0 (t := 71) rfl rfl rfl rfl (n := 6) (by kernel_rfl) HM.out rfl rfl rfl rfl ?_; intro W2 HMm CW2))
  simp only [K0, K1, L1, L2, K2, K3, K4, K5, K6, K7, Nat.reduceAdd, Nat.reduceSub] at HMm
  replace HM := Lib.hid HMm
  clear HMm
  refine Stay.go ?_
  replace HZL : Hid (w.heap.size + 2 < W2.heap.size) := Lib.hid (HM.out.lt (i := 2) rfl)
  clear CW2
  have KC := Lib.hid (fun (w' : World) (h : Chg (fun _ => False) W2 w') => (have q := (HM.out.blk (i := 0) rfl).chg h id; ⟨Blk.at q (k := 0) rfl, Blk.at q (k := 1) rfl, Blk.at q (k := 2) rfl, Blk.at q (k := 3) rfl, h.cell (HM.out.cell (i := 1) (o := 1) rfl rfl) id, trivial⟩ : w'.cell? ⟨w.heap.size, 0, none⟩ = some (.slice sa so.length sc) ∧ w'.cell? ⟨w.heap.size, 1, none⟩ = some (.slice xa sh.length xc) ∧ w'.cell? ⟨w.heap.size, 2, none⟩ = some (.int .i64 (now)) ∧ w'.cell? ⟨w.heap.size, 3, none⟩ = some (.int .i64 (wh)) ∧ w'.cell? ⟨w.heap.size + 1, 1, none⟩ = some (.slice yb yn yd) ∧ True))
  go_wp2_with fail
  refine Evo2.start' (ℓ := some 15) (S := Chg (fun _ => False)) (E := Grow.G) (by kernel_rfl) ⟨Chg.pre _, by decide +kernel, (by intro c a d v w h; cases d <;> exact h), by decide +kernel⟩ (fun ok => ?_)
  refine Evo2.va ok 0 _ _ ?_
  first | (refine Evo2.vl ok 1 KC.out (Chg.refl (fun _ => False) _) _ _ ?_) | (refine Evo2.va ok 1 _ _ ?_)
  refine Evo2.va ok 2 _ _ ?_
  first | (refine Evo2.vl ok 3 KC.out (Chg.refl (fun _ => False) _) _ _ ?_) | (refine Evo2.va ok 3 _ _ ?_)
  refine Evo2.va ok 4 _ _ ?_
  refine Evo2.va ok 5 _ _ ?_
  first | (refine Evo2.vl ok 6 KC.out (Chg.refl (fun _ => False) _) _ _ ?_) | (refine Evo2.va ok 6 _ _ ?_)
  refine Evo2.va ok 7 _ _ ?_
  refine Evo2.va ok 8 _ _ ?_
  first | (refine Evo2.vl ok 9 KC.out (Chg.refl (fun _ => False) _) _ _ ?_) | (refine Evo2.va ok 9 _ _ ?_)
  refine Evo2.va ok 11 _ _ ?_
  first | (refine Evo2.vl ok 12 KC.out (Chg.refl (fun _ => False) _) _ _ ?_) | (refine Evo2.va ok 12 _ _ ?_)
  refine Evo2.all [10] (by decide +kernel) rfl ?_
  intro wp1 gp1 iq hq
  simp only [List.mem_cons, List.mem_nil_iff, or_false] at hq
  have AP1 := Chg.trans (Chg.refl (fun _ => False) _) (Chg.grow gp1)
  (try replace RO := Lib.hid (own_later RO.out gp1))
  subst hq
  refine Evo2.enters 47 _ (by rfl) (by rfl) (by go_simp; exact ⟨rfl, rfl⟩) ?_
  refine (RG.out wp1 (Grow.G.trans HM.out.below (Chg.toGrow AP1 (fun _ _ => id)))).mono ?_
  rintro e wc1 ⟨u, rfl, ho, hg⟩; obtain ⟨ua, uc, rfl⟩ := own_shape ho; have CH1 := Chg.grow (G := fun _ => False) hg; have hbs := Nat.le_trans HM.out.below.size AP1.size; have RO := Lib.hid (own_base ho hbs); have HX := Lib.hid (fun k (q : (Value.slice ua (rollL so sh 0 wh).length uc).ownBlock = some k) => (show W2.heap.size ≤ k from Nat.le_trans AP1.size (ho.lt k q).1))
  refine ⟨_, rfl, .inr CH1, ?_⟩
  have AC1 := Chg.trans AP1 CH1
  simp only [Act.put, L0, L1, L2]
  refine Evo2.va ok 13 _ _ ?_
  refine Evo2.va ok 14 _ _ ?_
  refine Evo2.all [15] (by decide +kernel) rfl ?_
  intro wp2 gp2 iq hq
  simp only [List.mem_cons, List.mem_nil_iff, or_false] at hq
  have AP2 := Chg.trans AC1 (Chg.grow gp2)
  (try replace RO := Lib.hid (own_later RO.out gp2))
  subst hq
  refine upStoreAt (by rfl) (by rfl) rfl rfl rfl ((HM.out.blk (i := 0) rfl).chg AP2 id)  (v := .agg #[Value.slice ua (rollL so sh 0 wh).length uc, .slice yb yn yd]) ⟨by kernel_rfl, by rw [show Try.prog.cellsOf ltT13 = 2 by kernel_rfl]; rfl⟩ (by show 4 + 2 ≤ 6; decide) (by intro u hu; simp [Value.cells] at hu; rcases hu with rfl | rfl <;> rfl) ?_
  intro wc2 BZ CW2
  refine ⟨.inl (by first | rfl | trivial), ?_⟩
  simp only [Act.put, L0, L1, L2]
  refine Evo2.done (by decide +kernel) (fun wz gz => ?_)
  have AZ := AP2
  have BZ : Blk wc2 w.heap.size [.slice sa so.length sc, .slice xa sh.length xc, .int .i64 (now), .int .i64 (wh), Value.slice ua (rollL so sh 0 wh).length uc, .slice yb yn yd].toArray lwT13 := BZ
  have hlx : w.heap.size < W2.heap.size := HM.out.lt (i := 0) rfl
  have R1 : Hid (wz.ownsRow w.heap.size shareT13 2 (Value.slice ua (rollL so sh 0 wh).length uc) (rollL so sh 0 wh).length ((rollL so sh 0 wh).flatMap Shr.cells)) := Lib.hid (own_later (CW2.own RO.out (fun k hk q => by have := HX.out k hk; have q : k = w.heap.size := q; omega)) gz)
  have HM := Lib.hid (((HM.out.grow (AZ.toGrow (fun _ _ => id))).set (i := 0) rfl BZ CW2).grow gz)
  simp only [List.set_cons_zero, List.set_cons_succ] at HM
  have HX := Lib.hid (fun k (q : (Value.slice ua (rollL so sh 0 wh).length uc).ownBlock = some k) => (show w.heap.size + 2 < k from Nat.lt_of_lt_of_le HZL.out (HX.out k q)))
  clear AZ BZ CW2 gz RO RG KC
  go_wp2_with (first | (refine Mem.loadAll 0 (t := 71) rfl rfl rfl Try.underlying71 (n := 6) (by kernel_rfl) HM.out rfl rfl ?_) | (refine Mem.storeAll 2 (t := 71) rfl rfl rfl rfl (n := 6) (by kernel_rfl) HM.out rfl rfl rfl rfl ?_; intro W9 HMm CW9))
  simp only [K0, K1, L1, L2, K2, K3, K4, K5, K6, K7, Nat.reduceAdd, Nat.reduceSub] at HMm
  replace HM := Lib.hid HMm
  clear HMm
  refine Stay.go ?_
  have BF := HM.out.blk (i := 2) rfl
  go_wp2_with fail
  refine bodyPost_ret (v := .agg #[.slice sa so.length sc, .slice xa sh.length xc, .int .i64 (now), .int .i64 (wh), Value.slice ua (rollL so sh 0 wh).length uc, .slice yb yn yd]) (by simp [results, Try.results31, go_sem, BF.cell]) rfl ?_
  exact ⟨_, rfl, CW9.own R1.out (fun k hk q => by have := HX.out k hk; have q : k = w.heap.size + 2 := q; omega), HM.out.below⟩
set_option maxHeartbeats 8000000 in
theorem turn_go_sh (fa : Option Addr) (fn fc : Nat) (ta : Option Addr) (to : List Shr) (tc : Nat) (si : Int) (sa : Option Addr) (so : List Shr) (sc : Nat) (ga : Option Addr) (gn gc : Nat) (xa : Option Addr) (sh : List Shr) (xc : Nat) (yb : Option Addr) (yn yd : Nat) (now wh : Int) (w : World) (hso : ShSl w sa so) (sd1 : Sd so) (ht : ShSl w ta to) (hd : ¬ to = sh) (hn : 0 ≤ now ∧ now ≤ 1000000) (hw : 0 ≤ wh ∧ wh ≤ 1000000) (hx : ShSl w xa sh) (hsd : Sd sh) :
    Calls Try.prog 31 #[.agg #[.slice fa fn fc, .slice ta to.length tc, .int .i64 si, .int .i64 wh, .slice sa so.length sc, .slice ga gn gc], .agg #[.slice xa sh.length xc, .slice yb yn yd], .int .i64 now, .int .i64 wh] w fun e w' => ∃ u, e = .returned (.agg #[.slice sa so.length sc, .slice xa sh.length xc, .int .i64 now, .int .i64 wh, u, .slice yb yn yd]) ∧ w'.ownsRow w.heap.size shareT13 2 u (rollL so sh 0 wh).length ((rollL so sh 0 wh).flatMap Shr.cells) ∧ Grow.G w w' := by
  obtain ⟨W0, hW0⟩ : ∃ W0, W0 = ((w.alloc (.cells #[.slice fa fn fc, .slice ta to.length tc, .int .i64 si, .int .i64 wh, .slice sa so.length sc, .slice ga gn gc] lwT13)).alloc (.cells #[.slice xa sh.length xc, .slice yb yn yd] ltT13)).alloc (.cells #[.slice none 0 0, .slice none 0 0, .int .i64 0, .int .i64 0, .slice none 0 0, .slice none 0 0] lwT13) := ⟨_, rfl⟩
  have HM0 : Mem w W0 [(w.heap.size, [.slice fa fn fc, .slice ta to.length tc, .int .i64 si, .int .i64 wh, .slice sa so.length sc, .slice ga gn gc], lwT13), (w.heap.size + 1, [.slice xa sh.length xc, .slice yb yn yd], ltT13), (w.heap.size + 2, [.slice none 0 0, .slice none 0 0, .int .i64 0, .int .i64 0, .slice none 0 0, .slice none 0 0], lwT13)] := by rw [hW0]; exact Mem.alloc' (Mem.alloc' (Mem.alloc' (Mem.nil w) _ _ rfl) _ _ (g := w.heap.size + 1) (by simp)) _ _ (g := w.heap.size + 2) (by simp)
  have RG := Lib.hid (fun w' (q : Grow.G w w') => roll_any sa so sc xa sh xc 0 wh w' sd1.small hsd.small sd1.pos sd1.revs hsd.revs (by omega) (by omega) (SlOf.later hso q) (SlOf.later hx q))
  have HRL : Hid ((rollL so sh 0 wh).length ≤ 1000) := Lib.hid (by have := sd_len (roll_sd' (t := 0) (n := wh) sd1 hsd); omega)
  have h1 : (wh != wh) = false := by simp
  have h00 : IntKind.i64.wrap (now - now) = 0 := by rw [Int.sub_self]; rfl
  have EQ := Lib.hid (fun w' (q : Grow.G w w') => equalS_any xa ta sh to xc tc w' (by have := hsd.len; omega) (SlOf.later hx q) (SlOf.later ht q))
  rw [show sameShr sh to = false from by rw [Bool.eq_false_iff]; exact fun e => hd ((sameL_iff shrB_iff).1 e).symm] at EQ
  clear hso hx hsd sd1 hd ht
  go_enter Try.func31, Try.ntmps31
  go_wp2_with fail
  rw [← hW0]
  refine (EQ.out _ HM0.below).mono ?_
  rintro e w1 ⟨rfl, hg⟩
  have HM := Lib.hid (HM0.grow hg)
  clear HM0 hg EQ hW0
  have e4 := HM.out.cell (i := 0) (o := 4) rfl rfl
  have e0 := HM.out.cell (i := 1) (o := 0) rfl rfl
  go_wp2_with ((with_reducible refine Mem.isList ?_; refine Mem.storeAll 0 (t := 71) rfl rfl rfl rfl (n := 6) (by kernel_rfl) HM.out rfl rfl rfl rfl ?_; intro W2 HMm CW2))
  simp only [K0, K1, L1, L2, K2, K3, K4, K5, K6, K7, Nat.reduceAdd, Nat.reduceSub] at HMm
  replace HM := Lib.hid HMm
  clear HMm
  refine Stay.go ?_
  have HZL : Hid (w.heap.size + 2 < W2.heap.size) := Lib.hid (HM.out.lt (i := 2) rfl)
  clear CW2 e4 e0
  have KC := Lib.hid (fun (w' : World) (h : Chg (fun _ => False) W2 w') => (have q := (HM.out.blk (i := 0) rfl).chg h id; ⟨Blk.at q (k := 0) rfl, Blk.at q (k := 1) rfl, Blk.at q (k := 2) rfl, Blk.at q (k := 3) rfl, h.cell (HM.out.cell (i := 1) (o := 1) rfl rfl) id, trivial⟩ : w'.cell? ⟨w.heap.size, 0, none⟩ = some (.slice sa so.length sc) ∧ w'.cell? ⟨w.heap.size, 1, none⟩ = some (.slice xa sh.length xc) ∧ w'.cell? ⟨w.heap.size, 2, none⟩ = some (.int .i64 (now)) ∧ w'.cell? ⟨w.heap.size, 3, none⟩ = some (.int .i64 (wh)) ∧ w'.cell? ⟨w.heap.size + 1, 1, none⟩ = some (.slice yb yn yd) ∧ True))
  go_wp2_with fail
  refine Evo2.start' (ℓ := some 15) (S := Chg (fun _ => False)) (E := Grow.G) (by kernel_rfl) ⟨Chg.pre _, by decide +kernel, (by intro c a d v w h; cases d <;> exact h), by decide +kernel⟩ (fun ok => ?_)
  refine Evo2.va ok 0 _ _ ?_
  first | (refine Evo2.vl ok 1 KC.out (Chg.refl (fun _ => False) _) _ _ ?_) | (refine Evo2.va ok 1 _ _ ?_)
  refine Evo2.va ok 2 _ _ ?_
  first | (refine Evo2.vl ok 3 KC.out (Chg.refl (fun _ => False) _) _ _ ?_) | (refine Evo2.va ok 3 _ _ ?_)
  refine Evo2.va ok 4 _ _ ?_
  refine Evo2.va ok 5 _ _ ?_
  first | (refine Evo2.vl ok 6 KC.out (Chg.refl (fun _ => False) _) _ _ ?_) | (refine Evo2.va ok 6 _ _ ?_)
  refine Evo2.va ok 7 _ _ ?_
  refine Evo2.va ok 8 _ _ ?_
  first | (refine Evo2.vl ok 9 KC.out (Chg.refl (fun _ => False) _) _ _ ?_) | (refine Evo2.va ok 9 _ _ ?_)
  refine Evo2.va ok 11 _ _ ?_
  first | (refine Evo2.vl ok 12 KC.out (Chg.refl (fun _ => False) _) _ _ ?_) | (refine Evo2.va ok 12 _ _ ?_)
  refine Evo2.all [10] (by decide +kernel) rfl ?_
  intro wp1 gp1 iq hq
  simp only [List.mem_cons, List.mem_nil_iff, or_false] at hq
  have AP1 := Chg.trans (Chg.refl (fun _ => False) _) (Chg.grow gp1)
  (try replace RO := Lib.hid (own_later RO.out gp1))
  subst hq
  refine Evo2.enters 47 _ (by rfl) (by rfl) (by go_simp; exact ⟨rfl, rfl⟩) ?_
  refine (RG.out wp1 (Grow.G.trans HM.out.below (Chg.toGrow AP1 (fun _ _ => id)))).mono ?_
  rintro e wc1 ⟨u, rfl, ho, hg⟩; obtain ⟨ua, uc, rfl⟩ := own_shape ho; have CH1 := Chg.grow (G := fun _ => False) hg; have hbs := Nat.le_trans HM.out.below.size AP1.size; have RO := Lib.hid (own_base ho hbs); have HX := Lib.hid (fun k (q : (Value.slice ua (rollL so sh 0 wh).length uc).ownBlock = some k) => (show W2.heap.size ≤ k from Nat.le_trans AP1.size (ho.lt k q).1))
  refine ⟨_, rfl, .inr CH1, ?_⟩
  have AC1 := Chg.trans AP1 CH1
  simp only [Act.put, L0, L1, L2]
  refine Evo2.va ok 13 _ _ ?_
  refine Evo2.va ok 14 _ _ ?_
  refine Evo2.all [15] (by decide +kernel) rfl ?_
  intro wp2 gp2 iq hq
  simp only [List.mem_cons, List.mem_nil_iff, or_false] at hq
  have AP2 := Chg.trans AC1 (Chg.grow gp2)
  (try replace RO := Lib.hid (own_later RO.out gp2))
  subst hq
  refine upStoreAt (by rfl) (by rfl) rfl rfl rfl ((HM.out.blk (i := 0) rfl).chg AP2 id)  (v := .agg #[Value.slice ua (rollL so sh 0 wh).length uc, .slice yb yn yd]) ⟨by kernel_rfl, by rw [show Try.prog.cellsOf ltT13 = 2 by kernel_rfl]; rfl⟩ (by show 4 + 2 ≤ 6; decide) (by intro u hu; simp [Value.cells] at hu; rcases hu with rfl | rfl <;> rfl) ?_
  intro wc2 BZ CW2
  refine ⟨.inl (by first | rfl | trivial), ?_⟩
  simp only [Act.put, L0, L1, L2]
  refine Evo2.done (by decide +kernel) (fun wz gz => ?_)
  have AZ := AP2
  have BZ : Blk wc2 w.heap.size [.slice sa so.length sc, .slice xa sh.length xc, .int .i64 (now), .int .i64 (wh), Value.slice ua (rollL so sh 0 wh).length uc, .slice yb yn yd].toArray lwT13 := BZ
  have hlx : w.heap.size < W2.heap.size := HM.out.lt (i := 0) rfl
  have R1 : Hid (wz.ownsRow w.heap.size shareT13 2 (Value.slice ua (rollL so sh 0 wh).length uc) (rollL so sh 0 wh).length ((rollL so sh 0 wh).flatMap Shr.cells)) := Lib.hid (own_later (CW2.own RO.out (fun k hk q => by have := HX.out k hk; have q : k = w.heap.size := q; omega)) gz)
  have HM := Lib.hid (((HM.out.grow (AZ.toGrow (fun _ _ => id))).set (i := 0) rfl BZ CW2).grow gz)
  simp only [List.set_cons_zero, List.set_cons_succ] at HM
  have HX := Lib.hid (fun k (q : (Value.slice ua (rollL so sh 0 wh).length uc).ownBlock = some k) => (show w.heap.size + 2 < k from Nat.lt_of_lt_of_le HZL.out (HX.out k q)))
  clear AZ BZ CW2 gz RO RG KC
  go_wp2_with (first | (refine Mem.loadAll 0 (t := 71) rfl rfl rfl Try.underlying71 (n := 6) (by kernel_rfl) HM.out rfl rfl ?_) | (refine Mem.storeAll 2 (t := 71) rfl rfl rfl rfl (n := 6) (by kernel_rfl) HM.out rfl rfl rfl rfl ?_; intro W9 HMm CW9))
  simp only [K0, K1, L1, L2, K2, K3, K4, K5, K6, K7, Nat.reduceAdd, Nat.reduceSub] at HMm
  replace HM := Lib.hid HMm
  clear HMm
  refine Stay.go ?_
  have BF := HM.out.blk (i := 2) rfl
  go_wp2_with fail
  refine bodyPost_ret (v := .agg #[.slice sa so.length sc, .slice xa sh.length xc, .int .i64 (now), .int .i64 (wh), Value.slice ua (rollL so sh 0 wh).length uc, .slice yb yn yd]) (by simp [results, Try.results31, go_sem, BF.cell]) rfl ?_
  exact ⟨_, rfl, CW9.own R1.out (fun k hk q => by have := HX.out k hk; have q : k = w.heap.size + 2 := q; omega), HM.out.below⟩
end Go.Proofs.Ytjhfjjkfnmnkgaa

/- My own texts Sm12, TwB, laid in one file. -/
import Derived.Test.YtjcdmnogmpjkkaaDoorZ96
import Derived.Test.YtjcdmnogmpjkkaaDoorZ94
import Derived.Test.YtjcdmnogmpjkkaaDoorZ93
import Derived.Test.YtjcdmnogmpjkkaaDoorZ2
import Derived.Test.YtjcdmnogmpjkkaaDoorZ3

/- damperlaw12.Same: the program's book against the second form's. -/
namespace Go.Proofs.YtjcdmnogmpjkkaaDoor
set_option maxRecDepth 100000
set_option linter.unusedVariables false
set_option linter.unusedSimpArgs false
set_option linter.unnecessarySimpa false
open Go.RowKit Go.Args Go.MapV

theorem own_srcS {w : World} {base c : Nat} {a : Option Addr} {N : List ByteArray} (h : w.ownsRow base 9 1 (.slice a N.length c) N.length (N.map Value.string)) : Fr.Src w a (N.map Value.string) := by
  rcases h.2 with ⟨h1, h2⟩ | ⟨g, cap, cur, hv, hb, hg, hn, hm, hs, ht⟩
  · injection h1 with e1 e2 e3
    exact .inl ⟨e1, by rw [List.eq_nil_of_length_eq_zero h2]; rfl⟩
  · injection hv with e1 e2 e3
    subst e1 e3
    refine .inr ⟨_, rfl, fun j u hj => ?_⟩
    have e : (⟨g, 0, none⟩ : Addr).add j = ⟨g, 0 + j, none⟩ := by unfold Addr.add; split <;> simp_all
    rw [e, Nat.zero_add]
    exact own_cell h hj
def tailN : List ByteArray := [⟨#[110, 111, 110, 101, 45, 49]⟩, ⟨#[]⟩]
def askN (l : List Rv) : List ByteArray := allK l ++ tailN
theorem askN_bd {l : List Rv} (ok : BkOk l) {s : ByteArray} (h : s ∈ askN l) : s.size ≤ 30 := by
  unfold askN tailN at h
  rcases List.mem_append.1 h with h | h
  · obtain ⟨r, hr, rfl⟩ := allK_mem.1 h
    rw [(ok.rev r hr).1]
    exact revS_size _ _
  · simp only [List.mem_cons, List.mem_nil_iff, or_false] at h
    rcases h with rfl | rfl <;> decide
def fiveN : List ByteArray := [⟨#[119, 101, 98]⟩, ⟨#[97, 112, 105]⟩, ⟨#[97, 45, 98]⟩, ⟨#[110, 111, 110, 101]⟩, ⟨#[]⟩]
theorem five_at {j : Nat} (h : j < 5) : ∃ s, (fiveN.map Value.string)[j]? = some (.string s) ∧ s.size ≤ 30 := by
  match j, h with
  | 0, _ => exact ⟨_, rfl, by decide⟩
  | 1, _ => exact ⟨_, rfl, by decide⟩
  | 2, _ => exact ⟨_, rfl, by decide⟩
  | 3, _ => exact ⟨_, rfl, by decide⟩
  | 4, _ => exact ⟨_, rfl, by decide⟩
set_option maxHeartbeats 64000000 in
theorem same12_any {w0 w : World} {L : List MBox} {B : Hp} {g x : Nat} {l : List Rv} (h : Hold w0 w L (Sep (BkB g l) (Sep (RbP x l) B))) (hB : Foot B) (ht : Tab w) (hl : l.length ≤ 900) :
    Calls Tryd.prog 20 #[pz g, pz x] w fun e w' => e = .returned (.bool true) ∧ Grow.G w w' := by
  have f1 : Foot (Sep (RbP x l) B) := (RbP.foot x l).sep hB
  have f2 : Foot (Sep (BkB g l) (Sep (RbP x l) B)) := (BkB.foot g l).sep f1
  have f3 : Foot (Sep (BkB g l) B) := (BkB.foot g l).sep hB
  have ok := hold_bkok h
  have hl1 : l.length ≤ 1000 := by omega
  have HGB := Lib.hid (fun (w' : World) (q : Grow.G w w') (s : ByteArray) (r : Rv) (bo : Bool) (hs : s.size ≤ 30) (e1 : getK l s = r) (e2 : hasK l s = bo) => (hold_bkget (h.grow f2 q) f1 (ht.below q) s (by omega) hl1 e1 e2).mono fun e w'' z => (⟨z.1, z.2.1⟩ : _ ∧ Grow.G w' w''))
  have HGR := Lib.hid (fun (w' : World) (q : Grow.G w w') (s : ByteArray) (r : Rv) (bo : Bool) (e1 : getK l s = r) (e2 : hasK l s = bo) => (hold_rbget (h.grow f2 q).rot f3 s hl1 e1 e2).mono fun e w'' z => (⟨z.1, z.2.1⟩ : _ ∧ Grow.G w' w''))
  have HPB := Lib.hid (fun (w' : World) (q : Grow.G w w') (s : ByteArray) (bo : Bool) (hs : s.size ≤ 30) (e1 : prvK l s = bo) => (hold_bkproved (h.grow f2 q) f1 s (by omega) hl1 e1).mono fun e w'' z => (⟨z.1, z.2.1⟩ : _ ∧ Grow.G w' w''))
  have HPR := Lib.hid (fun (w' : World) (q : Grow.G w w') (s : ByteArray) (bo : Bool) (e1 : prvK l s = bo) => (hold_rbproved (h.grow f2 q).rot f3 s hl1 e1).mono fun e w'' z => (⟨z.1, z.2.1⟩ : _ ∧ Grow.G w' w''))
  have HLB := Lib.hid (fun (w' : World) (q : Grow.G w w') (s m r : ByteArray) (hs : s.size ≤ 30) (e1 : latM l s = m) (e2 : latR l s = r) => (hold_bklatest (h.grow f2 q) f1 (ht.below q) s (by omega) hl1 e1 e2).mono fun e w'' z => (⟨z.1, z.2.1⟩ : _ ∧ Grow.G w' w''))
  have HLR := Lib.hid (fun (w' : World) (q : Grow.G w w') (s m r : ByteArray) (e1 : latM l s = m) (e2 : latR l s = r) => (hold_rblatest (h.grow f2 q).rot f3 s hl1 e1 e2).mono fun e w'' z => (⟨z.1, z.2.1⟩ : _ ∧ Grow.G w' w''))
  have HAB := Lib.hid (fun (w' : World) (q : Grow.G w w') => (hold_bkall (h.grow f2 q) f1 (ht.below q) hl1 rfl).mono fun e w'' z => (z.elim fun v z => ⟨v, z.1, z.2.1, z.2.2.1⟩ : ∃ v, e = .returned v ∧ w''.ownsRow w'.heap.size 9 1 v (allK l).length ((allK l).map Value.string) ∧ Grow.G w' w''))
  have HAR := Lib.hid ((hold_rball h.rot f3 hl1 rfl).mono fun e w'' z => (z.elim fun v z => ⟨v, z.1, z.2.1, z.2.2.1⟩ : ∃ v, e = .returned v ∧ w''.ownsRow w.heap.size 9 1 v (allK l).length ((allK l).map Value.string) ∧ Grow.G w w''))
  have HOK := Lib.hid ok
  have hal := allK_len l
  clear h hB ht f1 f2 f3 ok
  obtain ⟨i0, hi, hz0, hz1, hz2⟩ := info_parts infoS
  go_enter Tryd.func20, Tryd.ntmps20
  go_wp2_with fail
  refine HAR.out.mono ?_
  rintro e w1 ⟨v1, rfl, ho, g1⟩
  obtain ⟨xa, xc, rfl⟩ := own_shape ho
  have O1 := Lib.hid ho
  have G1 := Lib.hid g1
  clear ho g1 HAR
  go_wp2_with fail
  refine (HAB.out _ G1.out).mono ?_
  rintro e w2 ⟨v2, rfl, ho, g2⟩
  obtain ⟨ya, yc, rfl⟩ := own_shape ho
  have SM := Lib.hid (same12s_any w2 ya yc xa xc (allK l) (own_strAt ho) (own_strAt (own_later O1.out g2)) (by omega))
  have O2 := Lib.hid (own_later O1.out g2)
  have G2 := Lib.hid (Grow.G.trans G1.out g2)
  clear ho g2 HAB O1 G1
  go_wp2_with fail
  refine SM.out.mono ?_
  rintro e w3 ⟨rfl, g3⟩
  have O3 := Lib.hid (own_later O2.out g3)
  have G3 := Lib.hid (Grow.G.trans G2.out g3)
  clear g3 SM O2 G2
  have hs3 := G3.out.size
  have LT : (tailN.map Value.string).length = 2 * 1 := rfl
  go_wp2_with (first | (at_builtin; refine Fr.wpList_append_src _ rfl _ _ strsT rfl w.heap.size 9 i0 (.string ⟨#[]⟩) 1 16 Tryd.underlying55 hi hz0 hz1 hz2 rfl (by decide) _ 0 [] rfl (own_fresh w3 [] 9 (n := 0) rfl rfl hs3 (by decide)) _ (allK l).length _ ((allK l).map Value.string) rfl (by simp) (Fr.Src.grow (own_srcS O3.out) (Grow.G.alloc (Grow.G.refl _) _)) (by intro u hu; obtain ⟨z, _, rfl⟩ := List.mem_map.1 hu; rfl) (by unfold maxLen; omega) (by omega) (by simp; omega) ?_; intro v4 w4 ho4 hf4; rw [Nat.zero_add, List.nil_append] at ho4; obtain ⟨za, zc, rfl⟩ := own_shape ho4; have HO4 := Lib.hid ho4; have HF4 := Lib.hid hf4; have hs4 := hf4.g.size; clear ho4 hf4) | (at_builtin; refine Fr.wpList_append_src _ rfl _ _ strsT rfl w.heap.size 9 i0 (.string ⟨#[]⟩) 1 16 Tryd.underlying55 hi hz0 hz1 hz2 rfl (by decide) _ _ _ rfl (own_later HO4.out (Grow.G.alloc (Grow.G.refl _) _)) _ 2 _ (tailN.map Value.string) rfl rfl (.inr ⟨_, rfl, news_new _ _ _ _ rfl⟩) (by intro u hu; obtain ⟨z, _, rfl⟩ := List.mem_map.1 hu; rfl) (by unfold maxLen; omega) (by omega) (by simp at hs4 ⊢; omega) ?_; intro v5 w5 ho5 hf5; obtain ⟨za5, zc5, rfl⟩ := own_shape ho5; have HO5 := Lib.hid ho5; have HF5 := Lib.hid hf5; clear ho5 hf5))
  have LL : (askN l).length = (allK l).length + 2 := by unfold askN; rw [List.length_append]; rfl
  have GW : Hid (Grow.G w w5) := Lib.hid (by
    have A1 : Below w.heap.size w (w3.alloc (.cells #[] 9)) := Grow.G.trans G3.out (Grow.G.alloc (Grow.G.refl _) _)
    have A2 := (Chg.ofFr HF4.out).below (B := w.heap.size) A1.size (fun k hk q => by
      have q : w3.heap.size = k := Option.some.inj q
      omega)
    have A3 : Below w.heap.size w4 (w4.alloc (.cells #[.string ⟨#[110, 111, 110, 101, 45, 49]⟩, .string ⟨#[]⟩] 9)) := Below.mono (Grow.G.alloc (Grow.G.refl w4) _) (by have := A1.size; have := A2.size; omega)
    have A4 := (Chg.ofFr HF5.out).below (B := w.heap.size) (by have := A1.size; have := A2.size; have := A3.size; omega) (fun k hk q => by have := (HO4.out.lt k q).1; omega)
    exact ((A1.trans A2).trans A3).trans A4)
  have OA : w5.ownsRow w.heap.size 9 1 (.slice za5 ((allK l).length + 2) zc5) ((allK l).length + 2) ((askN l).map Value.string) := by
    have := HO5.out
    rw [← List.map_append] at this
    exact this
  obtain ⟨rb, zc6, hq, hrb⟩ := own_some OA (by omega)
  cases hq
  have CC : Hid (∀ wr, Grow.G w5 wr → ∀ k s, (askN l)[k]? = some s → wr.cell? ⟨rb, k, none⟩ = some (.string s)) := Lib.hid (fun wr q k s hk => cell_later q (own_cell OA (by rw [List.getElem?_map, hk]; rfl)))
  clear HF4 HF5 HO4 HO5 O3 G3 OA hs4 hs3 hi hz0 hz1 hz2 LT
  obtain ⟨LN, hLN⟩ : ∃ LN, askN l = LN := ⟨_, rfl⟩
  have SB : Hid (∀ s, s ∈ LN → s.size ≤ 30) := Lib.hid (fun s hs => askN_bd HOK.out (hLN ▸ hs))
  rw [hLN] at CC LL
  obtain ⟨nn, hnn⟩ : ∃ nn, (allK l).length + 2 = nn := ⟨_, rfl⟩
  have hnb : nn ≤ 1000 := by omega
  rw [hnn] at LL
  have LL := Lib.hid LL
  have CER : (Tryd.prog.info? 46).map (·.size) = some 8 := by kernel_rfl
  have e0 : ((allK l).length : Int) + 2 = (nn : Int) := by omega
  simp only [hnn]
  clear hLN hnn hal HOK hrb
  go_loopw [6] (fun i wr => ∃ k : Nat, k ≤ nn ∧ i = .int .i64 (k : Int) ∧ Hid (Grow.G w5 wr)) (fun i _ => nn - (_root_.Go.RowKit.intOf i).toNat)
  case atStart => exact ⟨0, by omega, rfl, Lib.hid (Grow.G.refl _)⟩
  case round =>
    obtain ⟨k, hk, rfl, GR⟩ := hrel
    have hk1 : IntKind.i64.wrap ((k : Int) + 1) = (k : Int) + 1 := IntWalk.i64_in _ ⟨by omega, by omega⟩
    by_cases hlt : k < nn
    · obtain ⟨s, hs⟩ : ∃ s, LN[k]? = some s := ⟨_, List.getElem?_eq_getElem (by rw [LL.out]; exact hlt)⟩
      have d0 : decide ((k : Int) < (nn : Int)) = true := decide_eq_true (by omega)
      have k1 : (0 : Int) ≤ (k : Int) := by omega
      have k2 : (k : Int) < (nn : Int) := by omega
      have hsz := SB.out s (List.mem_of_getElem? hs)
      obtain ⟨r, hr⟩ : ∃ r, getK l s = r := ⟨_, rfl⟩
      obtain ⟨bo, hbo⟩ : ∃ bo, hasK l s = bo := ⟨_, rfl⟩
      obtain ⟨pv, hpv⟩ : ∃ pv, prvK l s = pv := ⟨_, rfl⟩
      have CS := Lib.hid (fun wr q => CC.out wr q k s hs)
      have Q1 := Lib.hid (fun (w' : World) (q : Grow.G w5 w') => HGB.out w' (Grow.G.trans GW.out q) s r bo hsz hr hbo)
      have Q2 := Lib.hid (fun (w' : World) (q : Grow.G w5 w') => HGR.out w' (Grow.G.trans GW.out q) s r bo hr hbo)
      have Q3 := Lib.hid (fun (w' : World) (q : Grow.G w5 w') => HPB.out w' (Grow.G.trans GW.out q) s pv hsz hpv)
      have Q4 := Lib.hid (fun (w' : World) (q : Grow.G w5 w') => HPR.out w' (Grow.G.trans GW.out q) s pv hpv)
      obtain ⟨nm, gn, ⟨b0, b1, b2, b3, b4, b5⟩, pr⟩ := r
      unfold Rv.cells at Q1 Q2
      dsimp only at Q1 Q2
      have NQ := neq_self_rv nm b0 gn b1 b2 b3 b4 b5
      have c0 := CS.out wr GR.out
      clear hs hsz hr hbo hpv
      go_wp2_with fail
      refine (Q1.out wr GR.out).mono ?_
      rintro e w8 ⟨rfl, g8⟩
      have HM := Lib.hid ((Mem.nil w5).grow (Grow.G.trans GR.out g8))
      clear g8 c0
      go_wp2_with ((refine Mem.storeAll 0 (t := 46) rfl rfl rfl rfl (n := 8) (by kernel_rfl) (Mem.alloc' HM.out _ _ rfl) rfl rfl rfl rfl ?_; intro W9 HMm CW9))
      simp only [K0, K1, L1, L2, K2, K3, K4, K5, K6, K7, Nat.reduceAdd, Nat.reduceSub] at HMm
      replace HM := Lib.hid HMm
      clear HMm
      refine Stay.go ?_
      have c0 := CS.out W9 HM.out.below
      go_wp2_with fail
      refine (Q2.out W9 HM.out.below).mono ?_
      rintro e w10 ⟨rfl, g10⟩
      have HM := Lib.hid (HM.out.grow g10)
      clear g10 c0
      go_wp2_with ((refine Mem.storeAll 1 (t := 46) rfl rfl rfl rfl (n := 8) (by kernel_rfl) (Mem.alloc' HM.out _ _ rfl) rfl rfl rfl rfl ?_; intro W11 HMm CW11))
      simp only [K0, K1, L1, L2, K2, K3, K4, K5, K6, K7, Nat.reduceAdd, Nat.reduceSub] at HMm
      replace HM := Lib.hid HMm
      clear HMm
      refine Stay.go ?_
      have KC := Lib.hid (fun (w' : World) (h : Chg (fun _ => False) W11 w') => (⟨h.cell (CS.out W11 HM.out.below) id, trivial⟩ : w'.cell? ⟨rb, k, none⟩ = some (.string s) ∧ True))
      go_wp2_with fail
      refine Evo2.start' (ℓ := none) (S := Chg (fun _ => False)) (E := Grow.G) (by kernel_rfl) ⟨Chg.pre _, by decide +kernel, (by intro c a d v w h; cases d <;> exact h), by decide +kernel⟩ (fun ok => ?_)
      first | (refine Evo2.val ok 0 ?_ ?_ ?_; rotate_left; (focus (intro w' hg; refine Box.exec_loadAll ?_ Tryd.underlying46 CER ((HM.out.blk (i := 0) rfl).chg (Chg.trans (Chg.refl (fun _ => False) _) hg) id) ?_; (all_goals (first | exact ⟨rfl, rfl⟩ | rfl)))); simp only [Act.put, L0, L1, L2]) | (refine Evo2.vl ok 0 KC.out (Chg.refl (fun _ => False) _) _ _ ?_) | (refine Evo2.va ok 0 _ _ ?_)
      first | (refine Evo2.val ok 1 ?_ ?_ ?_; rotate_left; (focus (intro w' hg; refine Box.exec_loadAll ?_ Tryd.underlying46 CER ((HM.out.blk (i := 1) rfl).chg (Chg.trans (Chg.refl (fun _ => False) _) hg) id) ?_; (all_goals (first | exact ⟨rfl, rfl⟩ | rfl)))); simp only [Act.put, L0, L1, L2]) | (refine Evo2.vl ok 1 KC.out (Chg.refl (fun _ => False) _) _ _ ?_) | (refine Evo2.va ok 1 _ _ ?_)
      refine Evo2.va ok 2 _ _ ?_
      refine Evo2.va ok 3 _ _ ?_
      first | (refine Evo2.va ok 4 _ _ ?_) | (refine Evo2.vi ok 4 _ ?_)
      first | (refine Evo2.va ok 5 _ _ ?_) | (refine Evo2.vi ok 5 _ ?_)
      first | (refine Evo2.va ok 6 _ _ ?_) | (refine Evo2.vi ok 6 _ ?_)
      refine Evo2.va ok 7 _ _ ?_
      refine Evo2.va ok 8 _ _ ?_
      first | (refine Evo2.va ok 9 _ _ ?_) | (refine Evo2.vi ok 9 _ ?_)
      first | (refine Evo2.va ok 10 _ _ ?_) | (refine Evo2.vi ok 10 _ ?_)
      first | (refine Evo2.va ok 11 _ _ ?_) | (refine Evo2.vi ok 11 _ ?_)
      first | (refine Evo2.va ok 12 _ _ ?_) | (refine Evo2.vi ok 12 _ ?_)
      first | (refine Evo2.vl ok 13 KC.out (Chg.refl (fun _ => False) _) _ _ ?_) | (refine Evo2.va ok 13 _ _ ?_) | (refine Evo2.vi ok 13 _ ?_)
      first | (refine Evo2.cal ok 14 ?_ 22 ?_ ?_ ?_ ?_; rotate_left 2; (focus (intro w'; go_simp <;> with_reducible rfl)); (focus (intro w' g'; with_reducible exact Q3.out w' (Grow.G.trans HM.out.below ((Chg.trans (Chg.refl (fun _ => False) _) g').toGrow (fun _ _ => id))))); simp only [Act.put, L0, L1, L2]) | (refine Evo2.vi ok 14 _ ?_)
      first | (refine Evo2.va ok 15 _ _ ?_) | (refine Evo2.vi ok 15 _ ?_)
      first | (refine Evo2.va ok 16 _ _ ?_) | (refine Evo2.vi ok 16 _ ?_)
      first | (refine Evo2.va ok 17 _ _ ?_) | (refine Evo2.vi ok 17 _ ?_)
      first | (refine Evo2.va ok 18 _ _ ?_) | (refine Evo2.vi ok 18 _ ?_)
      first | (refine Evo2.vl ok 19 KC.out (Chg.refl (fun _ => False) _) _ _ ?_) | (refine Evo2.va ok 19 _ _ ?_) | (refine Evo2.vi ok 19 _ ?_)
      first | (refine Evo2.cal ok 20 ?_ 40 ?_ ?_ ?_ ?_; rotate_left 2; (focus (intro w'; go_simp <;> with_reducible rfl)); (focus (intro w' g'; with_reducible exact Q4.out w' (Grow.G.trans HM.out.below ((Chg.trans (Chg.refl (fun _ => False) _) g').toGrow (fun _ _ => id))))); simp only [Act.put, L0, L1, L2]) | (refine Evo2.vi ok 20 _ ?_)
      first | (refine Evo2.va ok 21 _ _ ?_) | (refine Evo2.vi ok 21 _ ?_)
      refine Evo2.va ok 22 _ _ ?_
      refine Evo2.done (by decide +kernel) (fun wz gz => ?_)
      have AZ := Chg.trans (Chg.refl (fun _ => False) _) (Chg.grow gz)
      have GN := Lib.hid (Grow.G.trans HM.out.below (AZ.toGrow (fun _ _ => id)))
      clear AZ gz KC HM Q1 Q2 Q3 Q4 CS NQ
      go_wp2_with fail
      go_roundw
      case rel => exact ⟨k + 1, by omega, by go_num, GN⟩
      case measure => simp [_root_.Go.RowKit.intOf]; omega
    · obtain rfl : k = nn := by omega
      have d0 : decide ((k : Int) < (k : Int)) = false := decide_eq_false (by omega)
      clear hlt
      go_wp2_with fail
      have BN := Blk.new wr (fiveN.map Value.string).toArray 9
      have GN := Grow.G.trans (Grow.G.trans GW.out GR.out) (Grow.G.alloc (Grow.G.refl wr) (.cells (fiveN.map Value.string).toArray 9))
      unfold fiveN at BN GN
      simp only [List.map_cons, List.map_nil] at BN GN
      obtain ⟨W5, hW5⟩ : ∃ W5, W5 = wr.alloc (.cells #[.string ⟨#[119, 101, 98]⟩, .string ⟨#[97, 112, 105]⟩, .string ⟨#[97, 45, 98]⟩, .string ⟨#[110, 111, 110, 101]⟩, .string ⟨#[]⟩] 9) := ⟨_, rfl⟩
      rw [← hW5] at BN GN ⊢
      have BN := Lib.hid BN
      have GN := Lib.hid GN
      clear hW5 GR GW CC HGB HGR HPB HPR SB LL
      generalize wr.heap.size = fb at *
      go_loopw [12] (fun i wz => ∃ j : Nat, j ≤ 5 ∧ i = .int .i64 (j : Int) ∧ Hid (Grow.G W5 wz)) (fun i _ => 5 - (_root_.Go.RowKit.intOf i).toNat)
      case atStart => exact ⟨0, by omega, rfl, Lib.hid (Grow.G.refl _)⟩
      case round =>
        obtain ⟨j, hj, rfl, GZ⟩ := hrel
        have hj1 : IntKind.i64.wrap ((j : Int) + 1) = (j : Int) + 1 := IntWalk.i64_in _ ⟨by omega, by omega⟩
        by_cases hjt : j < 5
        · obtain ⟨s, hs, hsz⟩ := five_at hjt
          have HJ := Lib.hid hs
          have d1 : decide ((j : Int) < 5) = true := decide_eq_true (by omega)
          have j1 : (0 : Int) ≤ (j : Int) := by omega
          have j2 : (j : Int) < 5 := by omega
          have CJ := Lib.hid (fun w' (q : Grow.G W5 w') => (cell_later q ((BN.out.cell j).trans (show _ = some (Value.string s) from by rw [List.getElem?_toArray]; exact HJ.out)) : w'.cell? ⟨fb, j, none⟩ = some (.string s)))
          obtain ⟨m, hm⟩ : ∃ m, latM l s = m := ⟨_, rfl⟩
          obtain ⟨r, hr⟩ : ∃ r, latR l s = r := ⟨_, rfl⟩
          have Q1 := Lib.hid (fun (w' : World) (q : Grow.G W5 w') => HLB.out w' (Grow.G.trans GN.out q) s m r hsz hm hr)
          have Q2 := Lib.hid (fun (w' : World) (q : Grow.G W5 w') => HLR.out w' (Grow.G.trans GN.out q) s m r hm hr)
          have c0 := CJ.out wr GZ.out
          clear hs hm hr hsz
          go_wp2_with fail
          refine (Q1.out wr GZ.out).mono ?_
          rintro e w8 ⟨rfl, g8⟩
          have G8 := Lib.hid (Grow.G.trans GZ.out g8)
          have c0 := CJ.out w8 G8.out
          clear g8
          go_wp2_with fail
          refine (Q2.out w8 G8.out).mono ?_
          rintro e w9 ⟨rfl, g9⟩
          have G9 := Lib.hid (Grow.G.trans G8.out g9)
          clear g9 c0 Q1 Q2 CJ
          go_wp2_with fail
          go_roundw
          case rel => exact ⟨j + 1, by omega, by go_num, G9⟩
          case measure => simp [_root_.Go.RowKit.intOf]; omega
        · obtain rfl : j = 5 := by omega
          have d1 : decide (((5 : Nat) : Int) < 5) = false := by decide
          clear hjt hj
          go_wp2_with fail
          go_ret
          exact ⟨rfl, Grow.G.trans GN.out GZ.out⟩
end Go.Proofs.YtjcdmnogmpjkkaaDoor

/- Both books among what a law holds; calls that tell what they change. -/
namespace Go.Proofs.YtjcdmnogmpjkkaaDoor
set_option maxRecDepth 100000
set_option linter.unusedVariables false
set_option linter.unusedSimpArgs false
set_option linter.unnecessarySimpa false
open Go.RowKit Go.Args

/-- Both books. -/
abbrev TwoB (g x : Nat) (l : List Rv) : Hp := Sep (BkB g l) (Sep (RbP x l) Emp)
theorem TwoB.foot (g x : Nat) (l : List Rv) : Foot (TwoB g x l) := (BkB.foot g l).sep ((RbP.foot x l).sep Emp.foot)
theorem rb_rest (x : Nat) (l : List Rv) : Foot (Sep (RbP x l) Emp) := (RbP.foot x l).sep Emp.foot
theorem bk_rest (g : Nat) (l : List Rv) : Foot (Sep (BkB g l) Emp) := (BkB.foot g l).sep Emp.foot
theorem rb_new {w0 w : World} {L : List MBox} {A B : Hp} (h : Hold w0 w L (Sep A B)) (hA : Foot A) (hB : Foot B) : Hold w0 (w.alloc (.cells #[.slice none 0 0, .slice none 0 0] rbkT)) L (Sep A (Sep (RbP w.heap.size []) B)) :=
  h.beside2 hA hB (Grow.G.alloc (Grow.G.refl _) _) (RbP.new w) (fun k hk => by have hk : k = w.heap.size := hk; omega)
/-- A call on a state whose footprint is named tells the new one. -/
theorem holdF_callN {P : Program} {f : FuncId} {args : Array Value} {w0 w : World} {L : List MBox} {A A' : Hp} {F : Nat → Prop} {R : Ending → World → Prop} (h : HoldF w0 w L A F) (hc : ∀ F, A w F → Calls P f args w fun e w' => R e w' ∧ EndS w w' F A') :
    Calls P f args w fun e w' => R e w' ∧ ∃ F', HoldF w0 w' L A' F' ∧ Chg F w w' ∧ Fresh w F F' := by
  refine (hc F h.st).mono ?_
  rintro e w' ⟨hr, F', h1, h2, h3⟩
  refine ⟨hr, F', ⟨h.mem.chg h2 (fun k hk hf => by have := h.lo k hf; omega) h.ap, h1, h3.base h.mem.size h.lo, fun b hb hf => ?_⟩, h2, h3⟩
  rcases h3 _ hf with q | q
  · exact h.ap b hb q
  · have := (h.mem.blks b hb).1.lt
    omega
theorem hold_bkproveN {w0 w : World} {L : List MBox} {B : Hp} {g : Nat} {l l' : List Rv} {F : Nat → Prop} {er : Int} (h : HoldF w0 w L (Sep (BkB g l) B) F) (hB : Foot B) (s : ByteArray) (hs : s.size ≤ 140737488351232) (hl : l.length ≤ 1000) (h1 : errK l s = er := by rfl) (h2 : setK l s = l' := by rfl) :
    Calls Tryd.prog 17 #[pz g, .string s] w fun e w' => e = .returned (.int .i64 er) ∧ ∃ F', HoldF w0 w' L (Sep (BkB g l') B) F' ∧ Chg F w w' ∧ Fresh w F F' := by
  subst h1 h2
  refine holdF_callN h (Sep.callL (R := fun e _ => e = .returned (.int .i64 (errK l s))) hB fun F ⟨ma, mt, pa, pt, hI, e⟩ => ?_)
  unfold errK
  cases hf : hasK l s with
  | true =>
    rw [if_pos rfl]
    refine (bprove_yes g l ma mt pa pt s w hI (by omega) hs hf).mono ?_
    rintro e' w' ⟨q1, q2⟩
    exact ⟨q1, q2.ends e⟩
  | false =>
    rw [if_neg (by decide), setK_same hI.ok (.inl hf)]
    refine (bprove_no g l ma mt pa pt s w hI hs hf).mono ?_
    rintro e' w' ⟨q1, q2⟩
    exact ⟨q1, (StepB.same hI q2).ends e⟩
theorem hold_rbproveN {w0 w : World} {L : List MBox} {A : Hp} {x : Nat} {l l' : List Rv} {F : Nat → Prop} {er : Int} (h : HoldF w0 w L (Sep (RbP x l) A) F) (hA : Foot A) (s : ByteArray) (hl : l.length ≤ 1000) (h1 : errK l s = er := by rfl) (h2 : setK l s = l' := by rfl) :
    Calls Tryd.prog 19 #[pz x, .string s] w fun e w' => e = .returned (.int .i64 er) ∧ ∃ F', HoldF w0 w' L (Sep (RbP x l') A) F' ∧ Chg F w w' ∧ Fresh w F F' :=
  holdF_callN h (Sep.callL (R := fun e _ => e = .returned (.int .i64 er)) hA fun F hF => ends_of_hold (RbP.foot x l) hF (fun w0 B hB H => hold_rbprove H hB s hl h1 h2))
theorem holdF_rot {w0 w : World} {L : List MBox} {A B C : Hp} {F : Nat → Prop} (h : HoldF w0 w L (Sep A (Sep B C)) F) : HoldF w0 w L (Sep B (Sep A C)) F := ⟨h.mem, h.st.rot, h.lo, h.ap⟩
theorem gcfg_nm {s : ByteArray} {i1 i2 i3 i4 i5 : Int} (h : (⟨s, i1, i2, i3, i4, i5⟩ : Cfg).err = 0) : nameB 16 s = true ∧ (⟨s, i1, i2, i3, i4, i5⟩ : Cfg).wf ∧ s.size ≤ 16 := by
  obtain ⟨h0, h1, h2, h3, h4, h5⟩ := cfgerr_zero h
  dsimp only at *
  exact ⟨h0, by unfold Cfg.wf wf64; dsimp only; omega, nameB_size h0⟩
end Go.Proofs.YtjcdmnogmpjkkaaDoor

/- My own texts FpL, FpN, laid in one file. -/
import Derived.Test.YtfnpghekkhnjkaaZ89
import Derived.Test.YtfnpghekkhnjkaaZ73

/- The program's fleet: add. -/
namespace Go.Proofs.Ytfnpghekkhnjkaa
set_option maxRecDepth 100000
set_option linter.unusedVariables false
set_option linter.unusedSimpArgs false
set_option linter.unnecessarySimpa false
open Go.RowKit Go.MapV Go.Maps Go.Args

theorem newP_snocF (rv : ByteArray) (c n : Int) (k : Nat) : newP rv c n (k + 1) = newP rv c n k ++ [⟨n + 1 + (k : Int), rv, Pd.new c⟩] := by unfold newP; rw [List.range_succ, List.map_append]; rfl
theorem idsP_snocF (n : Int) (k : Nat) : idsP n (k + 1) = idsP n k ++ [n + 1 + (k : Int)] := by unfold idsP; rw [List.range_succ, List.map_append]; rfl
section
variable {w0 w w' : World} {L : List MBox} {A B : Hp} {g : Nat} {f f' : Fl} {r n : Int} {mp ma : Nat} {lm p q : List PM} {m : PM} {ks : List Int} {av : Int → Value}
theorem hold_mp2 (h : Hold w0 w L (Sep (MapP mp (idsM (lm ++ [m])) (ownV (lm ++ [m]))) (Sep (PmF m) (Sep (BlkF g (flC r n mp ma) fleetT) (Sep (Sep (MapP ma ks av) (SepL PmF lm)) B))))) : Hold w0 w L (Sep (FlS g r n mp ma (lm ++ [m]) ks av) B) := by
  refine hold_mp' (h.map fun F h => h.under fun F h => ?_)
  have h1 : Sep (BlkF g (flC r n mp ma) fleetT) (Sep (PmF m) (Sep (Sep (MapP ma ks av) (SepL PmF lm)) B)) w F := h.rot
  refine h1.under fun F h => (Sep.assoc' h).over fun F h => ?_
  have h2 : Sep (MapP ma ks av) (Sep (PmF m) (SepL PmF lm)) w F := h.rot
  refine h2.under fun F h => SepL.inn (q := []) ?_
  rw [List.append_nil]; exact h
set_option maxHeartbeats 4000000 in
theorem hold_fadd (h : Hold w0 w L (Sep (FlS g r n mp ma lm ks av) B)) (hB : Foot B) (rv : ByteArray) (c : Int) (hc : 1 ≤ c ∧ c ≤ 8) (hn : 0 ≤ n ∧ n ≤ 1000000) (hids : ∀ m, m ∈ lm → m.h.id ≤ n) (hnd : (idsM lm).Nodup) (hl : lm.length ≤ 1000) :
    Calls Try.prog 31 #[pz g, .string rv, .int .i64 c] w fun e w' => ∃ p, e = .returned (.int .i64 (n + 1)) ∧ Hold w0 w' L (Sep (FlS g r (n + 1) mp ma (lm ++ [⟨⟨n + 1, rv, Pd.new c⟩, p⟩]) ks av) B) := by
  obtain ⟨F, hF⟩ := hold_FS h
  have c1 := hF.c1
  have hgl := hF.hb.lt
  have FB := Lib.hid hB
  have hk1 : IntKind.i64.wrap (n + 1) = n + 1 := IntWalk.i64_in _ ⟨by omega, by omega⟩
  have HB0 : Hid (Hold w0 w L (Sep (BlkF g (flC r n mp ma) fleetT) (Sep (Sep (MapP mp (idsM lm) (ownV lm)) (Sep (MapP ma ks av) (SepL PmF lm))) B))) := Lib.hid (h.map fun F h => Sep.assoc h)
  have FX := Lib.hid (((MapF.foot Try.prog 3 mp (idsM lm) (ownV lm)).sep ((MapF.foot Try.prog 3 ma ks av).sep (SepL.foot PmF.foot lm))).sep hB)
  have HNO : Hid (n + 1 ∉ idsM lm) := Lib.hid (fun q => by obtain ⟨m, h1, h2⟩ := mem_ids.1 q; have := hids m h1; omega)
  have HND := Lib.hid hnd
  have HLL : Hid ((idsM lm).length < maxLen) := Lib.hid (by unfold idsM maxLen; rw [List.length_map]; omega)
  clear h hF hids hnd hB
  go_enter Try.func31, Try.ntmps31
  go_wp2_with (refine Hold.setB (t := 3) FX.out rfl rfl rfl rfl (vs := [.int .i64 (n + 1)]) rfl (n := 1) (by kernel_rfl) HB0.out rfl (by simp [flC]) rfl ?_; intro W8 H8)
  refine Stay.go ?_
  have H1 : Hold w0 W8 L (Sep (FlS g r (n + 1) mp ma lm ks av) B) := (show Hold w0 W8 L (Sep (BlkF g (flC r (n + 1) mp ma) fleetT) _) from by simpa [flC] using H8).map fun F h => Sep.assoc' h
  obtain ⟨F2, hF2⟩ := hold_FS H1
  have c1 := hF2.c1
  have hgl := hF2.hb.lt
  have KC := Lib.hid (fun (w' : World) (h : Chg (fun _ => False) W8 w') => (⟨h.cell hF2.c1 id, h.cell hF2.c2 id, trivial⟩ : w'.cell? ⟨g, 1, none⟩ = some (.int .i64 (n + 1)) ∧ w'.cell? ⟨g, 2, none⟩ = some (.map (some mp)) ∧ True))
  have BG := Lib.hid hF2.hb
  have MB := Lib.hid hF2.hm
  have HMP := Lib.hid (hold_mp H1)
  have PN := Lib.hid (pnew_any c)
  have FY := Lib.hid ((BlkF.foot g (flC r (n + 1) mp ma) fleetT).sep (((MapF.foot Try.prog 3 ma ks av).sep (SepL.foot PmF.foot lm)).sep FB.out))
  have HU : Hid (∀ p : Nat, onZ (keysM (idsM (lm ++ [(⟨⟨n + 1, rv, Pd.new c⟩, p⟩ : PM)])) (ownV (lm ++ [(⟨⟨n + 1, rv, Pd.new c⟩, p⟩ : PM)]))) (intK (n + 1)) = some (.agg #[.string rv, pz p])) := Lib.hid (fun p => by
    have hnn : (idsM (lm ++ [(⟨⟨n + 1, rv, Pd.new c⟩, p⟩ : PM)])).Nodup := by
      unfold idsM at HNO HND ⊢
      rw [List.map_append, List.nodup_append]
      exact ⟨HND.out, by simp, fun a ha b hb e => HNO.out (by simp at hb; rw [← hb, ← e]; exact ha)⟩
    rw [keysM_in (mem_ids.2 ⟨⟨⟨n + 1, rv, Pd.new c⟩, p⟩, by simp, rfl⟩)]
    exact congrArg some (ownV_at hnn (m := ⟨⟨n + 1, rv, Pd.new c⟩, p⟩) (by simp)))
  have HIN : Hid (∀ p : Nat, (idsM (lm ++ [(⟨⟨n + 1, rv, Pd.new c⟩, p⟩ : PM)])).Nodup) := Lib.hid (fun p => by
    unfold idsM at HNO HND ⊢
    rw [List.map_append, List.nodup_append]
    exact ⟨HND.out, by simp, fun a ha b hb e => HNO.out (by simp at hb; rw [← hb, ← e]; exact ha)⟩)
  have HO : Hid (∀ p : Nat, ∀ y, y ≠ intK (n + 1) → onZ (keysM (idsM (lm ++ [(⟨⟨n + 1, rv, Pd.new c⟩, p⟩ : PM)])) (ownV (lm ++ [(⟨⟨n + 1, rv, Pd.new c⟩, p⟩ : PM)]))) y = onZ (keysM (idsM lm) (ownV lm)) y) := Lib.hid (fun p => onZ_ne fun y hy => by
    unfold keysM
    by_cases q : y ∈ idsM lm
    · obtain ⟨m, hm, rfl⟩ := mem_ids.1 q
      rw [if_pos q, if_pos (mem_ids.2 ⟨m, List.mem_append_left _ hm, rfl⟩), ownV_at (HIN.out p) (List.mem_append_left _ hm), ownV_at HND.out hm]
    · rw [if_neg q, if_neg (fun z => by
        obtain ⟨m, hm, e⟩ := mem_ids.1 z
        rcases List.mem_append.1 hm with hm | hm
        · exact q (mem_ids.2 ⟨m, hm, e⟩)
        · rw [List.mem_singleton] at hm; subst hm; exact hy e.symm)])
  clear H8 HB0 FX H1 hF2
  go_wp2_with fail
  refine Evo2.start' (ℓ := some 12) (S := Chg (fun _ => False)) (E := Grow.G) (by kernel_rfl) ⟨Chg.pre _, by decide +kernel, (by intro c a d v w h; cases d <;> exact h), by decide +kernel⟩ (fun ok => ?_)
  refine Evo2.va ok 0 _ _ ?_
  refine Evo2.va ok 1 _ _ ?_
  refine Evo2.va ok 2 _ _ ?_
  first | (refine Evo2.vl ok 3 KC.out (Chg.refl (fun _ => False) _) _ _ ?_) | (refine Evo2.va ok 3 _ _ ?_)
  refine Evo2.va ok 4 _ _ ?_
  refine Evo2.va ok 5 _ _ ?_
  refine Evo2.va ok 6 _ _ ?_
  first | (refine Evo2.vl ok 7 KC.out (Chg.refl (fun _ => False) _) _ _ ?_) | (refine Evo2.va ok 7 _ _ ?_)
  refine Evo2.va ok 8 _ _ ?_
  refine Evo2.va ok 9 _ _ ?_
  refine Evo2.all [10] (by decide +kernel) rfl ?_
  intro wp1 gp1 iq hq
  simp only [List.mem_cons, List.mem_nil_iff, or_false] at hq
  have AP1 := Chg.trans (Chg.refl (fun _ => False) _) (Chg.grow gp1)
  subst hq
  refine Evo2.enters 56 _ (by rfl) (by rfl) (by go_simp; exact ⟨rfl, rfl⟩) ?_
  refine (PN.out wp1 ⟨by omega, by omega⟩).mono ?_
  rintro e wc1 ⟨rfl, xp, hg1⟩; have CH1 := Chg.grow (G := fun _ => False) hg1
  refine ⟨_, rfl, .inr CH1, ?_⟩
  have AC1 := Chg.trans AP1 CH1
  simp only [Act.put, L0, L1, L2]
  refine Evo2.va ok 11 _ _ ?_
  refine Evo2.all [12] (by decide +kernel) rfl ?_
  intro wp2 gp2 iq hq
  simp only [List.mem_cons, List.mem_nil_iff, or_false] at hq
  have AP2 := Chg.trans AC1 (Chg.grow gp2)
  subst hq
  refine MapV.up (by rfl) (by rfl) rfl (key := .int .i64 (n + 1)) keyedZ Try.underlying59 rfl (MB.out.2.chg AP2 id) HLL.out rfl rfl (keyZ undI (by omega) (by omega)) (HU.out _) (HO.out _) ?_
  intro wm OM CM
  refine ⟨.inl (by first | rfl | trivial), ?_⟩
  simp only [Act.put, L0, L1, L2]
  refine Evo2.done (by decide +kernel) (fun wz gz => ?_)
  have AZ := AP2
  have s1 := AP1.size
  have H2 := (HMP.out.grow ((MapF.foot _ _ _ _ _).sep FY.out) (chg_noneO AP1)).beside ((MapF.foot _ _ _ _ _).sep FY.out) hg1 (F₁ := fun k => k = wp1.heap.size) (B := PmF ⟨⟨n + 1, rv, Pd.new c⟩, wp1.heap.size⟩) xp (fun k hk => by have hk : k = wp1.heap.size := hk; omega)
  have H3 := (H2.grow ((PmF.foot _).sep ((MapF.foot _ _ _ _ _).sep FY.out)) gp2).rot
  have H4 := hold_mapStep ((PmF.foot ⟨⟨n + 1, rv, Pd.new c⟩, wp1.heap.size⟩).sep FY.out) H3 ⟨HIN.out wp1.heap.size, MapB.tightZ OM undI (HIN.out wp1.heap.size) (keysM_some _ _)⟩ CM
  have H5 := Lib.hid ((hold_mp2 (m := ⟨⟨n + 1, rv, Pd.new c⟩, wp1.heap.size⟩) H4).grow ((FlS.foot _ _ _ _ _ _ _ _).sep FB.out) gz)
  obtain ⟨F5, hF5⟩ := hold_FS H5.out
  have c1 := hF5.c1
  have hgl := hF5.hb.lt
  clear H2 H3 H4 hF5 OM CM AZ gz gp1 gp2 AP1 AP2 xp hg1 CH1 KC BG MB HMP PN HU HO HIN HNO
  go_wp2_with fail
  go_ret
  exact ⟨_, rfl, H5.out⟩
end

theorem has_drain {l : List Po} (ok : PosOk l) (i id y : Int) : hasP (chgP l i Pd.aftDrain) id y ↔ hasP l id y := by
  unfold hasP chgP
  constructor
  · rintro ⟨h, h1, h2, h3⟩
    obtain ⟨h1, _⟩ := List.mem_filter.1 h1
    obtain ⟨a, ha, e⟩ := List.mem_map.1 h1
    refine ⟨a, ha, ?_⟩
    split at e
    · subst e; exact ⟨h2, by rw [← drain_l]; exact h3⟩
    · subst e; exact ⟨h2, h3⟩
  · rintro ⟨a, ha, h2, h3⟩
    have hst := (ok.pod a ha).2.1
    refine ⟨if a.id = i then a.to a.p.aftDrain else a, List.mem_filter.2 ⟨List.mem_map.2 ⟨a, ha, rfl⟩, alive_iff.2 ?_⟩, ?_, ?_⟩
    · split
      · intro e
        have := drain_dead hst e
        rw [drain_l] at this
        rw [this] at h3; cases h3
      · exact hst
    · split <;> exact h2
    · split
      · show y ∈ a.p.aftDrain.l
        rw [drain_l]; exact h3
      · exact h3
theorem has_new {l : List Po} {rv : ByteArray} {c n : Int} {k : Nat} {id y : Int} : hasP (l ++ newP rv c n k) id y ↔ hasP l id y := by
  unfold hasP
  constructor
  · rintro ⟨h, h1, h2, h3⟩
    rcases List.mem_append.1 h1 with h1 | h1
    · exact ⟨h, h1, h2, h3⟩
    · obtain ⟨i, _, rfl⟩ := newP_mem h1
      cases h3
  · rintro ⟨h, h1, h2, h3⟩
    exact ⟨h, List.mem_append_left _ h1, h2, h3⟩
theorem has_drains {rv : ByteArray} {l s : List Po} (ok : PosOk l) (hp : s.Perm (fitL l rv)) (hs : s.Pairwise fun a b => ltOf soonC (t3 b) (t3 a) = false) (id y : Int) : ∀ k, k ≤ s.length → (hasP (drainP rv k l).1 id y ↔ hasP l id y)
  | 0, _ => Iff.rfl
  | k + 1, hk => by
    obtain ⟨i1, _, _, i4⟩ := drain_order ok hp hs k (by omega)
    obtain ⟨h1, h2⟩ := i4 (s[k]'(by omega)) (List.getElem?_eq_getElem _)
    rw [drain_snoc rv k l _ h1]
    exact (has_drain i1 _ id y).trans (has_drains ok hp hs id y k (by omega))
theorem sep_blk {w : World} {F : Nat → Prop} {A C : Hp} {b : Nat} {cs : List Value} {T : TypeId} (h : Sep A (Sep (BlkF b cs T) C) w F) : F b ∧ Blk w b cs.toArray T := by
  obtain ⟨F1, F2, _, ⟨F3, F4, a, _, _, e2⟩, _, e⟩ := h
  exact ⟨(e b).2 (.inr ((e2 b).2 (.inl ((a.2 b).2 rfl)))), a.1⟩
section
variable {w0 w : World} {L : List MBox} {A B : Hp} {g : Nat} {f f' : Fl} {tl ul : List Int}
theorem hold_sepblk {C : Hp} {b : Nat} {cs : List Value} {T : TypeId} (h : Hold w0 w L (Sep A (Sep (BlkF b cs T) C))) : Blk w b cs.toArray T := by
  obtain ⟨F, q, _⟩ := h.st
  exact (sep_blk q).2
set_option maxHeartbeats 16000000 in
theorem hold_fscale (h : Hold w0 w L (Sep (FlP g f) B)) (hB : Foot B) (rv : ByteArray) (c want : Int) (hs : rv.size ≤ 100) (hc : 1 ≤ c ∧ c ≤ 8) (hw : 0 ≤ want ∧ want ≤ 10) (hn : f.n ≤ 99000) (h1 : f.made rv want = tl := by rfl) (h2 : f.gone rv want = ul := by rfl) (h3 : f.scale rv c want = f' := by rfl) :
    Calls Try.prog 14 #[pz g, .string rv, .int .i64 c, .int .i64 want] w fun e w' => ∃ v u, e = .returned (.tuple #[v, u]) ∧ Hold w0 w' L (Sep (FlP g f') (Sep (IntO v tl) (Sep (IntO u ul) B))) := by
  obtain ⟨mp, ma, lm0, e1, ok, HS⟩ := hold_flopen h
  have okm : PosOk (lm0.map PM.h) := by rw [e1]; exact ok.l
  have hroom := ok.room
  have hlen : lm0.length ≤ 30 ∧ (lm0.length : Int) ≤ f.room := by
    have := ok.len
    rw [← e1, List.length_map] at this
    omega
  have hwfm : ∀ m, m ∈ lm0 → wf64 m.h.id := fun m hm => Fl.wf ok (by rw [← e1]; exact List.mem_map.2 ⟨m, hm, rfl⟩)
  have hlf : (f.l.length : Nat) = lm0.length := by rw [← e1, List.length_map]
  obtain ⟨CT, hCT⟩ : ∃ CT, countP f.l rv = CT := ⟨_, rfl⟩
  obtain ⟨K, hK⟩ : ∃ K, f.more rv want = K := ⟨_, rfl⟩
  obtain ⟨D, hD⟩ : ∃ D, f.less rv want = D := ⟨_, rfl⟩
  have hKd : K = min (want - (CT : Int)).toNat (f.room - (lm0.length : Int)).toNat := by rw [← hK, ← hCT, ← hlf]; rfl
  have hDd : D = ((CT : Int) - want).toNat := by rw [← hD, ← hCT]; rfl
  have hCTl : CT ≤ lm0.length := by rw [← hCT, ← hlf]; unfold countP; exact List.length_filter_le _ _
  have hmade : f.made rv want = idsP f.n K := by unfold Fl.made; rw [hK]
  have hgone : f.gone rv want = (drainP rv D f.l).2 := by unfold Fl.gone; rw [hD]
  have hsc : f' = ⟨f.room, f.n + K, (drainP rv D (f.l ++ newP rv c f.n K)).1⟩ := by rw [← h3]; unfold Fl.scale; rw [hK, hD]
  have ok2 : f'.ok := by rw [← h3]; exact Fl.ok_scale ok rv hc hw hn
  have FB := Lib.hid hB
  have HM0 := Lib.hid (And.intro e1 (And.intro ok (And.intro okm (And.intro ok2 hsc))))
  have HTL : Hid (tl = idsP f.n K) := Lib.hid (h1.symm.trans hmade)
  have HUL : Hid (ul = (drainP rv D f.l).2) := Lib.hid (h2.symm.trans hgone)
  have HCT := Lib.hid hCT
  have HWM := Lib.hid hwfm
  have H := Lib.hid HS
  have EN := Lib.hid (fit_new g rv)
  have FS := Lib.hid (fun n lm => FlS.foot g f.room n mp ma lm (reqsP f.l) (whereV f.l))
  have hnn := ok.n
  have b1 : decide (c < 1) = false := decide_eq_false (by omega)
  have b2 : decide (8 < c) = false := decide_eq_false (by omega)
  have b3 : decide (want < 0) = false := decide_eq_false (by omega)
  have b4 : decide (10 < want) = false := decide_eq_false (by omega)
  clear h HS h1 h2 h3 hCT hK hD hmade hgone hsc ok2 ok okm e1 hlf hwfm
  go_enter Try.func14, Try.ntmps14
  go_wp2_with fail
  refine (EN.out w).mono ?_
  rintro e w1 ⟨c1, c2, rfl, hb1, hb2, k1, k2, hg1⟩
  have H1 := H.out.grow ((FS.out _ _).sep FB.out) hg1
  obtain ⟨F0, hF1⟩ := hold_FS H1
  have SF := Lib.hid (sortedf_any 30 soonC swoS (enters_of Try.func30 (by kernel_rfl) rfl) sooner_any 53 #[pz c1, pz c2] (enters_of Try.func53 (by kernel_rfl) rfl) (fun k => F0 k ∨ k = c1 ∨ k = c2) (fitL (lm0.map PM.h) rv) w1
    (fun k hk => by rcases hk with hk | rfl | rfl <;> first | exact hF1.lt _ hk | exact k1.lt | exact k2.lt) (by rw [fitL_is]; exact Nat.le_trans (List.length_filter_le _ _) (by rw [List.length_map]; omega)) (fit_seq c1 c2 g rv F0 f.room f.n mp ma lm0 w1 k1 k2 hF1 HM0.out.2.2.1 (by omega) HWM.out))
  have H1' := Lib.hid H1
  clear H1 hF1 k1 k2 hg1 EN H hb1 hb2
  go_wp2_with fail
  refine SF.out.mono ?_
  rintro e w2 ⟨v, s, rfl, hp, hsr, ho, hg2⟩
  have H2 := hold_lk H1'.out (FS.out _ _) FB.out hg2 ho
  obtain ⟨va, vc, rfl⟩ := own_shape ho
  have hsl : s.length = CT := by rw [hp.length_eq, fitL_len, HM0.out.1, HCT.out]
  rw [HM0.out.1] at hp
  obtain ⟨F2, hF2⟩ := hold_FS H2
  have hgl := hF2.hb.lt
  have KC := Lib.hid (fun (w' : World) (h : Chg (fun _ => False) w2 w') => (⟨h.cell hF2.c0 id, trivial⟩ : w'.cell? ⟨g, 0, none⟩ = some (.int .i64 f.room) ∧ True))
  have LV := Lib.hid (fun (w' : World) (h : Chg (fun _ => False) w2 w') => quietO (flive_any F2 g f.room f.n mp ma lm0 w' (hF2.grow (chg_noneO h))))
  have HP := Lib.hid hp
  have HSR := Lib.hid hsr
  have H3 := Lib.hid H2
  have FLK := Lib.hid (RowF.foot 0 lookT 3 (.slice va s.length vc) s.length (looks s))
  have x1 : IntKind.i64.wrap (want - (CT : Int)) = want - (CT : Int) := IntWalk.i64_in _ ⟨by omega, by omega⟩
  have x2 : IntKind.i64.wrap (f.room - (lm0.length : Int)) = f.room - (lm0.length : Int) := IntWalk.i64_in _ ⟨by omega, by omega⟩
  have HSL := Lib.hid hsl
  rw [hsl]
  clear H2 hp hsr ho hg2 H1' SF hF2 hsl b1 b2 b3 b4
  go_wp2_with fail
  refine Evo2.start' (ℓ := none) (S := Chg (fun _ => False)) (E := Grow.G) (by kernel_rfl) ⟨Chg.pre _, by decide +kernel, (by intro c a d v w h; cases d <;> exact h), by decide +kernel⟩ (fun ok => ?_)
  refine Evo2.va ok 0 _ _ ?_
  refine Evo2.va ok 1 _ _ ?_
  refine Evo2.va ok 2 _ _ ?_
  refine Evo2.va ok 3 _ _ ?_
  refine Evo2.va ok 4 _ _ ?_
  refine Evo2.va ok 5 _ _ ?_
  refine Evo2.va ok 6 _ _ ?_
  first | (refine Evo2.vl ok 7 KC.out (Chg.refl (fun _ => False) _) _ _ ?_) | (refine Evo2.va ok 7 _ _ ?_)
  refine Evo2.va ok 8 _ _ ?_
  (refine Evo2.cal ok 9 ?_ 16 ?_ ?_ ?_ ?_; rotate_left 2; (focus (intro w'; go_simp <;> with_reducible rfl)); (focus (intro w' g'; with_reducible exact LV.out w' (Chg.trans (Chg.refl (fun _ => False) _) g'))); simp only [Act.put, L0, L1, L2])
  refine Evo2.va ok 10 _ _ ?_
  refine Evo2.va ok 11 _ _ ?_
  refine Evo2.va ok 12 _ _ ?_
  refine Evo2.done (by decide +kernel) (fun wz gz => ?_)
  have AZ := Chg.trans (Chg.refl (fun _ => False) _) (Chg.grow gz)
  dsimp only [Exit.then]
  obtain ⟨MI, hMI⟩ : ∃ MI, min (want - (CT : Int)) (f.room - (lm0.length : Int)) = MI := ⟨_, rfl⟩
  rw [hMI]
  have hMK : MI ≤ K ∧ (0 ≤ MI → MI = K) ∧ (MI < 0 → K = 0) ∧ (0 < K → MI = K) := by omega
  have hMC : (K = 0 ∨ D = 0) ∧ D ≤ CT ∧ K ≤ 10 ∧ (D : Int) = max ((CT : Int) - want) 0 ∧ (lm0.length : Int) + K ≤ 30 := by omega
  have FI := Lib.hid IntO.foot
  have HK : Hid (Hold w0 wz L (Sep (FlS g f.room f.n mp ma lm0 (reqsP f.l) (whereV f.l)) (Sep (IntO (.slice none 0 0) []) (Sep (LkF (.slice va CT vc) s) B)))) := Lib.hid (by
    have := hold_nilK (H3.out.grow ((FS.out _ _).sep (FLK.out.sep FB.out)) (chg_noneO AZ)) (FS.out _ _) (FLK.out.sep FB.out)
    rw [HSL.out] at this; exact this)
  have HM1 : Hid (lm0.map PM.h = f.l ++ newP rv c f.n 0) := Lib.hid (by rw [HM0.out.1]; exact (List.append_nil _).symm)
  replace FLK : Hid (Foot (LkF (.slice va CT vc) s)) := Lib.hid (RowF.foot _ _ _ _ _ _)
  clear H3 KC LV AZ gz ok x1 x2 hMI hKd
  go_wp2_with fail
  go_loopw [8, 43] (fun mv nv wr => ∃ (j : Nat) (am : Option Addr) (cm : Nat) (lm : List PM), j ≤ K ∧ mv = .slice am j cm ∧ nv = .int .i64 (j : Int) ∧ lm.length = lm0.length + j ∧ Hid (lm.map PM.h = f.l ++ newP rv c f.n j) ∧ Hid (Hold w0 wr L (Sep (FlS g f.room (f.n + (j : Int)) mp ma lm (reqsP f.l) (whereV f.l)) (Sep (IntO (.slice am j cm) (idsP f.n j)) (Sep (LkF (.slice va CT vc) s) B))))) (fun _ nv _ => K - (_root_.Go.RowKit.intOf nv).toNat)
  case atStart => exact ⟨0, none, 0, lm0, by omega, rfl, rfl, rfl, HM1, Lib.hid (by rw [show f.n + ((0 : Nat) : Int) = f.n by simp]; exact HK.out)⟩
  case round =>
    clear HK HM1
    obtain ⟨j, am, cm, lm, hj, rfl, rfl, hll, HM1, HK⟩ := hrel
    have hj1 : IntKind.i64.wrap ((j : Int) + 1) = (j : Int) + 1 := IntWalk.i64_in _ ⟨by omega, by omega⟩
    by_cases hlt : j < K
    · have q1 : (j : Int) < MI := by omega
      have d1 : decide ((j : Int) < MI) = true := decide_eq_true q1
      have okj : PosOk (lm.map PM.h) := by rw [HM1.out]; exact HM0.out.2.1.l.add hc (fun h hh => (HM0.out.2.1.rng h hh).2) j
      have AD := Lib.hid (hold_fadd HK.out ((FI.out _ _).sep (FLK.out.sep FB.out)) rv c hc ⟨by omega, by omega⟩ (fun m hm => by
        have : m.h ∈ f.l ++ newP rv c f.n j := by rw [← HM1.out]; exact List.mem_map.2 ⟨m, hm, rfl⟩
        rcases List.mem_append.1 this with q | q
        · have := (HM0.out.2.1.rng _ q).2; omega
        · obtain ⟨i, hi, e⟩ := newP_mem q
          rw [e]; dsimp only; omega) (nodup_ids okj) (by omega))
      have HLL := Lib.hid hll
      clear okj HK hll
      go_wp2_with fail
      refine AD.out.mono ?_
      rintro e w4 ⟨pn, rfl, hh⟩
      have hids : Hid (idsP f.n (j + 1) = idsP f.n j ++ [f.n + (j : Int) + 1]) := Lib.hid (by rw [idsP_snocF, show f.n + (j : Int) + 1 = f.n + 1 + (j : Int) by omega])
      obtain ⟨m', hm9⟩ : ∃ m' : PM, m' = ⟨⟨f.n + (j : Int) + 1, rv, Pd.new c⟩, pn⟩ := ⟨_, rfl⟩
      have HM2 : Hid ((lm ++ [m']).map PM.h = f.l ++ newP rv c f.n (j + 1)) := Lib.hid (by
        rw [List.map_append, HM1.out, newP_snocF, hm9, ← List.append_assoc, show f.n + (j : Int) + 1 = f.n + 1 + (j : Int) by omega]; rfl)
      rw [← hm9] at hh
      have hil : (idsP f.n j).length = j := idsP_len _ _
      have HA := Lib.hid (hh.grow ((FS.out _ _).sep ((FI.out _ _).sep (FLK.out.sep FB.out))) (Grow.G.alloc (Grow.G.refl _) (.cells #[.int .i64 (f.n + (j : Int) + 1)] 3)))
      have SR := Lib.hid (blk_src (l := [f.n + (j : Int) + 1]) (Blk.new w4 _ 3))
      clear hh AD HM1 hm9
      go_wp2_with (refine wpList_appI (ys := [f.n + (j : Int) + 1]) rfl (.tmp 45) (.tmp 50) rfl HA.out (FS.out _ _) (FLK.out.sep FB.out) rfl rfl rfl SR.out (by simp; omega) ?_; intro a10 c10 w10 H10)
      refine Stay.go ?_
      have H11 := Lib.hid H10
      clear H10 HA SR
      go_wp2_with fail
      go_roundw
      case rel => exact ⟨j + 1, a10, c10, lm ++ [m'], by omega, rfl, by go_num, by rw [List.length_append, List.length_singleton, HLL.out]; omega, HM2, Lib.hid (by rw [hids.out]; have := H11.out; rw [List.length_append, List.length_singleton, hil] at this; rw [show f.n + ((j + 1 : Nat) : Int) = f.n + (j : Int) + 1 by omega]; exact this)⟩
      case measure => simp [_root_.Go.RowKit.intOf]; omega
    · have hjK : j = K := by omega
      have q1 : ¬ ((j : Int) < MI) := by omega
      have d1 : decide ((j : Int) < MI) = false := decide_eq_false q1
      have H5 := Lib.hid HK.out
      rw [hjK] at HM1 H5
      have hilK : (idsP f.n K).length = K := idsP_len _ _
      have H6 : Hid (Hold w0 wr L (Sep (FlS g f.room (f.n + (K : Int)) mp ma lm (reqsP f.l) (whereV f.l)) (Sep (IntO (.slice none 0 0) []) (Sep (LkF (.slice va CT vc) s) (Sep (IntO (.slice am K cm) tl) B))))) := Lib.hid (by
        have := hold_nilK (H5.out.map fun F h => h.under fun F h => h.rot) (FS.out _ _) (FLK.out.sep ((FI.out _ _).sep FB.out))
        rw [HTL.out]; exact this)
      obtain ⟨u1, hu1⟩ : ∃ u : Value, u = .slice am j cm := ⟨_, rfl⟩
      have hu2 : Hid (u1 = .slice am K cm) := Lib.hid (by rw [hu1, hjK])
      rw [← hu2.out] at H6
      rw [← hu1]
      have FT := Lib.hid (FI.out u1 tl)
      have hmx : max ((CT : Int) - want) 0 = (D : Int) := hMC.2.2.2.1.symm
      have x3 : IntKind.i64.wrap ((CT : Int) - want) = (CT : Int) - want := IntWalk.i64_in _ ⟨by omega, by omega⟩
      have hDC := hMC.2.1
      have HDK := Lib.hid hMC.1
      have HZ : Hid (D = 0 → f'.l = lm.map PM.h) := Lib.hid (fun e => by rw [HM0.out.2.2.2.2, HM1.out, e]; rfl)
      have HRD := Lib.hid (hold_lkR H6.out.drop1)
      have HM1' := Lib.hid HM1.out
      have hlm30 : lm.length ≤ 30 := by omega
      have hvc : CT ≤ vc := by
        rcases HRD.out.2 with ⟨h1, h2⟩ | ⟨gb, cap, cur, hv, _, hgb, hn, _⟩
        · rw [HSL.out] at h2; omega
        · cases hv; rw [HSL.out] at hn; exact hn
      have HDD := Lib.hid hDd
      clear HK H5 HM1 hu1 hMC hMK hll hjK hDd
      have hD0 : (D : Int) ≤ (vc : Int) := by omega
      have hD1 : (0 : Int) ≤ (D : Int) := by omega
      go_wp2_with fail
      have HL1 : Hid (0 < D → f.l ++ newP rv c f.n K = f.l) := Lib.hid (fun e => by
        have : K = 0 := HDK.out.resolve_right (by omega)
        rw [this]; exact List.append_nil _)
      obtain ⟨l1, hl1⟩ : ∃ l1, f.l ++ newP rv c f.n K = l1 := ⟨_, rfl⟩
      have HLL1 := Lib.hid hl1
      have HM7 : Hid (lm.map PM.h = l1) := Lib.hid (by rw [← hl1]; exact HM1'.out)
      rw [hl1] at HL1
      have HD3 : Hid (∀ i : Nat, i ≤ D → (drainP rv i l1).2.length = i) := Lib.hid (fun i hi => by
        rcases Nat.eq_zero_or_pos D with e | e
        · have : i = 0 := by omega
          rw [this]; rfl
        · rw [HL1.out e]
          exact (drainP_ok rv i f.l HM0.out.2.1.l (by rw [HCT.out]; omega)).2.2.1)
      clear hl1 hmx x3
      go_loopw [9, 61] (fun gv nv W => ∃ (i : Nat) (ag : Option Addr) (cg : Nat) (lm2 : List PM), i ≤ D ∧ gv = .slice ag i cg ∧ nv = .int .i64 (i : Int) ∧ Hid (lm2.map PM.h = (drainP rv i l1).1) ∧ lm2.length ≤ 30 ∧ Hid (Hold w0 W L (Sep (FlS g f.room (f.n + (K : Int)) mp ma lm2 (reqsP f.l) (whereV f.l)) (Sep (IntO (.slice ag i cg) (drainP rv i l1).2) (Sep (LkF (.slice va CT vc) s) (Sep (IntO u1 tl) B)))))) (fun _ nv _ => D - (_root_.Go.RowKit.intOf nv).toNat)
      case atStart => exact ⟨0, none, 0, lm, by omega, rfl, rfl, HM7, hlm30, H6⟩
      case round =>
        clear H6 HM7 HRD
        obtain ⟨i, ag, cg, lm2, hi, rfl, rfl, HM8, hlm2, H7⟩ := hrel
        have hi1 : IntKind.i64.wrap ((i : Int) + 1) = (i : Int) + 1 := IntWalk.i64_in _ ⟨by omega, by omega⟩
        by_cases hlt2 : i < D
        · have hlf := HL1.out (by omega)
          obtain ⟨y, hy⟩ : ∃ y, s[i]? = some y := ⟨_, List.getElem?_eq_getElem (by rw [HSL.out]; omega)⟩
          have hr := hold_lkR H7.out.drop1
          rw [← HSL.out] at hr
          obtain ⟨b, rfl, -, hbl, hcl⟩ := (own_looks hr).resolve_left (fun e => by have := HSL.out; rw [e] at this; simp at this; omega)
          obtain ⟨y0, y1, y2⟩ := hcl i y hy
          obtain ⟨i1, i2, i3, i4⟩ := drain_order HM0.out.2.1.l HP.out HSR.out i (by rw [HSL.out]; omega)
          obtain ⟨hlast, hyl⟩ := i4 y hy
          have e8 := HM8.out
          rw [hlf] at e8
          obtain ⟨m, hm, rfl⟩ := List.mem_map.1 (show y ∈ lm2.map PM.h by rw [e8]; exact hyl)
          obtain ⟨p, q, rfl⟩ := List.append_of_mem hm
          have ok8 : PosOk ((p ++ m :: q).map PM.h) := by rw [e8]; exact i1
          have hfm := findM_at (nodup_ids ok8) hm
          have hwf8 : wf64 m.h.id := by
            obtain ⟨a, ha, ea, _⟩ := (drainP_ok rv i f.l HM0.out.2.1.l (by rw [HCT.out]; omega)).2.2.2.2.1 m.h hyl
            rw [← ea]; exact Fl.wf HM0.out.2.1 ha
          have g1 := Grow.G.alloc (Grow.G.refl wr) (.cells #[.int .i64 m.h.id, .int .i64 m.h.p.st, .int .i64 m.h.load] lookT)
          have BN := Blk.new wr #[.int .i64 m.h.id, .int .i64 m.h.p.st, .int .i64 m.h.load] lookT
          have FRS := Lib.hid (((FI.out (.slice ag i cg) (drainP rv i l1).2).sep (FLK.out.sep (FT.out.sep FB.out))))
          have H8 : Hold w0 (wr.alloc (.cells #[.int .i64 m.h.id, .int .i64 m.h.p.st, .int .i64 m.h.load] lookT)) L (Sep (FlS g f.room (f.n + (K : Int)) mp ma (p ++ m :: q) (reqsP f.l) (whereV f.l)) (Sep (BlkF wr.heap.size [.int .i64 m.h.id, .int .i64 m.h.p.st, .int .i64 m.h.load] lookT) (Sep (IntO (.slice ag i cg) (drainP rv i l1).2) (Sep (LkF (.slice (some ⟨b, 0, none⟩) CT vc) s) (Sep (IntO u1 tl) B))))) :=
            H7.out.beside2 (FS.out _ _) FRS.out g1 (F₁ := fun k => k = wr.heap.size) ⟨BN, fun k => Iff.rfl⟩ (fun k hk => by have hk : k = wr.heap.size := hk; omega)
          have hlast2 : Hid (drainP rv (i + 1) l1 = (chgP ((p ++ m :: q).map PM.h) m.h.id Pd.aftDrain, (drainP rv i l1).2 ++ [m.h.id])) := Lib.hid (by
            rw [HL1.out (by omega), e8]
            exact drain_snoc rv i f.l m.h hlast)
          have HOK8 := Lib.hid ok8
          have hlm3 : Hid ((buryM p q (m.to m.h.p.aftDrain)).length ≤ 30) := Lib.hid (by
            unfold buryM
            rw [List.length_append, List.length_cons] at hlm2
            split <;> simp <;> omega)
          obtain ⟨W1, hW1⟩ : ∃ W1, W1 = wr.alloc (.cells #[.int .i64 m.h.id, .int .i64 m.h.p.st, .int .i64 m.h.load] lookT) := ⟨_, rfl⟩
          obtain ⟨bo2, hbo2⟩ : ∃ bo2, bo2 = wr.heap.size := ⟨_, rfl⟩
          rw [← hW1, ← hbo2] at H8
          have FRB := Lib.hid ((BlkF.foot bo2 [.int .i64 m.h.id, .int .i64 m.h.p.st, .int .i64 m.h.load] lookT).sep FRS.out)
          obtain ⟨F1, HL0⟩ := (hold_pm H8).namedL
          obtain ⟨F3, hF3⟩ := hold_FS H8
          have FR := Lib.hid ((FlR.foot g f.room (f.n + (K : Int)) mp ma (idsM (p ++ m :: q)) (ownV (p ++ m :: q)) (p ++ q) (reqsP f.l) (whereV f.l)).sep FRB.out)
          have ng : Hid (¬ F1 g) := Lib.hid (HL0.not fun F2 b => (FlR.g b).1)
          have nm : Hid (¬ F1 mp) := Lib.hid (HL0.not fun F2 b => (FlR.g b).2.1)
          have nb : Hid (¬ F1 bo2) := Lib.hid (HL0.not fun F2 b => (sep_blk b).1)
          have HL := Lib.hid HL0
          have BM := Lib.hid hF3.hm
          have BN2 := hold_sepblk H8
          have HK := Lib.hid (keysI m.h.id hwf8)
          have HWI := Lib.hid hwf8
          have HV : Hid ((onZ (keysM (idsM (p ++ m :: q)) (ownV (p ++ m :: q))) (intK m.h.id)).getD ownZ = .agg #[.string m.h.rv, pz m.p]) := Lib.hid (by rw [own_at]; unfold ownV; rw [hfm]; rfl)
          have X1 := fld1 m.h.rv (some ⟨m.p, 0, none⟩)
          have KC := Lib.hid (fun (w' : World) (h : Chg F1 W1 w') => (⟨h.cell hF3.c2 ng.out, h.cell (Blk.at (cs := [Value.int .i64 m.h.id, .int .i64 m.h.p.st, .int .i64 m.h.load]) (k := 0) BN2 rfl) nb.out, trivial⟩ : w'.cell? ⟨g, 2, none⟩ = some (.map (some mp)) ∧ w'.cell? ⟨bo2, 0, none⟩ = some (.int .i64 m.h.id) ∧ True))
          have hlg := hF3.hb.lt
          have HD4 := Lib.hid (HD3.out (i + 1) (by omega))
          have hil2 : (drainP rv i l1).2.length = i := HD3.out i (by omega)
          have q2 : (i : Int) < (D : Int) := by omega
          have d5 : decide ((i : Int) < (D : Int)) = true := decide_eq_true q2
          have q3 : (0 : Int) ≤ (i : Int) := by omega
          clear H8 HL0 hF3 BN2 hm hfm ok8 e8 hlast hyl i1 i2 i3 i4 hy hr hcl H7 hlf BN g1 HM8 hwf8
          go_wp2_with fail
          rw [← hW1, ← hbo2]
          clear hW1 hbo2 y0 y1 y2
          refine Evo2.start' (ℓ := none) (S := Chg (F1)) (E := Grow.G) (by kernel_rfl) ⟨Chg.pre _, by decide +kernel, (by intro c a d v w h; cases d <;> exact h), by decide +kernel⟩ (fun ok => ?_)
          refine Evo2.va ok 0 _ _ ?_
          refine Evo2.va ok 1 _ _ ?_
          refine Evo2.va ok 2 _ _ ?_
          first | (refine Evo2.vl ok 3 KC.out (Chg.refl (F1) _) _ _ ?_) | (refine Evo2.va ok 3 _ _ ?_)
          refine Evo2.va ok 4 _ _ ?_
          first | (refine Evo2.vl ok 5 KC.out (Chg.refl (F1) _) _ _ ?_) | (refine Evo2.va ok 5 _ _ ?_)
          first | (refine Evo2.val ok 6 ?_ ?_ ?_; rotate_left; (focus (intro w' hg; refine exec_look1v (.agg #[.string m.h.rv, pz m.p]) (.int .i64 m.h.id) ?_ keyedZ Try.underlying59 zeroOwned (BM.out.chg (Chg.trans (Chg.refl (F1) _) hg) nm.out).mapN HK.out HV.out; (all_goals exact ⟨rfl, rfl, rfl, rfl⟩))); simp only [Act.put, L0, L1, L2]) | (refine Evo2.va ok 6 _ _ ?_)
          refine Evo2.va ok 7 _ _ ?_
          refine Evo2.all [8] (by decide +kernel) rfl ?_
          intro wp1 gp1 iq hq
          simp only [List.mem_cons, List.mem_nil_iff, or_false] at hq
          have AP1 := Chg.trans (Chg.refl (F1) _) (Chg.grow gp1)
          subst hq
          refine Evo2.enters 32 _ (by rfl) (by rfl) (by go_simp; exact ⟨rfl, rfl⟩) ?_
          refine (((HL.out.grow (PdP.foot _ _) FR.out gp1).call FR.out (pdrain_any m.p m.h.p wp1 F1 (HL.out.grow (PdP.foot _ _) FR.out gp1).a))).mono ?_
          rintro e wc1 ⟨rfl, H2, CH1⟩
          refine ⟨_, rfl, .inr CH1, ?_⟩
          have AC1 := Chg.trans AP1 CH1
          simp only [Act.put, L0, L1, L2]
          refine Evo2.done (by decide +kernel) (fun wz gz => ?_)
          have AZ := Chg.trans AC1 (Chg.grow gz)
          have H9 := Lib.hid (hold_pm' (H2.grow ((PdP.foot _ _).sep FR.out) gz))
          have b20 := Blk.at (cs := [Value.int .i64 m.h.id, .int .i64 m.h.p.st, .int .i64 m.h.load]) (k := 0) (hold_sepblk H9.out) rfl
          have b2l := (hold_sepblk H9.out).lt
          have BU := Lib.hid (hold_bury (m := m.to m.h.p.aftDrain) H9.out FRB.out (by rw [ids_to]; exact nodup_ids HOK8.out) HWI.out)
          clear H2 HL KC AZ gz gp1 CH1 HV HK X1 BM ng nm nb H9 ok
          dsimp only [Exit.then]
          go_wp2_with fail
          refine BU.out.mono ?_
          rintro e w10 ⟨rfl, H10⟩
          have b21 := Blk.at (cs := [Value.int .i64 m.h.id, .int .i64 m.h.p.st, .int .i64 m.h.load]) (k := 0) (hold_sepblk H10) rfl
          have b22 := (hold_sepblk H10).lt
          have HA := Lib.hid ((H10.rot.drop1).grow ((FS.out _ _).sep FRS.out) (Grow.G.alloc (Grow.G.refl _) (.cells #[.int .i64 m.h.id] 3)))
          have SR := Lib.hid (blk_src (l := [m.h.id]) (Blk.new w10 _ 3))
          clear H10 BU b20 b2l
          go_wp2_with (refine wpList_appI (ys := [m.h.id]) rfl (.tmp 78) (.tmp 81) rfl HA.out (FS.out _ _) (FLK.out.sep (FT.out.sep FB.out)) rfl rfl rfl SR.out (by simp; omega) ?_; intro a10 c10 w11 H11)
          refine Stay.go ?_
          have H12 := Lib.hid H11
          clear H11 HA SR b21 b22
          go_wp2_with fail
          go_roundw
          case rel => exact ⟨i + 1, a10, c10, buryM p q (m.to m.h.p.aftDrain), by omega, rfl, by go_num, Lib.hid (by rw [hlast2.out, bury_is HOK8.out]), hlm3.out, Lib.hid (by have := H12.out; rw [hlast2.out]; rw [List.length_append, List.length_singleton, hil2] at this; exact this)⟩
          case measure => simp [_root_.Go.RowKit.intOf]; omega
        · have hiD : i = D := by omega
          have d5 : decide ((i : Int) < (D : Int)) = false := decide_eq_false (by omega)
          have nq : ¬ ((i : Int) < (D : Int)) := by omega
          obtain ⟨e1, okf, okm, ok2, hsc⟩ := HM0.out
          have e9 : lm2.map PM.h = f'.l := by rw [HM8.out, hsc, hiD, HLL1.out]
          have hh : ∀ id y, hasP f'.l id y ↔ hasP f.l id y := fun id y => by
            rw [hsc]
            show hasP (drainP rv D (f.l ++ newP rv c f.n K)).1 id y ↔ _
            rcases Nat.eq_zero_or_pos D with e | e
            · rw [e]; exact has_new
            · rw [HLL1.out, HL1.out e]
              exact has_drains okf.l HP.out HSR.out id y D (by rw [HSL.out]; exact hDC)
          have hul : (drainP rv i l1).2 = ul := by
            rw [HUL.out, hiD]
            rcases Nat.eq_zero_or_pos D with e | e
            · rw [e]; rfl
            · rw [HL1.out e]
          have H8 : Hold w0 wr L (Sep (FlS g f'.room f'.n mp ma lm2 (reqsP f.l) (whereV f.l)) (Sep (IntO u1 tl) (Sep (IntO (.slice ag i cg) ul) B))) := by
            have h1 := H7.out
            rw [hul] at h1
            rw [show f'.room = f.room by rw [hsc], show f'.n = f.n + K by rw [hsc]]
            exact (h1.weak fun F h => h.weakR fun F h => h.weakR fun F h => h.dropL).map fun F h => h.under fun F h => h.rot
          have HC := Lib.hid (hold_flclose (f := f') H8 e9 ok2 (fun y => by rw [reqs_has, reqs_has]; exact ⟨fun ⟨id, q⟩ => ⟨id, (hh id y).1 q⟩, fun ⟨id, q⟩ => ⟨id, (hh id y).2 q⟩⟩) (fun y hy => by
            obtain ⟨id, q⟩ := reqs_has.1 hy
            rw [where_has ok2.l ((hh id y).2 q), where_has okf.l q]))
          clear H7 HM8 H8 e1 okf okm ok2 hsc e9 hh hul hiD
          go_wp2_with fail
          go_returns
          exact ⟨_, _, rfl, HC.out⟩
end
end Go.Proofs.Ytfnpghekkhnjkaa

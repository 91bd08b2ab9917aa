/- My own texts BpD, BpE, BpS, laid in one file. -/
import Derived.Test.YtjcdmnogmpjkkaaDoorZ92B
import Derived.Test.YtjcdmnogmpjkkaaDoorZ5

/- The program's books: Get of what is there; Prove. -/
namespace Go.Proofs.YtjcdmnogmpjkkaaDoor
set_option maxRecDepth 100000
set_option linter.unusedVariables false
set_option linter.unusedSimpArgs false
set_option linter.unnecessarySimpa false
open Go.RowKit Go.MapV Go.Maps

theorem rev_is {l : List Rv} (ok : BkOk l) {r : Rv} (h : r ∈ l) : IsRev r.nm r.c.nm r.gn := by
  obtain ⟨e, hp, _⟩ := ok.rev r h
  exact ⟨hp.1, hp.2.1, hp.2.2, e.trans (revS_yes hp)⟩
set_option maxHeartbeats 4000000 in
theorem bget_some (g : Nat) (l : List Rv) (ma mt pa pt : Option Nat) (rv : ByteArray) (r : Rv) (w : World) (h : BkIn w g l ma mt pa pt) (hs : rv.size ≤ 140737488351232) (hf : findK l rv = some r) (ht : Tab w) :
    Calls Tryd.prog 21 #[pz g, .string rv] w fun e w' => e = .returned (.tuple #[.agg r.cells.toArray, .bool true]) ∧ Grow.G w w' := by
  obtain ⟨hm, rfl⟩ := findK_mem hf
  have hrv := rev_is h.ok hm
  obtain ⟨en, hp, _⟩ := h.ok.rev r hm
  obtain ⟨z1, z2⟩ := rev_bd hp
  have e1 := findG_all (s := r.c.nm) (n := r.gn) h.ok (.inl hrv)
  have e2 := fK_at (p := allR) (v := cfgV) h.ok z1 z2
  rw [e1, hf] at e2
  have z3 : r.c.nm.size ≤ 16 := nameB_size hp.1
  have hg := h.hb.lt
  obtain ⟨nm, gn, ⟨b0, b1, b2, b3, b4, b5⟩, pr⟩ := r
  dsimp only at *
  have MO := Lib.hid (fun w => markOf_at nm b0 gn w hs (.inl hrv))
  have NM := Lib.hid (fun (w' : World) (q : Grow.G w w') => name12_any b0 gn w' z1 z2 (ht.below q))
  rw [← en] at NM
  have OC := Lib.hid (fun w => own12_any ⟨b0, b1, b2, b3, b4, b5⟩ w (by show b0.size ≤ _; omega))
  unfold Cfg.v at OC
  dsimp only at OC
  have GV := Lib.hid (fun (w' : World) (q : Grow.G w w') => getM_any g 0 ma _ (fK allR cfgV l) b0 gn b0 b1 b2 b3 b4 b5 true w' (cell_later q (Blk.at (cs := [.map ma, .map mt, .map pa, .map pt]) (k := 0) h.hb rfl)) (Nat.lt_of_lt_of_le hg q.size) (h.m1.grow q) z1 z2
    (by rw [e2]; rfl) (by rw [e2]; rfl))
  clear e1 e2 h hm hf hrv en hp ht
  have CS : (Tryd.prog.info? 75).map (·.size) = some 2 := by kernel_rfl
  have CE : (Tryd.prog.info? 33).map (·.size) = some 6 := by kernel_rfl
  unfold Rv.cells
  dsimp only
  go_enter Tryd.func21, Tryd.ntmps21
  go_wp2_with fail
  refine (MO.out _).mono ?_
  rintro e wn1 ⟨rfl, hb1⟩
  have HM1 := ((Mem.nil w).alloc' [.string ⟨#[]⟩, .int .i64 0, .string ⟨#[]⟩, .int .i64 0, .int .i64 0, .int .i64 0, .int .i64 0, .int .i64 0] 46 rfl).grow hb1
  simp only [K0, K1, L1, L2, K2, K3, K4, K5, K6, K7, Nat.reduceAdd, Nat.reduceSub] at HM1
  have HM := Lib.hid HM1
  clear HM1 hb1
  go_wp2_with ((refine Mem.storeAll 1 (t := 75) rfl rfl rfl rfl (n := 2) (by kernel_rfl) (Mem.alloc' HM.out _ _ rfl) rfl rfl rfl rfl ?_; intro W2 HMm CW2))
  simp only [K0, K1, L1, L2, K2, K3, K4, K5, K6, K7, Nat.reduceAdd, Nat.reduceSub] at HMm
  replace HM := Lib.hid HMm
  clear HMm
  refine Stay.go ?_
  have hlt1 := HM.out.lt (i := 1) rfl
  have hlt0 := HM.out.lt (i := 0) rfl
  go_wp2_with fail
  refine Evo2.start' (ℓ := none) (S := Chg (fun j => W2.heap.size ≤ j)) (E := Grow.G) (by kernel_rfl) ⟨Chg.pre _, by decide +kernel, (by intro c a d v w h; cases d <;> exact h), by decide +kernel⟩ (fun ok => ?_)
  refine Evo2.va ok 0 _ _ ?_
  refine Evo2.va ok 1 _ _ ?_
  refine Evo2.va ok 2 _ _ ?_
  first | (refine Evo2.val ok 3 ?_ ?_ ?_; rotate_left; (focus (intro w' hg; refine Box.exec_loadAll ?_ Tryd.underlying75 CS ((HM.out.blk (i := 1) rfl).chg (Chg.trans (Chg.refl (fun j => W2.heap.size ≤ j) _) hg) (by omega)) ?_; (all_goals (first | exact ⟨rfl, rfl⟩ | rfl)))); simp only [Act.put, L0, L1, L2]) | (refine Evo2.va ok 3 _ _ ?_)
  (refine Evo2.cal ok 4 ?_ 34 ?_ ?_ ?_ ?_; rotate_left 2; (focus (intro w'; go_simp <;> with_reducible rfl)); (focus (intro w' g'; with_reducible exact GV.out w' (Grow.G.trans HM.out.below ((Chg.trans (Chg.refl (fun j => W2.heap.size ≤ j) _) g').toGrow (fun j hj (h : W2.heap.size ≤ j) => by omega))))); simp only [Act.put, L0, L1, L2])
  refine Evo2.va ok 5 _ _ ?_
  refine Evo2.va ok 6 _ _ ?_
  refine Evo2.va ok 7 _ _ ?_
  refine Evo2.all [8] (by decide +kernel) rfl ?_
  intro wp1 gp1 iq hq
  simp only [List.mem_cons, List.mem_nil_iff, or_false] at hq
  have AP1 := Chg.trans (Chg.refl (fun j => W2.heap.size ≤ j) _) (Chg.grow gp1)
  subst hq
  refine Evo2.runs (by rfl) (by rfl) (fun K' hK' => ?_)
  go_simp
  (try (simp only [Evo.after_value, Evo.after_skip]))
  refine hK'.out _ _ ?_
  clear hK'
  simp only [Act.put, L0, L1, L2]
  refine ⟨.inr (Chg.alloc (Chg.refl _ _) _), ?_⟩
  generalize hG1 : World.alloc wp1 _ = wg1
  have GG1 : Grow.G wp1 wg1 := hG1 ▸ Grow.G.alloc (Grow.G.refl _) _
  have NC1 := (congrArg (fun W : World => W.heap[wp1.heap.size]?) hG1).symm.trans (MapKept.heap_alloc wp1 _).1
  have NL1 : wp1.heap.size < wg1.heap.size := by rw [← hG1]; simp
  clear hG1
  refine Evo2.all [9] (by decide +kernel) rfl ?_
  intro wp2 gp2 iq hq
  simp only [List.mem_cons, List.mem_nil_iff, or_false] at hq
  have AP2 := Chg.trans (Chg.trans AP1 (Chg.grow GG1)) (Chg.grow gp2)
  have NC1 := (gp2.block _ NL1).trans NC1
  have NL1 := Nat.lt_of_lt_of_le NL1 gp2.size
  subst hq
  refine upStoreAll (by rfl) (by rfl) rfl rfl rfl (n := 6) (by kernel_rfl) (NC1) rfl rfl rfl ?_
  intro wc2 BZ CW2
  have CH2 : Chg (fun j => W2.heap.size ≤ j) _ _ := CW2.mono (fun j _ e => by have e : j = _ := e; show _ ≤ j; have := AP1.size; omega)
  refine ⟨.inr CH2, ?_⟩
  simp only [Act.put, L0, L1, L2]
  refine Evo2.va ok 10 _ _ ?_
  refine Evo2.done (by decide +kernel) (fun wz gz => ?_)
  have AZ := Chg.trans (Chg.trans AP2 CH2) (Chg.grow gz)
  have GZ := AZ.toGrow (fun j hj (h : W2.heap.size ≤ j) => by omega)
  have HM := Lib.hid (HM.out.grow GZ)
  have hq := AP1.size
  have BT := BZ.grow gz
  generalize wp1.heap.size = q at *
  have HT := Lib.hid BT
  have hne0 : wn1.heap.size ≠ w.heap.size := HM.out.dist (i := 1) (j := 0) rfl rfl (by decide)
  have hqs : q ≠ w.heap.size := by omega
  clear AZ gz BZ GZ hlt0 hlt1 BT hq
  have KC := Lib.hid (fun (w' : World) (h : Chg (fun j => j = w.heap.size) wz w') => (⟨h.cell (HM.out.cell (i := 1) (o := 1) rfl rfl) hne0, trivial⟩ : w'.cell? ⟨wn1.heap.size, 1, none⟩ = some (.int .i64 gn) ∧ True))
  go_wp2_with fail
  refine Evo2.start' (ℓ := none) (S := Chg (fun j => j = w.heap.size)) (E := Grow.G) (by kernel_rfl) ⟨Chg.pre _, by decide +kernel, (by intro c a d v w h; cases d <;> exact h), by decide +kernel⟩ (fun ok => ?_)
  first | (refine Evo2.val ok 0 ?_ ?_ ?_; rotate_left; (focus (intro w' hg; refine Box.exec_loadAll ?_ Tryd.underlying75 CS ((HM.out.blk (i := 1) rfl).chg (Chg.trans (Chg.refl (fun j => j = w.heap.size) _) hg) hne0) ?_; (all_goals (first | exact ⟨rfl, rfl⟩ | rfl)))); simp only [Act.put, L0, L1, L2]) | (refine Evo2.vl ok 0 KC.out (Chg.refl (fun j => j = w.heap.size) _) _ _ ?_) | (refine Evo2.va ok 0 _ _ ?_)
  (refine Evo2.cal ok 1 ?_ 42 ?_ ?_ ?_ ?_; rotate_left 2; (focus (intro w'; go_simp <;> with_reducible rfl)); (focus (intro w' g'; with_reducible exact NM.out w' (HM.out.below.trans ((Chg.trans (Chg.refl (fun j => j = w.heap.size) _) g').below (B := w.heap.size) HM.out.size (fun k hk (q : k = w.heap.size) => by omega))))); simp only [Act.put, L0, L1, L2])
  refine Evo2.va ok 2 _ _ ?_
  first | (refine Evo2.vl ok 3 KC.out (Chg.refl (fun j => j = w.heap.size) _) _ _ ?_) | (refine Evo2.va ok 3 _ _ ?_)
  first | (refine Evo2.val ok 4 ?_ ?_ ?_; rotate_left; (focus (intro w' hg; refine Box.exec_loadAll ?_ Tryd.underlying33 CE (HT.out.chg (Chg.trans (Chg.refl (fun j => j = w.heap.size) _) hg) hqs) ?_; (all_goals (first | exact ⟨rfl, rfl⟩ | rfl)))); simp only [Act.put, L0, L1, L2]) | (refine Evo2.vl ok 4 KC.out (Chg.refl (fun j => j = w.heap.size) _) _ _ ?_) | (refine Evo2.va ok 4 _ _ ?_)
  (refine Evo2.cal ok 5 ?_ 30 ?_ ?_ ?_ ?_; rotate_left 2; (focus (intro w'; go_simp <;> with_reducible rfl)); (focus (intro w' g'; with_reducible exact OC.out w')); simp only [Act.put, L0, L1, L2])
  refine Evo2.va ok 6 _ _ ?_
  refine Evo2.all [7] (by decide +kernel) rfl ?_
  intro wp1 gp1 iq hq
  simp only [List.mem_cons, List.mem_nil_iff, or_false] at hq
  have AP1 := Chg.trans (Chg.refl (fun j => j = w.heap.size) _) (Chg.grow gp1)
  subst hq
  refine upStoreAll (by rfl) (by rfl) rfl rfl rfl (n := 8) (by kernel_rfl) ((HM.out.blk (i := 0) rfl).grow gp1) rfl rfl rfl ?_
  intro wc1 BR CW1
  have CH1 : Chg (fun j => j = w.heap.size) _ _ := CW1.mono (fun j _ e => by exact e)
  refine ⟨.inr CH1, ?_⟩
  simp only [Act.put, L0, L1, L2]
  refine Evo2.va ok 8 _ _ ?_
  refine Evo2.done (by decide +kernel) (fun wz gz => ?_)
  have AZ := Chg.trans (Chg.trans AP1 CH1) (Chg.grow gz)
  have BF := BR.grow gz
  have GF := Lib.hid (HM.out.below.trans (AZ.below (B := w.heap.size) HM.out.size (fun k hk (q : k = w.heap.size) => by omega)))
  clear AZ gz BR KC
  go_wp2_with fail
  refine bodyPost_ret (v := .tuple #[.agg #[.string nm, .int .i64 gn, .string b0, .int .i64 b1, .int .i64 b2, .int .i64 b3, .int .i64 b4, .int .i64 b5], .bool true]) (by simp [results, Tryd.results21, go_sem, BF.cell]) rfl ?_
  exact ⟨rfl, GF.out⟩

theorem onS_all {f h : ByteArray → Option Value} (e : ∀ s, f s = h s) (kl : Lit) : onS f kl = onS h kl := by
  cases kl <;> first | rfl | exact e _
theorem topS_eq {m : ByteArray → Rv → Bool} {l l' : List Rv} {s : ByteArray} (e : topI m l' s = topI m l s) : topS m l' s = topS m l s := by unfold topS; rw [e]
theorem topS_max {m : ByteArray → Rv → Bool} {l : List Rv} {s : ByteArray} {M g : Int} (e : topI m l s = max M g) (h : 1 ≤ g) : onS (topS m l) (strK s) = some (.int .i64 (max M g)) := by
  show topS m l s = _
  unfold topS
  rw [e, if_neg (by omega)]
section
variable {w w' : World} {g : Nat} {l : List Rv} {ma mt pa pt : Option Nat}
/-- What a step tells: the book behind it, what it changed. -/
def StepB (w w' : World) (g : Nat) (l' : List Rv) (ma mt pa pt : Option Nat) : Prop := ∃ ma' mt' pa' pt', BkIn w' g l' ma' mt' pa' pt' ∧ Chg (BkFt g ma mt pa pt) w w' ∧ ∀ k, BkFt g ma' mt' pa' pt' k → BkFt g ma mt pa pt k ∨ w.heap.size ≤ k
theorem StepB.same (h : BkIn w g l ma mt pa pt) (c : Grow.G w w') : StepB w w' g l ma mt pa pt := ⟨ma, mt, pa, pt, h.grow c, Chg.grow c, fun k hk => .inl hk⟩
theorem StepB.ahead {w0 : World} {l' : List Rv} (h : StepB w w' g l' ma mt pa pt) (c : Grow.G w0 w) : StepB w0 w' g l' ma mt pa pt := by
  obtain ⟨a, b, d, e, q1, q2, q3⟩ := h
  exact ⟨a, b, d, e, q1, (Chg.grow c).trans q2, fun k hk => (q3 k hk).imp id (fun z => Nat.le_trans c.size z)⟩
theorem StepB.behind {w2 : World} {l' : List Rv} (h : StepB w w' g l' ma mt pa pt) (c : Grow.G w' w2) : StepB w w2 g l' ma mt pa pt := by
  obtain ⟨a, b, d, e, q1, q2, q3⟩ := h
  exact ⟨a, b, d, e, q1.grow c, q2.trans (Chg.grow c), q3⟩
theorem StepB.ends {l' : List Rv} (h : StepB w w' g l' ma mt pa pt) {F : Nat → Prop} (e : ∀ k, F k ↔ BkFt g ma mt pa pt k) : EndS w w' F (BkB g l') := by
  obtain ⟨a, b, d, x, q1, q2, q3⟩ := h
  exact ⟨BkFt g a b d x, ⟨a, b, d, x, q1, fun k => Iff.rfl⟩, q2.sub fun k hk => (e k).2 hk, fun k hk => (q3 k hk).imp (e k).2 id⟩
theorem BkIn.proves {s : ByteArray} {n : Int} (h : BkIn w g l ma mt pa pt) (hr : revP s n) (hh : hasK l (revS s n) = true) (hp : prvK l (revS s n) = false)
    (H : AddU w w' g (l.countP Rv.pr) (l.countP Rv.pr) (.map ma) (.map mt) pa pt (fK Rv.pr unitV (setK l (revS s n))) (onS (topS mineR (setK l (revS s n))))) : StepB w w' g (setK l (revS s n)) ma mt pa pt := by
  obtain ⟨a, t, q1, q2, q3, q4, q5, q6, q7⟩ := H
  obtain ⟨r, hr1, hr2⟩ := hasK_iff.1 hh
  have hpr : r.pr = false := by
    unfold prvK at hp
    rw [← hr2, findK_of h.ok hr1] at hp
    exact hp
  have hc := count_set (rv := revS s n) (l := l) ⟨r, hr1, hr2, hpr⟩
  have n1 : ∀ b, (ma = some b ∨ mt = some b) → ¬ (b = g ∨ pa = some b ∨ pt = some b) := fun b hb q => q.elim (h.ne b (.inl hb)) (h.ap b hb)
  refine ⟨ma, mt, some a, some t, ⟨h.ok.set _, q1, ?_, ?_, (show MapB _ _ _ _ _ _ from q2.mono hc), (show MapB _ _ _ _ _ _ from q3.mono hc), h.e1, .inr ⟨a, t, rfl, rfl, q4⟩, ?_⟩, q5.sub fun k hk => hk.elim .inl fun z => .inr (.inr z), ?_⟩
  · rw [setK_len]
    exact (h.m1.chg q5 fun b e => n1 b (.inl e)).same fun kl => fM_set _ _
  · rw [setK_len]
    exact (h.m2.chg q5 fun b e => n1 b (.inr e)).same fun kl => onS_all (fun s => topS_eq (topM_set h.ok _ _)) _
  · intro j hj q
    have hlt : j < w.heap.size := h.lt j (.inr (.inl hj))
    rcases q with q | q
    · obtain rfl := Option.some.inj q
      rcases q6 with z | z
      · exact h.ap _ hj (.inl z)
      · omega
    · obtain rfl := Option.some.inj q
      rcases q7 with z | z
      · exact h.ap _ hj (.inr z)
      · omega
  · rintro k (rfl | q | (q | q))
    · exact .inl (.inl rfl)
    · exact .inl (.inr (.inl q))
    · obtain rfl := Option.some.inj q
      exact q6.imp (fun z => .inr (.inr (.inl z))) id
    · obtain rfl := Option.some.inj q
      exact q7.imp (fun z => .inr (.inr (.inr z))) id
theorem BkIn.stamps {c : Cfg} {n : Int} (h : BkIn w g l ma mt pa pt) (hc : c.wf) (hr : revP c.nm n) (hh : hasK l (revS c.nm n) = false)
    (H : AddM w w' g l.length l.length (.map pa) (.map pt) ma mt (fK allR cfgV (putK l c n)) (onS (topS mineM (putK l c n)))) : StepB w w' g (putK l c n) ma mt pa pt := by
  obtain ⟨a, t, q1, q2, q3, q4, q5, q6, q7⟩ := H
  have hlen : (putK l c n).length = l.length + 1 := by rw [putK_new hh, List.length_append]; rfl
  have hcnt : (putK l c n).countP Rv.pr = l.countP Rv.pr := by
    rw [putK_new hh, List.countP_append, List.countP_cons_of_neg (by show ¬ (false = true); decide)]; rfl
  have n1 : ∀ b, (pa = some b ∨ pt = some b) → ¬ (b = g ∨ ma = some b ∨ mt = some b) := fun b hb q => q.elim (h.ne b (.inr hb)) (fun z => h.ap b z hb)
  refine ⟨some a, some t, pa, pt, ⟨h.ok.put hc hr, q1, ?_, ?_, ?_, ?_, .inr ⟨a, t, rfl, rfl, q4⟩, h.e2, ?_⟩, q5.sub fun k hk => hk.elim .inl fun z => .inr (.inl z), ?_⟩
  · rw [hlen]; exact q2
  · rw [hlen]; exact q3
  · rw [hcnt]
    exact (h.m3.chg q5 fun b e => n1 b (.inl e)).same fun kl => fP_put _
  · rw [hcnt]
    exact (h.m4.chg q5 fun b e => n1 b (.inr e)).same fun kl => onS_all (fun s => topS_eq (topR_put h.ok _)) _
  · intro j q hj
    have hlt : j < w.heap.size := h.lt j (.inr (.inr hj))
    rcases q with q | q
    · obtain rfl := Option.some.inj q
      rcases q6 with z | z
      · exact h.ap _ (.inl z) hj
      · omega
    · obtain rfl := Option.some.inj q
      rcases q7 with z | z
      · exact h.ap _ (.inr z) hj
      · omega
  · rintro k (rfl | (q | q) | q)
    · exact .inl (.inl rfl)
    · obtain rfl := Option.some.inj q
      exact q6.imp (fun z => .inr (.inl (.inl z))) id
    · obtain rfl := Option.some.inj q
      exact q7.imp (fun z => .inr (.inl (.inr z))) id
    · exact .inl (.inr (.inr q))
end
/-- The call of add that Prove ends in. -/
theorem padd_any (g : Nat) (l : List Rv) (ma mt pa pt : Option Nat) (s : ByteArray) (n : Int) (w : World) (h : BkIn w g l ma mt pa pt) (hl : l.length ≤ 1000000) (hr : revP s n) (hh : hasK l (revS s n) = true) :
    Calls Tryd.prog 35 #[.pointer (some ⟨g, 2, none⟩), .agg #[.string s, .int .i64 n], .agg #[]] w fun e w' => e = .returned (.bool (!prvK l (revS s n))) ∧ StepB w w' g (setK l (revS s n)) ma mt pa pt := by
  obtain ⟨z1, z2⟩ := rev_bd hr
  have hir : IsRev (revS s n) s n := ⟨hr.1, hr.2.1, hr.2.2, revS_yes hr⟩
  have e1 := findG_pr h.ok (.inl hir)
  have e2 := fK_at (p := Rv.pr) (v := unitV) h.ok z1 z2
  have hcl : l.countP Rv.pr ≤ l.length := List.countP_le_length
  cases hp : prvK l (revS s n) with
  | true =>
    rw [hp] at e1
    rw [setK_same h.ok (.inr hp)]
    obtain ⟨r, hr'⟩ := Option.isSome_iff_exists.1 e1
    rw [hr'] at e2
    refine (addU_no g pa _ _ s n w (Blk.at (cs := [.map ma, .map mt, .map pa, .map pt]) (k := 2) h.hb rfl) h.hb.lt h.m3 z1 z2 (by rw [e2]; rfl) (by rw [e2]; rfl)).mono ?_
    rintro e w' ⟨rfl, q⟩
    exact ⟨rfl, StepB.same h q⟩
  | false =>
    rw [hp] at e1
    have hn : findG Rv.pr l s n = none := by cases q : findG Rv.pr l s n with
      | none => rfl
      | some _ => rw [q] at e1; cases e1
    rw [hn] at e2
    have hh2 : hasK (setK l (revS s n)) (revS s n) = true := by
      obtain ⟨r, a, b⟩ := hasK_iff.1 hh
      exact hasK_iff.2 ⟨_, List.mem_map.2 ⟨r, a, rfl⟩, by rw [proved_nm]; exact b⟩
    have e3 := findG_pr (h.ok.set (revS s n)) (.inl hir)
    have e4 : prvK (setK l (revS s n)) (revS s n) = true := by
      unfold prvK
      rw [findK_set]
      unfold hasK at hh
      obtain ⟨r, hr'⟩ := Option.isSome_iff_exists.1 hh
      rw [hr']
      show (if r.nm = revS s n then r.proved else r).pr = true
      rw [if_pos (findK_mem hr').2]; rfl
    rw [e4] at e3
    obtain ⟨r3, hr3⟩ := Option.isSome_iff_exists.1 e3
    have e5 := fK_at (p := Rv.pr) (v := unitV) (h.ok.set (revS s n)) z1 z2
    rw [hr3] at e5
    have et := topR_set h.ok hr hh
    have hb := h.hb
    refine (addU_yes g pa pt (l.countP Rv.pr) (l.countP Rv.pr) (fK Rv.pr unitV l) (fK Rv.pr unitV (setK l (revS s n))) (onS (topS mineR l)) (onS (topS mineR (setK l (revS s n)))) s n (topI mineR l s) (.map ma) (.map mt) w hb h.m3 h.m4 h.e2 z1 z2 (by unfold maxLen; omega) (by unfold maxLen; omega) e2 e5 (fun x hx => fP_set h.ok hr x hx) (topS_get _ _ _) (topS_max et hr.2.1) (onS_ne fun x hx => topS_eq (topR_setO h.ok hr hx))).mono ?_
    rintro e w' ⟨rfl, q⟩
    exact ⟨rfl, h.proves hr hh hp q⟩
/-- The call of add that Stamp ends in. -/
theorem sadd_any (g : Nat) (l : List Rv) (ma mt pa pt : Option Nat) (c : Cfg) (n : Int) (w : World) (h : BkIn w g l ma mt pa pt) (hl : l.length ≤ 1000000) (hr : revP c.nm n) (hc : c.wf) :
    Calls Tryd.prog 31 #[.pointer (some ⟨g, 0, none⟩), .agg #[.string c.nm, .int .i64 n], c.v] w fun e w' => e = .returned (.bool (newK l c n)) ∧ StepB w w' g (putK l c n) ma mt pa pt := by
  obtain ⟨z1, z2⟩ := rev_bd hr
  have hir : IsRev (revS c.nm n) c.nm n := ⟨hr.1, hr.2.1, hr.2.2, revS_yes hr⟩
  have e1 := findG_all h.ok (.inl hir)
  have e2 := fK_at (p := allR) (v := cfgV) h.ok z1 z2
  rw [e1] at e2
  unfold newK
  cases hp : hasK l (revS c.nm n) with
  | true =>
    rw [putK_has hp]
    obtain ⟨r, hr'⟩ := Option.isSome_iff_exists.1 (show (findK l (revS c.nm n)).isSome = true from hp)
    rw [hr'] at e2
    obtain ⟨nm, gn, ⟨d1, d2, d3, d4, d5, d6⟩, pr⟩ := r
    obtain ⟨c1, c2, c3, c4, c5, c6⟩ := c
    refine (addM_no g ma _ _ c1 n c1 c2 c3 c4 c5 c6 d1 d2 d3 d4 d5 d6 w (Blk.at (cs := [.map ma, .map mt, .map pa, .map pt]) (k := 0) h.hb rfl) h.hb.lt h.m1 z1 z2 (by rw [e2]; rfl) (by rw [e2]; rfl)).mono ?_
    rintro e w' ⟨rfl, q⟩
    exact ⟨rfl, StepB.same h q⟩
  | false =>
    rw [findK_none hp] at e2
    have ok2 := h.ok.put hc hr
    have e5 := fK_at (p := allR) (v := cfgV) ok2 z1 z2
    rw [findG_all ok2 (.inl hir), findK_put, hp, if_neg (by decide), if_pos rfl] at e5
    have et := topM_put h.ok hr
    have hb := h.hb
    have key : c.v = .agg #[.string c.nm, .int .i64 c.im, .int .i64 c.co, .int .i64 c.mn, .int .i64 c.mx, .int .i64 c.gr] := rfl
    rw [key]
    refine (addM_yes g ma mt l.length l.length (fK allR cfgV l) (fK allR cfgV (putK l c n)) (onS (topS mineM l)) (onS (topS mineM (putK l c n))) c.nm n (topI mineM l c.nm) c.nm c.im c.co c.mn c.mx c.gr (.map pa) (.map pt) w hb h.m1 h.m2 h.e1 z1 z2 (by unfold maxLen; omega) (by unfold maxLen; omega) e2 e5 (fun x hx => fK_put hp x hx) (topS_get _ _ _) (topS_max et hr.2.1) (onS_ne fun x hx => topS_eq (topM_putO h.ok hx))).mono ?_
    rintro e w' ⟨rfl, q⟩
    exact ⟨rfl, h.stamps hc hr hp q⟩

theorem hasK_rev {l : List Rv} (ok : BkOk l) {rv : ByteArray} (h : hasK l rv = true) : ∃ s n, IsRev rv s n ∧ revP s n ∧ rv = revS s n := by
  obtain ⟨r, h1, rfl⟩ := hasK_iff.1 h
  obtain ⟨e, hp, _⟩ := ok.rev r h1
  exact ⟨_, _, rev_is ok h1, hp, e⟩
set_option maxHeartbeats 4000000 in
theorem bprove_no (g : Nat) (l : List Rv) (ma mt pa pt : Option Nat) (rv : ByteArray) (w : World) (h : BkIn w g l ma mt pa pt) (hs : rv.size ≤ 140737488351232) (hf : hasK l rv = false) :
    Calls Tryd.prog 17 #[pz g, .string rv] w fun e w' => e = .returned (.int .i64 6) ∧ Grow.G w w' := by
  obtain ⟨s, n, ⟨hz, hn⟩, hm⟩ := mark_of rv
  have e1 := findG_all h.ok hm
  have e2 := fK_at (p := allR) (v := cfgV) h.ok (s := s) (n := n) (by unfold maxLen; omega) hn
  rw [e1, findK_none hf] at e2
  have hg := h.hb.lt
  have MO := Lib.hid (fun w => markOf_at rv s n w hs hm)
  have GV := Lib.hid (fun (w' : World) (q : Grow.G w w') => getM_any g 0 ma _ (fK allR cfgV l) s n ⟨#[]⟩ 0 0 0 0 0 false w' (cell_later q (Blk.at (cs := [.map ma, .map mt, .map pa, .map pt]) (k := 0) h.hb rfl)) (Nat.lt_of_lt_of_le hg q.size) (h.m1.grow q) (by unfold maxLen; omega) hn
    (by rw [e2]; rfl) (by rw [e2]; rfl))
  clear e1 e2 h hm hz hn hf
  have CS : (Tryd.prog.info? 75).map (·.size) = some 2 := by kernel_rfl
  go_enter Tryd.func17, Tryd.ntmps17
  go_wp2_with fail
  refine (MO.out _).mono ?_
  rintro e wn1 ⟨rfl, hb1⟩
  have HM := Lib.hid ((Mem.nil w).grow hb1)
  clear hb1
  go_wp2_with ((refine Mem.storeAll 0 (t := 75) rfl rfl rfl rfl (n := 2) (by kernel_rfl) (Mem.alloc' HM.out _ _ rfl) rfl rfl rfl rfl ?_; intro W2 HMm CW2))
  simp only [K0, K1, L1, L2, K2, K3, K4, K5, K6, K7, Nat.reduceAdd, Nat.reduceSub] at HMm
  replace HM := Lib.hid HMm
  clear HMm
  refine Stay.go ?_
  have hlt0 := HM.out.lt (i := 0) rfl
  go_wp2_with fail
  refine Evo2.start' (ℓ := none) (S := Chg (fun j => W2.heap.size ≤ j)) (E := Grow.G) (by kernel_rfl) ⟨Chg.pre _, by decide +kernel, (by intro c a d v w h; cases d <;> exact h), by decide +kernel⟩ (fun ok => ?_)
  refine Evo2.va ok 0 _ _ ?_
  refine Evo2.va ok 1 _ _ ?_
  refine Evo2.va ok 2 _ _ ?_
  first | (refine Evo2.val ok 3 ?_ ?_ ?_; rotate_left; (focus (intro w' hg; refine Box.exec_loadAll ?_ Tryd.underlying75 CS ((HM.out.blk (i := 0) rfl).chg (Chg.trans (Chg.refl (fun j => W2.heap.size ≤ j) _) hg) (by omega)) ?_; (all_goals (first | exact ⟨rfl, rfl⟩ | rfl)))); simp only [Act.put, L0, L1, L2]) | (refine Evo2.va ok 3 _ _ ?_)
  (refine Evo2.cal ok 4 ?_ 34 ?_ ?_ ?_ ?_; rotate_left 2; (focus (intro w'; go_simp <;> with_reducible rfl)); (focus (intro w' g'; with_reducible exact GV.out w' (Grow.G.trans HM.out.below ((Chg.trans (Chg.refl (fun j => W2.heap.size ≤ j) _) g').toGrow (fun j hj (h : W2.heap.size ≤ j) => by omega))))); simp only [Act.put, L0, L1, L2])
  refine Evo2.va ok 5 _ _ ?_
  refine Evo2.va ok 6 _ _ ?_
  refine Evo2.va ok 7 _ _ ?_
  refine Evo2.all [8] (by decide +kernel) rfl ?_
  intro wp1 gp1 iq hq
  simp only [List.mem_cons, List.mem_nil_iff, or_false] at hq
  have AP1 := Chg.trans (Chg.refl (fun j => W2.heap.size ≤ j) _) (Chg.grow gp1)
  subst hq
  refine Evo2.runs (by rfl) (by rfl) (fun K' hK' => ?_)
  go_simp
  (try (simp only [Evo.after_value, Evo.after_skip]))
  refine hK'.out _ _ ?_
  clear hK'
  simp only [Act.put, L0, L1, L2]
  refine ⟨.inr (Chg.alloc (Chg.refl _ _) _), ?_⟩
  generalize hG1 : World.alloc wp1 _ = wg1
  have GG1 : Grow.G wp1 wg1 := hG1 ▸ Grow.G.alloc (Grow.G.refl _) _
  have NC1 := (congrArg (fun W : World => W.heap[wp1.heap.size]?) hG1).symm.trans (MapKept.heap_alloc wp1 _).1
  have NL1 : wp1.heap.size < wg1.heap.size := by rw [← hG1]; simp
  clear hG1
  refine Evo2.all [9] (by decide +kernel) rfl ?_
  intro wp2 gp2 iq hq
  simp only [List.mem_cons, List.mem_nil_iff, or_false] at hq
  have AP2 := Chg.trans (Chg.trans AP1 (Chg.grow GG1)) (Chg.grow gp2)
  have NC1 := (gp2.block _ NL1).trans NC1
  have NL1 := Nat.lt_of_lt_of_le NL1 gp2.size
  subst hq
  refine upStoreAll (by rfl) (by rfl) rfl rfl rfl (n := 6) (by kernel_rfl) (NC1) rfl rfl rfl ?_
  intro wc2 BZ CW2
  have CH2 : Chg (fun j => W2.heap.size ≤ j) _ _ := CW2.mono (fun j _ e => by have e : j = _ := e; show _ ≤ j; have := AP1.size; omega)
  refine ⟨.inr CH2, ?_⟩
  simp only [Act.put, L0, L1, L2]
  refine Evo2.va ok 10 _ _ ?_
  refine Evo2.done (by decide +kernel) (fun wz gz => ?_)
  have AZ := Chg.trans (Chg.trans AP2 CH2) (Chg.grow gz)
  have GZ := AZ.toGrow (fun j hj (h : W2.heap.size ≤ j) => by omega)
  have GF := Lib.hid (Grow.G.trans HM.out.below GZ)
  clear AZ gz BZ GZ hlt0
  go_wp2_with fail
  go_ret
  exact ⟨rfl, GF.out⟩
set_option maxHeartbeats 4000000 in
theorem bprove_yes (g : Nat) (l : List Rv) (ma mt pa pt : Option Nat) (rv : ByteArray) (w : World) (h : BkIn w g l ma mt pa pt) (hl : l.length ≤ 1000000) (hs : rv.size ≤ 140737488351232) (hf : hasK l rv = true) :
    Calls Tryd.prog 17 #[pz g, .string rv] w fun e w' => e = .returned (.int .i64 0) ∧ StepB w w' g (setK l rv) ma mt pa pt := by
  obtain ⟨s, n, hm, hr, he⟩ := hasK_rev h.ok hf
  obtain ⟨z1, z2⟩ := rev_bd hr
  have e1 := findG_all h.ok (.inl hm)
  have e2 := fK_at (p := allR) (v := cfgV) h.ok (s := s) (n := n) z1 z2
  obtain ⟨r, hr'⟩ := Option.isSome_iff_exists.1 (show (findK l rv).isSome = true from hf)
  rw [e1, hr'] at e2
  have hg := h.hb.lt
  obtain ⟨nm, gn, ⟨d1, d2, d3, d4, d5, d6⟩, pr⟩ := r
  have MO := Lib.hid (fun w => markOf_at rv s n w hs (.inl hm))
  have GV := Lib.hid (fun (w' : World) (q : Grow.G w w') => getM_any g 0 ma _ (fK allR cfgV l) s n d1 d2 d3 d4 d5 d6 true w' (cell_later q (Blk.at (cs := [.map ma, .map mt, .map pa, .map pt]) (k := 0) h.hb rfl)) (Nat.lt_of_lt_of_le hg q.size) (h.m1.grow q) z1 z2
    (by rw [e2]; rfl) (by rw [e2]; rfl))
  have PA := Lib.hid (fun (w' : World) (q : Grow.G w w') => padd_any g l ma mt pa pt s n w' (h.grow q) hl hr (he ▸ hf))
  rw [← he] at PA
  generalize (!prvK l rv) = bo at PA
  have FL := Lib.hid h.lt
  clear e1 e2 h hm hf hr' he hr z1 z2
  generalize setK l rv = l' at *
  have CS : (Tryd.prog.info? 75).map (·.size) = some 2 := by kernel_rfl
  go_enter Tryd.func17, Tryd.ntmps17
  go_wp2_with fail
  refine (MO.out _).mono ?_
  rintro e wn1 ⟨rfl, hb1⟩
  have hsz1 := hb1.size
  have HM := Lib.hid ((Mem.nil w).grow hb1)
  clear hb1
  go_wp2_with ((refine Mem.storeAll 0 (t := 75) rfl rfl rfl rfl (n := 2) (by kernel_rfl) (Mem.alloc' HM.out _ _ rfl) rfl rfl rfl rfl ?_; intro W2 HMm CW2))
  simp only [K0, K1, L1, L2, K2, K3, K4, K5, K6, K7, Nat.reduceAdd, Nat.reduceSub] at HMm
  replace HM := Lib.hid HMm
  clear HMm
  refine Stay.go ?_
  have hlt0 := HM.out.lt (i := 0) rfl
  go_wp2_with fail
  refine Evo2.start' (ℓ := none) (S := Chg (fun j => W2.heap.size ≤ j)) (E := Grow.G) (by kernel_rfl) ⟨Chg.pre _, by decide +kernel, (by intro c a d v w h; cases d <;> exact h), by decide +kernel⟩ (fun ok => ?_)
  refine Evo2.va ok 0 _ _ ?_
  refine Evo2.va ok 1 _ _ ?_
  refine Evo2.va ok 2 _ _ ?_
  first | (refine Evo2.val ok 3 ?_ ?_ ?_; rotate_left; (focus (intro w' hg; refine Box.exec_loadAll ?_ Tryd.underlying75 CS ((HM.out.blk (i := 0) rfl).chg (Chg.trans (Chg.refl (fun j => W2.heap.size ≤ j) _) hg) (by omega)) ?_; (all_goals (first | exact ⟨rfl, rfl⟩ | rfl)))); simp only [Act.put, L0, L1, L2]) | (refine Evo2.va ok 3 _ _ ?_)
  (refine Evo2.cal ok 4 ?_ 34 ?_ ?_ ?_ ?_; rotate_left 2; (focus (intro w'; go_simp <;> with_reducible rfl)); (focus (intro w' g'; with_reducible exact GV.out w' (Grow.G.trans HM.out.below ((Chg.trans (Chg.refl (fun j => W2.heap.size ≤ j) _) g').toGrow (fun j hj (h : W2.heap.size ≤ j) => by omega))))); simp only [Act.put, L0, L1, L2])
  refine Evo2.va ok 5 _ _ ?_
  refine Evo2.va ok 6 _ _ ?_
  refine Evo2.va ok 7 _ _ ?_
  refine Evo2.all [8] (by decide +kernel) rfl ?_
  intro wp1 gp1 iq hq
  simp only [List.mem_cons, List.mem_nil_iff, or_false] at hq
  have AP1 := Chg.trans (Chg.refl (fun j => W2.heap.size ≤ j) _) (Chg.grow gp1)
  subst hq
  refine Evo2.runs (by rfl) (by rfl) (fun K' hK' => ?_)
  go_simp
  (try (simp only [Evo.after_value, Evo.after_skip]))
  refine hK'.out _ _ ?_
  clear hK'
  simp only [Act.put, L0, L1, L2]
  refine ⟨.inr (Chg.alloc (Chg.refl _ _) _), ?_⟩
  generalize hG1 : World.alloc wp1 _ = wg1
  have GG1 : Grow.G wp1 wg1 := hG1 ▸ Grow.G.alloc (Grow.G.refl _) _
  have NC1 := (congrArg (fun W : World => W.heap[wp1.heap.size]?) hG1).symm.trans (MapKept.heap_alloc wp1 _).1
  have NL1 : wp1.heap.size < wg1.heap.size := by rw [← hG1]; simp
  clear hG1
  refine Evo2.all [9] (by decide +kernel) rfl ?_
  intro wp2 gp2 iq hq
  simp only [List.mem_cons, List.mem_nil_iff, or_false] at hq
  have AP2 := Chg.trans (Chg.trans AP1 (Chg.grow GG1)) (Chg.grow gp2)
  have NC1 := (gp2.block _ NL1).trans NC1
  have NL1 := Nat.lt_of_lt_of_le NL1 gp2.size
  subst hq
  refine upStoreAll (by rfl) (by rfl) rfl rfl rfl (n := 6) (by kernel_rfl) (NC1) rfl rfl rfl ?_
  intro wc2 BZ CW2
  have CH2 : Chg (fun j => W2.heap.size ≤ j) _ _ := CW2.mono (fun j _ e => by have e : j = _ := e; show _ ≤ j; have := AP1.size; omega)
  refine ⟨.inr CH2, ?_⟩
  simp only [Act.put, L0, L1, L2]
  refine Evo2.va ok 10 _ _ ?_
  refine Evo2.done (by decide +kernel) (fun wz gz => ?_)
  have AZ := Chg.trans (Chg.trans AP2 CH2) (Chg.grow gz)
  have GZ := AZ.toGrow (fun j hj (h : W2.heap.size ≤ j) => by omega)
  have HM := Lib.hid (HM.out.grow GZ)
  have hnf : Hid (¬ BkFt g ma mt pa pt wn1.heap.size) := Lib.hid (fun q => by have := FL.out _ q; omega)
  clear AZ gz BZ GZ hlt0
  go_wp2_with fail
  refine Evo2.start' (ℓ := none) (S := Chg (BkFt g ma mt pa pt)) (E := Grow.G) (by kernel_rfl) ⟨Chg.pre _, by decide +kernel, (by intro c a d v w h; cases d <;> exact h), by decide +kernel⟩ (fun ok => ?_)
  refine Evo2.va ok 0 _ _ ?_
  refine Evo2.va ok 1 _ _ ?_
  refine Evo2.va ok 2 _ _ ?_
  first | (refine Evo2.val ok 3 ?_ ?_ ?_; rotate_left; (focus (intro w' hg; refine Box.exec_loadAll ?_ Tryd.underlying75 CS ((HM.out.blk (i := 0) rfl).chg (Chg.trans (Chg.refl (BkFt g ma mt pa pt) _) hg) hnf.out) ?_; (all_goals (first | exact ⟨rfl, rfl⟩ | rfl)))); simp only [Act.put, L0, L1, L2]) | (refine Evo2.va ok 3 _ _ ?_)
  refine Evo2.va ok 4 _ _ ?_
  refine Evo2.all [5] (by decide +kernel) rfl ?_
  intro wp1 gp1 iq hq
  simp only [List.mem_cons, List.mem_nil_iff, or_false] at hq
  have AP1 := Chg.trans (Chg.refl (BkFt g ma mt pa pt) _) (Chg.grow gp1)
  subst hq
  refine Evo2.enters 35 _ (by rfl) (by rfl) (by go_simp; exact ⟨rfl, rfl⟩) ?_
  refine (PA.out wp1 (Grow.G.trans HM.out.below gp1)).mono ?_
  rintro e wc1 ⟨rfl, ST⟩; obtain ⟨_, _, _, _, _, CH1, _⟩ := id ST
  refine ⟨_, rfl, .inr CH1, ?_⟩
  have AC1 := Chg.trans AP1 CH1
  simp only [Act.put, L0, L1, L2]
  refine Evo2.done (by decide +kernel) (fun wz gz => ?_)
  have AZ := Chg.trans AC1 (Chg.grow gz)
  have SF := Lib.hid ((ST.behind gz).ahead (Grow.G.trans HM.out.below gp1))
  clear AZ gz ST CH1
  go_wp2_with fail
  go_ret
  exact ⟨rfl, SF.out⟩
set_option maxHeartbeats 4000000 in
theorem bstamp_any (g : Nat) (l : List Rv) (ma mt pa pt : Option Nat) (c : Cfg) (n : Int) (w : World) (h : BkIn w g l ma mt pa pt) (hl : l.length ≤ 1000000) (hc : c.err = 0) (hn : 1 ≤ n ∧ n ≤ 999999) (ht : Tab w) :
    Calls Tryd.prog 15 #[pz g, c.v, .int .i64 n] w fun e w' => e = .returned (.tuple #[.string (revS c.nm n), .bool (newK l c n)]) ∧ StepB w w' g (putK l c n) ma mt pa pt := by
  obtain ⟨hnm, h1, h2, h3, h4, h5⟩ := cfgerr_zero hc
  have hr : revP c.nm n := ⟨hnm, hn⟩
  have hwf : c.wf := by unfold Cfg.wf wf64; omega
  have hsz := nameB_size hnm
  obtain ⟨z1, z2⟩ := rev_bd hr
  have SA := Lib.hid (fun (w' : World) (q : Grow.G w w') => sadd_any g l ma mt pa pt c n w' (h.grow q) hl hr hwf)
  have RV := Lib.hid (fun (w' : World) (q : Grow.G w w') => rev_any c.nm n w' z1 z2.1 z2.2 (ht.below q))
  have CF := Lib.hid (fun w => cfg_eq c 0 w z1 hc)
  have OC := Lib.hid (fun w => own12_any c w (by omega))
  have FL := Lib.hid h.lt
  have hne : revS c.nm n ≠ ⟨#[]⟩ := by
    rw [revS_yes hr]
    intro e
    have := congrArg ByteArray.size e
    rw [ByteArray.size_append, ByteArray.size_append] at this
    have h1 : (⟨#[45]⟩ : ByteArray).size = 1 := rfl
    have h0 : (⟨#[]⟩ : ByteArray).size = 0 := rfl
    omega
  have d1 : (revS c.nm n).toList.isEmpty = false := by
    cases q : (revS c.nm n).toList with
    | nil => exact absurd (eqS_iff.1 (by rw [q]; decide +kernel)) hne
    | cons _ _ => rfl
  clear h hc hn hr hwf hne h1 h2 h3 h4 h5 hnm ht
  generalize newK l c n = bo at *
  generalize putK l c n = l' at *
  obtain ⟨c1, c2, c3, c4, c5, c6⟩ := c
  unfold Cfg.v at *
  dsimp only at *
  generalize revS c1 n = st at *
  have CE : (Tryd.prog.info? 33).map (·.size) = some 6 := by kernel_rfl
  go_enter Tryd.func15, Tryd.ntmps15
  go_wp2_with fail
  refine (RV.out _ (Grow.G.alloc (Grow.G.refl _) _)).mono ?_
  rintro e w1 ⟨rfl, hb1⟩
  have HM1 := ((Mem.nil w).alloc' [.string c1, .int .i64 c2, .int .i64 c3, .int .i64 c4, .int .i64 c5, .int .i64 c6] 33 rfl).grow hb1
  simp only [K0, K1, L1, L2, K2, K3, K4, K5, K6, K7, Nat.reduceAdd, Nat.reduceSub] at HM1
  have HM := Lib.hid HM1
  clear HM1 hb1
  go_wp2_with ((with_reducible refine Mem.isList ?_; refine loadAllW 0 (t := 33) rfl rfl rfl Tryd.underlying33 (n := 6) (by kernel_rfl) HM.out rfl rfl ?_))
  refine (CF.out _).mono ?_
  rintro e w2 ⟨rfl, hb2⟩
  have HM := Lib.hid (HM.out.grow hb2)
  clear hb2
  go_wp2_with ((refine Mem.loadAll 0 (t := 33) rfl rfl rfl Tryd.underlying33 (n := 6) (by kernel_rfl) HM.out rfl rfl ?_))
  refine (OC.out _).mono ?_
  rintro e w3 ⟨rfl, hb3⟩
  have HM := Lib.hid (HM.out.grow hb3)
  clear hb3
  go_wp2_with ((refine Mem.storeAll 0 (t := 33) rfl rfl rfl rfl (n := 6) (by kernel_rfl) HM.out rfl rfl rfl rfl ?_; intro W4 HMm CW4))
  simp only [K0, K1, L1, L2, K2, K3, K4, K5, K6, K7, Nat.reduceAdd, Nat.reduceSub] at HMm
  replace HM := Lib.hid HMm
  clear HMm
  refine Stay.go ?_
  have hnf : Hid (¬ BkFt g ma mt pa pt w.heap.size) := Lib.hid (fun q => by have := FL.out _ q; omega)
  have KC := Lib.hid (fun (w' : World) (h : Chg (BkFt g ma mt pa pt) W4 w') => (⟨h.cell (HM.out.cell (i := 0) (o := 0) rfl rfl) hnf.out, trivial⟩ : w'.cell? ⟨w.heap.size, 0, none⟩ = some (.string c1) ∧ True))
  go_wp2_with fail
  refine Evo2.start' (ℓ := none) (S := Chg (BkFt g ma mt pa pt)) (E := Grow.G) (by kernel_rfl) ⟨Chg.pre _, by decide +kernel, (by intro c a d v w h; cases d <;> exact h), by decide +kernel⟩ (fun ok => ?_)
  refine Evo2.va ok 0 _ _ ?_
  refine Evo2.va ok 1 _ _ ?_
  refine Evo2.va ok 2 _ _ ?_
  refine Evo2.va ok 3 _ _ ?_
  refine Evo2.va ok 4 _ _ ?_
  first | (refine Evo2.vl ok 5 KC.out (Chg.refl (BkFt g ma mt pa pt) _) _ _ ?_) | (refine Evo2.va ok 5 _ _ ?_)
  refine Evo2.va ok 6 _ _ ?_
  refine Evo2.va ok 7 _ _ ?_
  first | (refine Evo2.val ok 8 ?_ ?_ ?_; rotate_left; (focus (intro w' hg; refine Box.exec_loadAll ?_ Tryd.underlying33 CE ((HM.out.blk (i := 0) rfl).chg (Chg.trans (Chg.refl (BkFt g ma mt pa pt) _) hg) hnf.out) ?_; (all_goals (first | exact ⟨rfl, rfl⟩ | rfl)))); simp only [Act.put, L0, L1, L2]) | (refine Evo2.vl ok 8 KC.out (Chg.refl (BkFt g ma mt pa pt) _) _ _ ?_) | (refine Evo2.va ok 8 _ _ ?_)
  refine Evo2.all [9] (by decide +kernel) rfl ?_
  intro wp1 gp1 iq hq
  simp only [List.mem_cons, List.mem_nil_iff, or_false] at hq
  have AP1 := Chg.trans (Chg.refl (BkFt g ma mt pa pt) _) (Chg.grow gp1)
  subst hq
  refine Evo2.enters 31 _ (by rfl) (by rfl) (by go_simp; exact ⟨rfl, rfl⟩) ?_
  refine (SA.out wp1 (Grow.G.trans HM.out.below gp1)).mono ?_
  rintro e wc1 ⟨rfl, ST⟩; obtain ⟨_, _, _, _, _, CH1, _⟩ := id ST
  refine ⟨_, rfl, .inr CH1, ?_⟩
  have AC1 := Chg.trans AP1 CH1
  simp only [Act.put, L0, L1, L2]
  refine Evo2.va ok 10 _ _ ?_
  refine Evo2.va ok 11 _ _ ?_
  refine Evo2.done (by decide +kernel) (fun wz gz => ?_)
  have AZ := Chg.trans AC1 (Chg.grow gz)
  have SF := Lib.hid ((ST.behind gz).ahead (Grow.G.trans HM.out.below gp1))
  clear AZ gz ST CH1
  go_wp2_with fail
  go_returns
  exact ⟨rfl, SF.out⟩
end Go.Proofs.YtjcdmnogmpjkkaaDoor

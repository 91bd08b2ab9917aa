/- My own texts ShNames, ShTop, ShHold, laid in one file. -/
import Derived.Test.YtlnffdkaleapbaaGreatZ34
import Derived.Test.YtlnffdkaleapbaaGreatZ30
import Derived.Test.YtlnffdkaleapbaaGreatZ31
import Derived.Test.YtlnffdkaleapbaaGreatZ2
import Derived.Test.YtlnffdkaleapbaaGreatZ5
import Derived.Test.YtlnffdkaleapbaaGreatZ29

/- shelf's Names. -/
namespace Go.Proofs.YtlnffdkaleapbaaGreat
set_option maxRecDepth 100000
set_option linter.unusedVariables false
set_option linter.unusedSimpArgs false
set_option linter.unnecessarySimpa false
open Go.RowKit Go.MapV Go.Maps
attribute [local go_sem] Oper.semAt_some

theorem zip_one' (p : Tmp) (v : Value) (t : Array Value) : ((#[p] : Array Tmp).zip #[v]).foldl (fun t (p, v) => t.setIfInBounds p v) t = t.setIfInBounds p v := by simp [← Array.foldl_toList, Array.toList_zip]
/-- The names that are being told: the list's variable, its row, which is not the iterator's. -/
def NamI (w : World) (vb : Nat) (p : Nat → Prop) (pre : List ByteArray) (W : World) : Prop :=
  ∃ v, Blk W vb #[v] 49 ∧ W.ownsRow w.heap.size 9 1 v pre.length (pre.map Value.string) ∧ (∀ k, p k → v.ownBlock ≠ some k ∧ k ≠ vb) ∧ Below w.heap.size w W

theorem methC (g n : Nat) (w : World) : (method (n + 2) 75 (.pointer (some ⟨g, 1, none⟩)) "damper/shelf.names").run Tryz.prog w = .ok (102, .pointer (some ⟨g, 1, none⟩)) w := by kernel_rfl
theorem namesC_any (g : Nat) (w : World) : Calls Tryz.prog 102 #[.pointer (some ⟨g, 1, none⟩)] w fun e w' => e = .returned (.func (.func 103) #[] #[pt w.heap.size]) ∧ w' = w.alloc (.cells #[.pointer (some ⟨g, 1, none⟩)] 75) := by
  go_enter Tryz.func102, Tryz.ntmps102
  go_wp2_with fail
  go_returns
  exact ⟨rfl, rfl⟩
set_option maxHeartbeats 4000000 in
theorem snamesC (g : Nat) (F : Nat → Prop) (s : Sh) (w : World) (hS : ShAt w g F s) (hn : s.n < 1099511627776) :
    Calls Tryz.prog 17 #[pt g, .int .i64 1] w fun e w' => ∃ v L, e = .returned v ∧ NamesOf (s.names 1) L ∧ L.length ≤ 1099511627776 ∧ w'.ownsRow w.heap.size 9 1 v L.length (L.map Value.string) ∧ Grow.G w w' := by
  obtain ⟨mc, mr, mg, fr, hI⟩ := hS
  have HI := Lib.hid hI
  have RO := Lib.hid (rowOf_C g w)
  have hgl := hI.hb.lt
  have HNM : Hid (∀ x, isOC (objC s) x = s.names 1 x) := Lib.hid (fun x => by
    unfold isOC objC Sh.names
    rw [if_pos rfl, Option.isSome_map])
  have HSZ : Hid (∀ x, isOC (objC s) x = true → x.size ≤ 16) := Lib.hid (fun x hx => by
    unfold isOC objC at hx
    rw [Option.isSome_map] at hx
    obtain ⟨⟨c, v⟩, h⟩ := Option.isSome_iff_exists.1 hx
    obtain ⟨h1, h2, _⟩ := hI.ok.c x c v h
    rw [← h1]
    exact (cfg_small h2).1)
  clear hI
  have HMT := methC g
  refine (callsIn_wide (n := 0)).1 ?_
  refine callsIn_of_wp_marks Tryz.func17 rfl trivial ?_
  simp only [Tryz.ntmps17, List.size_toArray, List.length_cons, List.length_nil, Nat.reduceAdd, Nat.reduceSub, Array.replicate_succ, Array.replicate_zero, List.push_toArray, List.append_toArray, List.nil_append, List.cons_append]
  gi_wp2_with fail
  refine ⟨trivial, rfl, (callsIn_wide.2 RO.out).mono ?_⟩
  rintro e w1 ⟨rfl, rfl⟩
  gi_wp2_with fail
  refine ⟨trivial, rfl, (callsIn_wide.2 (namesC_any g _)).mono ?_⟩
  rintro e w2 ⟨rfl, hw2⟩
  rw [World.size_alloc]
  have L1 : Blk w2 w.heap.size #[.slice none 0 0] 49 := by rw [hw2]; exact (Blk.new w _ _).alloc _
  have K1 : Blk w2 (w.heap.size + 1) #[.pointer (some ⟨g, 1, none⟩)] 75 := by
    have := Blk.new (w.alloc (.cells #[.slice none 0 0] 49)) #[.pointer (some ⟨g, 1, none⟩)] 75
    rw [World.size_alloc, ← hw2] at this; exact this
  have GA : Grow.G w w2 := by rw [hw2]; exact Grow.G.alloc (Grow.G.alloc (Grow.G.refl _) _) _
  have I2 := HI.out.grow GA
  have SQ := namesC_seq (w.heap.size + 1) g mc s.n (objC s) w2 K1 (evd I2.hb (i := 1) rfl) I2.hc (by omega)
  have hw1 : w.heap.size < w2.heap.size := L1.lt
  clear hw2 I2 K1 HMT RO
  gi_wp2_with fail
  refine Iter.rangeP (gf := 103) (lb := #[pt (w.heap.size + 1)]) (encs := fun x : ByteArray => #[.string x]) (Ok := fun pre x _ => isOC (objC s) x = true ∧ pre.length < 1099511627776) (S := fun xs => NamesOf (isOC (objC s)) xs) rfl (enters_of Tryz.func103 (by kernel_rfl) rfl) SQ (Grow.G.refl _) (fun _ => rfl) (fun s x A B h b => h)
    (fun p pre W => NamI w w.heap.size p pre W ∧ pre.length ≤ 1099511627776) (fun _ _ _ _ => False) ?hI (fun _ _ _ _ _ h _ => h) ?h0 ?round ?done (fun _ _ _ _ h => h.elim)
  case hI =>
    rintro p s A B ⟨⟨v, hv, ho, hp, hB⟩, hl⟩ hbk
    exact ⟨⟨v, hv.book hbk, own_book' ho hbk, hp, hB.trans (hbk.below.mono (by have := hB.size; omega))⟩, hl⟩
  case h0 =>
    rintro p W' hg' hpv
    exact ⟨⟨_, L1.grow hg', ⟨rfl, .inl ⟨rfl, rfl⟩⟩, fun k hk => ⟨fun e => (by cases e), (by have := (hpv k hk).1; omega)⟩, GA.trans hg'⟩, by simp⟩
  case round =>
    rintro p l pre x W hl2 ⟨⟨v, hv, ho, hp, hB⟩, hpl⟩ ⟨hx, hpl2⟩ hpv
    simp only [zip_one', List.setIfInBounds_toArray, List.set_cons_zero, List.set_cons_succ]
    gi_wp2_with fail
    refine ⟨Grow.G.refl _, fun W₂ hbk hok => ?_⟩
    have V2 := hv.book hbk
    have O2 := own_book' ho hbk
    have BW := hB.trans (hbk.below.mono (by have := hB.size; omega))
    have NV : ¬ v.ownBlock = some w.heap.size := own_blk_types O2 V2 (by decide)
    have hxs := HSZ.out x hx
    have CLN := Lib.hid (fun w => clone_any x w (by omega))
    have KC := Lib.hid (fun (w' : World) (h : Chg (fun k => v.ownBlock = some k) W₂ w') => (⟨h.cell (evd V2 (i := 0) rfl) NV, trivial⟩ : w'.cell? ⟨w.heap.size, 0, none⟩ = some v ∧ True))
    obtain ⟨i0, hi, hz0, hz1, hz2⟩ := info_parts infoS
    have HIN := Lib.hid hi; have HZ0 := Lib.hid hz0; have HZ1 := Lib.hid hz1; have HZ2 := Lib.hid hz2
    have HO : Hid (W₂.ownsRow w.heap.size 9 1 v pre.length (pre.map Value.string)) := Lib.hid O2
    have H := Lib.hid (And.intro V2 (And.intro BW (And.intro NV hp)))
    have HPV := Lib.hid (hpv.book hbk)
    have sW2 := BW.size
    clear V2 O2 BW hbk hok hv hp hB ho NV hi hz0 hz1 hz2
    gi_wp2_with fail
    refine Round.region (ℓ := some 5) (S := Chg (fun k => v.ownBlock = some k)) (E := Grow.G) (by kernel_rfl) (by decide +kernel) ⟨Chg.pre _, by decide +kernel, (by intro c a d v w h; cases d <;> exact h), by decide +kernel⟩ (fun ok => ?_)
    first | (refine Evo2.vl ok 0 KC.out (Chg.refl (fun k => v.ownBlock = some k) _) _ _ ?_) | (refine Evo2.va ok 0 _ _ ?_)
    refine Evo2.va ok 1 _ _ ?_
    (refine Evo2.cal ok 2 ?_ 39 ?_ ?_ ?_ ?_; rotate_left 2; (focus (intro w'; go_simp <;> with_reducible rfl)); (focus (intro w' g'; with_reducible exact CLN.out _)); simp only [Act.put, L0, L1, L2])
    refine Evo2.all [3] (by decide +kernel) rfl ?_
    intro wp1 gp1 iq hq
    simp only [List.mem_cons, List.mem_nil_iff, or_false] at hq
    have AP1 := Chg.trans (Chg.refl (fun k => v.ownBlock = some k) _) (Chg.grow gp1)
    subst hq
    refine Evo2.runs (by rfl) (by rfl) (fun K' hK' => ?_)
    (try obtain ⟨q1, q2⟩ := KC.out wp1 AP1)
    go_simp
    (try (simp only [Evo.after_value, Evo.after_skip]))
    refine hK'.out _ _ ?_
    clear hK'
    simp only [Act.put, L0, L1, L2]
    (try clear q1 q2)
    refine ⟨.inr (Chg.alloc (Chg.refl _ _) _), ?_⟩
    generalize hG1 : World.alloc wp1 _ = wg1
    have GG1 : Grow.G wp1 wg1 := hG1 ▸ Grow.G.alloc (Grow.G.refl _) _
    have NC1 := (congrArg (fun W : World => W.heap[wp1.heap.size]?) hG1).symm.trans (MapKept.heap_alloc wp1 _).1
    have NL1 : wp1.heap.size < wg1.heap.size := by rw [← hG1]; simp
    clear hG1
    refine Evo2.all [4] (by decide +kernel) rfl ?_
    intro wp2 gp2 iq hq
    simp only [List.mem_cons, List.mem_nil_iff, or_false] at hq
    have AP2 := Chg.trans (Chg.trans AP1 (Chg.grow GG1)) (Chg.grow gp2)
    have NC1 := (gp2.block _ NL1).trans NC1
    have NL1 := Nat.lt_of_lt_of_le NL1 gp2.size
    subst hq
    refine Fr.own_fr (by rfl) (by rfl) (Operand.tmp 20) (Operand.tmp 23) 49 (by rfl) w.heap.size 9 i0 (.string ⟨#[]⟩) 1 16 Tryz.underlying49 HIN.out HZ0.out HZ1.out HZ2.out rfl (by decide) _ _ _ (by rfl) (own_later HO.out ?_) _ 1 1 [.string x] (by rfl) rfl (news_blk NC1) ?_ ?_ ?_ ?_ ?_ 
    · exact gp1.trans (GG1.trans gp2) 
    · exact one1 rfl 
    · unfold maxLen; omega 
    · omega 
    · have := AP2.size; omega
    intro vw2 wc2 OW2 fr2
    obtain ⟨g9, c9, rfl, hg9⟩ := own_some OW2 (by omega); have CH2 : Chg (fun k => v.ownBlock = some k) _ _ := Chg.ofFr fr2
    refine ⟨.inr CH2, ?_⟩
    have AC2 := Chg.trans AP2 CH2
    simp only [Act.put, L0, L1, L2]
    refine Evo2.all [5] (by decide +kernel) rfl ?_
    intro wp3 gp3 iq hq
    simp only [List.mem_cons, List.mem_nil_iff, or_false] at hq
    have AP3 := Chg.trans AC2 (Chg.grow gp3)
    subst hq
    refine Evo2.runs (by rfl) (by rfl) (fun K' hK' => ?_)
    (try obtain ⟨q1, q2⟩ := KC.out wp3 AP3)
    have BQ := H.out.1.chg AP3 H.out.2.2.1; have gl := BQ.lt; have e0 := evd BQ (i := 0) rfl; have f0 := BQ.free 0; clear BQ
    go_simp
    (try (simp only [Evo.after_value, Evo.after_skip]))
    refine hK'.out _ _ ?_
    clear hK'
    simp only [Act.put, L0, L1, L2]
    (try clear gl e0 f0)
    (try clear q1 q2)
    refine ⟨.inl (by first | rfl | trivial), ?_⟩
    refine Evo2.done (by decide +kernel) (fun wz gz => ?_)
    obtain ⟨V2, BW, NV, hp⟩ := H.out
    have V4 := V2.chg AP3 NV
    have CS : Chg (fun k => k = w.heap.size) wp3 (wp3.setCell ⟨w.heap.size, 0, none⟩ (.slice (some ⟨g9, 0, none⟩) (pre.length + 1) c9)) := Chg.setCell (G := fun k => k = w.heap.size) (Chg.refl _ _) (fun _ => rfl) _ _
    have VZ := (V4.set 0 (.slice (some ⟨g9, 0, none⟩) (pre.length + 1) c9)).grow gz
    have RW3 := own_later OW2 gp3
    have RZ := own_later (CS.own RW3 (fun k hk q => by have q : k = w.heap.size := q; subst q; exact own_blk_types RW3 V4 (by decide) hk)) gz
    have hrow : ∀ k, v.ownBlock = some k → w.heap.size ≤ k := fun k hk => (HO.out.lt k hk).1
    have RT : Iter.Rest w2.heap.size W₂ wz := (AP3.rest (fun k _ q o ho => own_cells' HO.out q ho)).trans ((Iter.Rest.setCell _ _ _).trans (Iter.Rest.grow gz))
    have BZ := (BW.trans (AP3.below BW.size (fun k hk q => by have := hrow k q; omega))).trans ((CS.below (B := w.heap.size) (by have := AP3.size; omega) (fun k hk q => by have q : k = w.heap.size := q; omega)).trans (Below.mono gz (by have := AP3.size; have := CS.size; omega)))
    have PLT : ∀ k, p k → k < W₂.heap.size := fun k hk => by
      obtain ⟨_, o, ho, _⟩ := HPV.out k hk
      exact (Array.getElem?_eq_some_iff.1 ho).1
    have PS : ∀ k, p k → wz.heap[k]? = W₂.heap[k]? := fun k hk => by
      have h1 := PLT k hk
      have h2 := hp k hk
      rw [gz.block k (by have := AP3.size; have := CS.size; omega), CS.block k (by have := AP3.size; omega) h2.2, AP3.block k h1 (fun q => h2.1 q)]
    have PN : ∀ k, p k → (Value.slice (some ⟨g9, 0, none⟩) (pre.length + 1) c9).ownBlock ≠ some k ∧ k ≠ w.heap.size := fun k hk => by
      have h1 := PLT k hk
      have h2 := hp k hk
      exact ⟨fun e => (fr2.keep (by have := gp1.size; have := GG1.size; have := gp2.size; omega) (fun e => h2.1 e.symm)).2 e.symm, h2.2⟩
    have RES := Lib.hid (And.intro VZ (And.intro RZ (And.intro RT (And.intro BZ (And.intro PS PN)))))
    clear VZ RZ RT BZ PS PN PLT hrow RW3 CS V4 V2 BW NV hp gz gp1 gp2 gp3 GG1 AP1 AP2 AP3 CH2 OW2 fr2 NC1 NL1 ok
    dsimp only [Round.Calm]
    gi_wp2_with fail
    obtain ⟨q1, q2, q3, q4, q5, q6⟩ := RES.out
    refine ⟨q3, q5, ⟨_, q1, ?_, q6, q4⟩, by rw [List.length_append, List.length_singleton]; omega⟩
    rw [List.length_append, List.length_singleton, List.map_append]
    exact q2
  case done =>
    rintro p xs W hS ⟨⟨v, hv, ho, hp, hB⟩, hl⟩ hD
    have v0 := evd hv (i := 0) rfl
    have HP := Lib.hid ho
    have HB := Lib.hid hB
    have HDD := Lib.hid hD
    have HS := Lib.hid hS
    clear ho hB hv hD hS hp
    gi_wp2_with fail
    have sW := HB.out.size
    refine ⟨by simp, .inl ⟨_, _, rfl, run_takeDeferred HDD.out, ?_⟩⟩
    have BK : Iter.Book w.heap.size W (W.putObj w2.heap.size (.deferred none)) := Iter.Book.putObj _ HDD.out rfl (by omega)
    refine ⟨v, by simp [results, Tryz.results17, go_sem], v, xs, rfl, ⟨HS.out.1, fun x => (HS.out.2 x).trans (by rw [HNM.out])⟩, hl, own_book' HP.out BK, HB.out.trans (BK.below.mono (by omega))⟩

theorem methR (g n : Nat) (w : World) : (method (n + 2) 89 (.pointer (some ⟨g, 2, none⟩)) "damper/shelf.names").run Tryz.prog w = .ok (131, .pointer (some ⟨g, 2, none⟩)) w := by kernel_rfl
theorem namesR_any (g : Nat) (w : World) : Calls Tryz.prog 131 #[.pointer (some ⟨g, 2, none⟩)] w fun e w' => e = .returned (.func (.func 132) #[] #[pt w.heap.size]) ∧ w' = w.alloc (.cells #[.pointer (some ⟨g, 2, none⟩)] 89) := by
  go_enter Tryz.func131, Tryz.ntmps131
  go_wp2_with fail
  go_returns
  exact ⟨rfl, rfl⟩
set_option maxHeartbeats 4000000 in
theorem snamesR (g : Nat) (F : Nat → Prop) (s : Sh) (w : World) (hS : ShAt w g F s) (hn : s.n < 1099511627776) :
    Calls Tryz.prog 17 #[pt g, .int .i64 2] w fun e w' => ∃ v L, e = .returned v ∧ NamesOf (s.names 2) L ∧ L.length ≤ 1099511627776 ∧ w'.ownsRow w.heap.size 9 1 v L.length (L.map Value.string) ∧ Grow.G w w' := by
  obtain ⟨mc, mr, mg, fr, hI⟩ := hS
  have HI := Lib.hid hI
  have RO := Lib.hid (rowOf_R g w)
  have hgl := hI.hb.lt
  have HNM : Hid (∀ x, isOR (fr) x = s.names 2 x) := Lib.hid (fun x => by
    unfold isOR Sh.names
    rw [if_neg (by decide), if_pos rfl]
    rcases hI.ht x with ⟨h1, h2⟩ | ⟨r, v, b, cap, h1, h2, _⟩ <;> rw [h1, h2] <;> rfl)
  have HSZ : Hid (∀ x, isOR (fr) x = true → x.size ≤ 16) := Lib.hid (fun x hx => by
    unfold isOR at hx
    rcases hI.ht x with ⟨h1, h2⟩ | ⟨r, v, b, cap, h1, h2, _⟩
    · rw [h2] at hx; cases hx
    · obtain ⟨q1, q2, _⟩ := hI.ok.r x r v h1
      rw [← q1]
      exact (rt_small q2).1)
  clear hI
  have HMT := methR g
  refine (callsIn_wide (n := 0)).1 ?_
  refine callsIn_of_wp_marks Tryz.func17 rfl trivial ?_
  simp only [Tryz.ntmps17, List.size_toArray, List.length_cons, List.length_nil, Nat.reduceAdd, Nat.reduceSub, Array.replicate_succ, Array.replicate_zero, List.push_toArray, List.append_toArray, List.nil_append, List.cons_append]
  gi_wp2_with fail
  refine ⟨trivial, rfl, (callsIn_wide.2 RO.out).mono ?_⟩
  rintro e w1 ⟨rfl, rfl⟩
  gi_wp2_with fail
  refine ⟨trivial, rfl, (callsIn_wide.2 (namesR_any g _)).mono ?_⟩
  rintro e w2 ⟨rfl, hw2⟩
  rw [World.size_alloc]
  have L1 : Blk w2 w.heap.size #[.slice none 0 0] 49 := by rw [hw2]; exact (Blk.new w _ _).alloc _
  have K1 : Blk w2 (w.heap.size + 1) #[.pointer (some ⟨g, 2, none⟩)] 89 := by
    have := Blk.new (w.alloc (.cells #[.slice none 0 0] 49)) #[.pointer (some ⟨g, 2, none⟩)] 89
    rw [World.size_alloc, ← hw2] at this; exact this
  have GA : Grow.G w w2 := by rw [hw2]; exact Grow.G.alloc (Grow.G.alloc (Grow.G.refl _) _) _
  have I2 := HI.out.grow GA
  have SQ := namesR_seq (w.heap.size + 1) g mr s.n (fr) w2 K1 (evd I2.hb (i := 2) rfl) I2.hr (by omega)
  have hw1 : w.heap.size < w2.heap.size := L1.lt
  clear hw2 I2 K1 HMT RO
  gi_wp2_with fail
  refine Iter.rangeP (gf := 132) (lb := #[pt (w.heap.size + 1)]) (encs := fun x : ByteArray => #[.string x]) (Ok := fun pre x _ => isOR (fr) x = true ∧ pre.length < 1099511627776) (S := fun xs => NamesOf (isOR (fr)) xs) rfl (enters_of Tryz.func132 (by kernel_rfl) rfl) SQ (Grow.G.refl _) (fun _ => rfl) (fun s x A B h b => h)
    (fun p pre W => NamI w w.heap.size p pre W ∧ pre.length ≤ 1099511627776) (fun _ _ _ _ => False) ?hI (fun _ _ _ _ _ h _ => h) ?h0 ?round ?done (fun _ _ _ _ h => h.elim)
  case hI =>
    rintro p s A B ⟨⟨v, hv, ho, hp, hB⟩, hl⟩ hbk
    exact ⟨⟨v, hv.book hbk, own_book' ho hbk, hp, hB.trans (hbk.below.mono (by have := hB.size; omega))⟩, hl⟩
  case h0 =>
    rintro p W' hg' hpv
    exact ⟨⟨_, L1.grow hg', ⟨rfl, .inl ⟨rfl, rfl⟩⟩, fun k hk => ⟨fun e => (by cases e), (by have := (hpv k hk).1; omega)⟩, GA.trans hg'⟩, by simp⟩
  case round =>
    rintro p l pre x W hl2 ⟨⟨v, hv, ho, hp, hB⟩, hpl⟩ ⟨hx, hpl2⟩ hpv
    simp only [zip_one', List.setIfInBounds_toArray, List.set_cons_zero, List.set_cons_succ]
    gi_wp2_with fail
    refine ⟨Grow.G.refl _, fun W₂ hbk hok => ?_⟩
    have V2 := hv.book hbk
    have O2 := own_book' ho hbk
    have BW := hB.trans (hbk.below.mono (by have := hB.size; omega))
    have NV : ¬ v.ownBlock = some w.heap.size := own_blk_types O2 V2 (by decide)
    have hxs := HSZ.out x hx
    have CLN := Lib.hid (fun w => clone_any x w (by omega))
    have KC := Lib.hid (fun (w' : World) (h : Chg (fun k => v.ownBlock = some k) W₂ w') => (⟨h.cell (evd V2 (i := 0) rfl) NV, trivial⟩ : w'.cell? ⟨w.heap.size, 0, none⟩ = some v ∧ True))
    obtain ⟨i0, hi, hz0, hz1, hz2⟩ := info_parts infoS
    have HIN := Lib.hid hi; have HZ0 := Lib.hid hz0; have HZ1 := Lib.hid hz1; have HZ2 := Lib.hid hz2
    have HO : Hid (W₂.ownsRow w.heap.size 9 1 v pre.length (pre.map Value.string)) := Lib.hid O2
    have H := Lib.hid (And.intro V2 (And.intro BW (And.intro NV hp)))
    have HPV := Lib.hid (hpv.book hbk)
    have sW2 := BW.size
    clear V2 O2 BW hbk hok hv hp hB ho NV hi hz0 hz1 hz2
    gi_wp2_with fail
    refine Round.region (ℓ := some 5) (S := Chg (fun k => v.ownBlock = some k)) (E := Grow.G) (by kernel_rfl) (by decide +kernel) ⟨Chg.pre _, by decide +kernel, (by intro c a d v w h; cases d <;> exact h), by decide +kernel⟩ (fun ok => ?_)
    first | (refine Evo2.vl ok 0 KC.out (Chg.refl (fun k => v.ownBlock = some k) _) _ _ ?_) | (refine Evo2.va ok 0 _ _ ?_)
    refine Evo2.va ok 1 _ _ ?_
    (refine Evo2.cal ok 2 ?_ 39 ?_ ?_ ?_ ?_; rotate_left 2; (focus (intro w'; go_simp <;> with_reducible rfl)); (focus (intro w' g'; with_reducible exact CLN.out _)); simp only [Act.put, L0, L1, L2])
    refine Evo2.all [3] (by decide +kernel) rfl ?_
    intro wp1 gp1 iq hq
    simp only [List.mem_cons, List.mem_nil_iff, or_false] at hq
    have AP1 := Chg.trans (Chg.refl (fun k => v.ownBlock = some k) _) (Chg.grow gp1)
    subst hq
    refine Evo2.runs (by rfl) (by rfl) (fun K' hK' => ?_)
    (try obtain ⟨q1, q2⟩ := KC.out wp1 AP1)
    go_simp
    (try (simp only [Evo.after_value, Evo.after_skip]))
    refine hK'.out _ _ ?_
    clear hK'
    simp only [Act.put, L0, L1, L2]
    (try clear q1 q2)
    refine ⟨.inr (Chg.alloc (Chg.refl _ _) _), ?_⟩
    generalize hG1 : World.alloc wp1 _ = wg1
    have GG1 : Grow.G wp1 wg1 := hG1 ▸ Grow.G.alloc (Grow.G.refl _) _
    have NC1 := (congrArg (fun W : World => W.heap[wp1.heap.size]?) hG1).symm.trans (MapKept.heap_alloc wp1 _).1
    have NL1 : wp1.heap.size < wg1.heap.size := by rw [← hG1]; simp
    clear hG1
    refine Evo2.all [4] (by decide +kernel) rfl ?_
    intro wp2 gp2 iq hq
    simp only [List.mem_cons, List.mem_nil_iff, or_false] at hq
    have AP2 := Chg.trans (Chg.trans AP1 (Chg.grow GG1)) (Chg.grow gp2)
    have NC1 := (gp2.block _ NL1).trans NC1
    have NL1 := Nat.lt_of_lt_of_le NL1 gp2.size
    subst hq
    refine Fr.own_fr (by rfl) (by rfl) (Operand.tmp 20) (Operand.tmp 23) 49 (by rfl) w.heap.size 9 i0 (.string ⟨#[]⟩) 1 16 Tryz.underlying49 HIN.out HZ0.out HZ1.out HZ2.out rfl (by decide) _ _ _ (by rfl) (own_later HO.out ?_) _ 1 1 [.string x] (by rfl) rfl (news_blk NC1) ?_ ?_ ?_ ?_ ?_ 
    · exact gp1.trans (GG1.trans gp2) 
    · exact one1 rfl 
    · unfold maxLen; omega 
    · omega 
    · have := AP2.size; omega
    intro vw2 wc2 OW2 fr2
    obtain ⟨g9, c9, rfl, hg9⟩ := own_some OW2 (by omega); have CH2 : Chg (fun k => v.ownBlock = some k) _ _ := Chg.ofFr fr2
    refine ⟨.inr CH2, ?_⟩
    have AC2 := Chg.trans AP2 CH2
    simp only [Act.put, L0, L1, L2]
    refine Evo2.all [5] (by decide +kernel) rfl ?_
    intro wp3 gp3 iq hq
    simp only [List.mem_cons, List.mem_nil_iff, or_false] at hq
    have AP3 := Chg.trans AC2 (Chg.grow gp3)
    subst hq
    refine Evo2.runs (by rfl) (by rfl) (fun K' hK' => ?_)
    (try obtain ⟨q1, q2⟩ := KC.out wp3 AP3)
    have BQ := H.out.1.chg AP3 H.out.2.2.1; have gl := BQ.lt; have e0 := evd BQ (i := 0) rfl; have f0 := BQ.free 0; clear BQ
    go_simp
    (try (simp only [Evo.after_value, Evo.after_skip]))
    refine hK'.out _ _ ?_
    clear hK'
    simp only [Act.put, L0, L1, L2]
    (try clear gl e0 f0)
    (try clear q1 q2)
    refine ⟨.inl (by first | rfl | trivial), ?_⟩
    refine Evo2.done (by decide +kernel) (fun wz gz => ?_)
    obtain ⟨V2, BW, NV, hp⟩ := H.out
    have V4 := V2.chg AP3 NV
    have CS : Chg (fun k => k = w.heap.size) wp3 (wp3.setCell ⟨w.heap.size, 0, none⟩ (.slice (some ⟨g9, 0, none⟩) (pre.length + 1) c9)) := Chg.setCell (G := fun k => k = w.heap.size) (Chg.refl _ _) (fun _ => rfl) _ _
    have VZ := (V4.set 0 (.slice (some ⟨g9, 0, none⟩) (pre.length + 1) c9)).grow gz
    have RW3 := own_later OW2 gp3
    have RZ := own_later (CS.own RW3 (fun k hk q => by have q : k = w.heap.size := q; subst q; exact own_blk_types RW3 V4 (by decide) hk)) gz
    have hrow : ∀ k, v.ownBlock = some k → w.heap.size ≤ k := fun k hk => (HO.out.lt k hk).1
    have RT : Iter.Rest w2.heap.size W₂ wz := (AP3.rest (fun k _ q o ho => own_cells' HO.out q ho)).trans ((Iter.Rest.setCell _ _ _).trans (Iter.Rest.grow gz))
    have BZ := (BW.trans (AP3.below BW.size (fun k hk q => by have := hrow k q; omega))).trans ((CS.below (B := w.heap.size) (by have := AP3.size; omega) (fun k hk q => by have q : k = w.heap.size := q; omega)).trans (Below.mono gz (by have := AP3.size; have := CS.size; omega)))
    have PLT : ∀ k, p k → k < W₂.heap.size := fun k hk => by
      obtain ⟨_, o, ho, _⟩ := HPV.out k hk
      exact (Array.getElem?_eq_some_iff.1 ho).1
    have PS : ∀ k, p k → wz.heap[k]? = W₂.heap[k]? := fun k hk => by
      have h1 := PLT k hk
      have h2 := hp k hk
      rw [gz.block k (by have := AP3.size; have := CS.size; omega), CS.block k (by have := AP3.size; omega) h2.2, AP3.block k h1 (fun q => h2.1 q)]
    have PN : ∀ k, p k → (Value.slice (some ⟨g9, 0, none⟩) (pre.length + 1) c9).ownBlock ≠ some k ∧ k ≠ w.heap.size := fun k hk => by
      have h1 := PLT k hk
      have h2 := hp k hk
      exact ⟨fun e => (fr2.keep (by have := gp1.size; have := GG1.size; have := gp2.size; omega) (fun e => h2.1 e.symm)).2 e.symm, h2.2⟩
    have RES := Lib.hid (And.intro VZ (And.intro RZ (And.intro RT (And.intro BZ (And.intro PS PN)))))
    clear VZ RZ RT BZ PS PN PLT hrow RW3 CS V4 V2 BW NV hp gz gp1 gp2 gp3 GG1 AP1 AP2 AP3 CH2 OW2 fr2 NC1 NL1 ok
    dsimp only [Round.Calm]
    gi_wp2_with fail
    obtain ⟨q1, q2, q3, q4, q5, q6⟩ := RES.out
    refine ⟨q3, q5, ⟨_, q1, ?_, q6, q4⟩, by rw [List.length_append, List.length_singleton]; omega⟩
    rw [List.length_append, List.length_singleton, List.map_append]
    exact q2
  case done =>
    rintro p xs W hS ⟨⟨v, hv, ho, hp, hB⟩, hl⟩ hD
    have v0 := evd hv (i := 0) rfl
    have HP := Lib.hid ho
    have HB := Lib.hid hB
    have HDD := Lib.hid hD
    have HS := Lib.hid hS
    clear ho hB hv hD hS hp
    gi_wp2_with fail
    have sW := HB.out.size
    refine ⟨by simp, .inl ⟨_, _, rfl, run_takeDeferred HDD.out, ?_⟩⟩
    have BK : Iter.Book w.heap.size W (W.putObj w2.heap.size (.deferred none)) := Iter.Book.putObj _ HDD.out rfl (by omega)
    refine ⟨v, by simp [results, Tryz.results17, go_sem], v, xs, rfl, ⟨HS.out.1, fun x => (HS.out.2 x).trans (by rw [HNM.out])⟩, hl, own_book' HP.out BK, HB.out.trans (BK.below.mono (by omega))⟩
end Go.Proofs.YtlnffdkaleapbaaGreat

/- shelf's New; what damperlaw4's known tells. -/
namespace Go.Proofs.YtlnffdkaleapbaaGreat
set_option maxRecDepth 100000
set_option linter.unusedVariables false
set_option linter.unusedSimpArgs false
set_option linter.unnecessarySimpa false
open Go.RowKit Go.MapV Go.Maps

theorem ShAt.new (w : World) : ShAt (w.alloc (.cells #[.int .i64 0, .map none, .map none, .map none] shT)) w.heap.size (fun k => k = w.heap.size) Sh.new :=
  ⟨none, none, none, fun _ => none, Blk.new w _ _, fun kl => onS_none, fun kl => onS_none, fun kl => onS_none, fun x => .inl ⟨rfl, rfl⟩, rfl, (fun b e => by cases e), (fun b e => by cases e), (fun b e => by cases e), (fun b e => by cases e), (fun b e => by cases e), (fun b e => by cases e), (fun k hk => by have hk : k = w.heap.size := hk; simp; omega), Sh.ok_new⟩
theorem snew_any (w : World) : Calls Tryz.prog 5 #[] w fun e w' => e = .returned (pt w.heap.size) ∧ ShAt w' w.heap.size (fun k => k = w.heap.size) Sh.new ∧ Grow.G w w' := by
  go_enter Tryz.func5, Tryz.ntmps5
  go_wp2_with fail
  go_returns
  exact ⟨rfl, ShAt.new w, Grow.G.alloc (Grow.G.refl _) _⟩
set_option maxHeartbeats 1000000 in
theorem snames_no (g : Nat) (k : Int) (w : World) (h1 : k ≠ 1) (h2 : k ≠ 2) :
    Calls Tryz.prog 17 #[pt g, .int .i64 k] w fun e w' => e = .returned (.slice none 0 0) ∧ Grow.G w w' := by
  have RO := Lib.hid (rowOf_no g k w h1 h2)
  clear h1 h2
  refine (callsIn_wide (n := 0)).1 ?_
  refine callsIn_of_wp_marks Tryz.func17 rfl trivial ?_
  simp only [Tryz.ntmps17, List.size_toArray, List.length_cons, List.length_nil, Nat.reduceAdd, Nat.reduceSub, Array.replicate_succ, Array.replicate_zero, List.push_toArray, List.append_toArray, List.nil_append, List.cons_append]
  gi_wp2_with fail
  refine ⟨trivial, rfl, (callsIn_wide.2 RO.out).mono ?_⟩
  rintro e w1 ⟨rfl, rfl⟩
  gi_wp2_with fail
  exact ⟨.slice none 0 0, by simp [results, Tryz.results17, go_sem], rfl, Grow.G.refl _⟩
theorem snames_any (g : Nat) (F : Nat → Prop) (s : Sh) (k : Int) (w : World) (hS : ShAt w g F s) (hn : s.n < 1099511627776) :
    Calls Tryz.prog 17 #[pt g, .int .i64 k] w fun e w' => ∃ v L, e = .returned v ∧ NamesOf (s.names k) L ∧ L.length ≤ 1099511627776 ∧ w'.ownsRow w.heap.size 9 1 v L.length (L.map Value.string) ∧ Grow.G w w' := by
  by_cases h1 : k = 1
  · subst h1; exact snamesC g F s w hS hn
  · by_cases h2 : k = 2
    · subst h2; exact snamesR g F s w hS hn
    · refine (snames_no g k w h1 h2).mono ?_
      rintro e w' ⟨rfl, hg⟩
      exact ⟨_, [], rfl, NamesOf.nil (fun x => by unfold Sh.names; rw [if_neg h1, if_neg h2]), by simp, ⟨rfl, .inl ⟨rfl, rfl⟩⟩, hg⟩
/-- .. when it is known which they are. -/
theorem snames_at (g : Nat) (F : Nat → Prop) (s : Sh) (k : Int) (L : List ByteArray) (w : World) (hS : ShAt w g F s) (hn : s.n < 1099511627776) (hL : NamesOf (s.names k) L) :
    Calls Tryz.prog 17 #[pt g, .int .i64 k] w fun e w' => ∃ a c, e = .returned (.slice a L.length c) ∧ w'.ownsRow w.heap.size 9 1 (.slice a L.length c) L.length (L.map Value.string) ∧ Grow.G w w' := by
  refine (snames_any g F s k w hS hn).mono ?_
  rintro e w' ⟨v, L', rfl, hL', -, ho, hg⟩
  obtain rfl := hL.uniq hL'
  obtain ⟨a, c, rfl, -⟩ := own_sh ho
  exact ⟨a, c, rfl, ho, hg⟩
def kA : Cfg := ⟨⟨#[97]⟩, 0, 1, 0, 1, 0⟩
theorem kA_err : kA.err = 0 := by decide +kernel
theorem kA_put : Sh.new.putC kA 0 = 0 := by
  unfold Sh.putC
  rw [kA_err]; rfl
theorem kA_aft : Sh.new.aftC kA 0 = Sh.new.setC kA := by
  unfold Sh.aftC
  rw [kA_put]; rfl
theorem kA_cfg : (Sh.new.setC kA).cfgOf ⟨#[97]⟩ = (kA, 1, 1, true) := by decide +kernel
theorem kA_names : NamesOf ((Sh.new.setC kA).names 1) [⟨#[97]⟩] := by
  refine ⟨by simp, fun x => ?_⟩
  have h : Sh.new.wasC kA = false := rfl
  unfold Sh.names Sh.setC
  rw [h, if_pos rfl]
  show _ ↔ (upd Sh.new.cf kA.nm _ x).isSome = true
  unfold upd
  by_cases e : x = kA.nm
  · rw [if_pos e]; simp [e, kA]
  · rw [if_neg e]
    have : x ≠ ⟨#[97]⟩ := e
    simp [this, Sh.new]
theorem new_names (k : Int) : NamesOf (Sh.new.names k) [] := NamesOf.nil fun x => by
  unfold Sh.names Sh.new
  split
  · rfl
  · split <;> rfl
theorem new_n : Sh.new.n = 0 := rfl
theorem grow_chg {w a b : World} {G : Nat → Prop} (h : Grow.G w a) (c : Chg G a b) (hG : ∀ k, G k → w.heap.size ≤ k) : Grow.G w b :=
  (show Below w.heap.size w a from h).trans (c.below (B := w.heap.size) h.size (fun k hk e => by have := hG k e; omega))
/-- A shelf that a law has made: all of it lies behind w0. -/
def ShL (w0 w : World) (g : Nat) (s : Sh) : Prop := ∃ F, ShAt w g F s ∧ (∀ k, F k → w0.heap.size ≤ k) ∧ Grow.G w0 w
section
variable {w0 w w' : World} {g : Nat} {s s' : Sh} {c : Cfg} {v : Int}
theorem ShL.grow (h : ShL w0 w g s) (c : Grow.G w w') : ShL w0 w' g s := by
  obtain ⟨F, h1, h2, h3⟩ := h
  exact ⟨F, h1.grow c, h2, h3.trans c⟩
theorem ShL.below (h : ShL w0 w g s) : Grow.G w0 w := by obtain ⟨F, _, _, h3⟩ := h; exact h3
theorem ShL.end {F : Nat → Prop} (h2 : ∀ k, F k → w0.heap.size ≤ k) (h3 : Grow.G w0 w) (e : ShEnd w w' g F s') : ShL w0 w' g s' := by
  obtain ⟨F', h, c, f⟩ := e
  exact ⟨F', h, f.base h3.size h2, grow_chg h3 c h2⟩
theorem ls_new (g0 : Grow.G w0 w) : Calls Tryz.prog 5 #[] w fun e w' => ∃ g, e = .returned (pt g) ∧ ShL w0 w' g Sh.new := by
  refine (snew_any w).mono ?_
  rintro e w' ⟨rfl, h, hg⟩
  exact ⟨_, rfl, _, h, fun k hk => by have hk : k = w.heap.size := hk; rw [hk]; exact g0.size, g0.trans hg⟩
theorem ls_putC (h : ShL w0 w g s) (c : Cfg) (v : Int) (hc : c.nm.size ≤ 140737488351232) (hn : s.n < 1099511627776) :
    Calls Tryz.prog 9 #[pt g, c.v, .int .i64 v] w fun e w' => e = .returned (.tuple #[.int .i64 (s.numOf (s.putC c v)), .int .i64 (s.putC c v)]) ∧ ShL w0 w' g (s.aftC c v) := by
  obtain ⟨F, h1, h2, h3⟩ := h
  refine (sputC_any g F s c v w h1 hc hn).mono ?_
  rintro e w' ⟨rfl, e⟩
  exact ⟨rfl, ShL.end h2 h3 e⟩
theorem ls_cfg (h : ShL w0 w g s) (nm : ByteArray) (hs : nm.size ≤ maxLen) :
    Calls Tryz.prog 18 #[pt g, .string nm] w fun e w' => e = .returned (.tuple #[(s.cfgOf nm).1.v, .int .i64 (s.cfgOf nm).2.1, .int .i64 (s.cfgOf nm).2.2.1, .bool (s.cfgOf nm).2.2.2]) ∧ ShL w0 w' g s := by
  obtain ⟨F, h1, h2, h3⟩ := id h
  refine (scfg_any g F s nm w h1 hs).mono ?_
  rintro e w' ⟨rfl, e⟩
  exact ⟨rfl, h.grow e⟩
theorem ls_names_at (h : ShL w0 w g s) (k : Int) (L : List ByteArray) (hn : s.n < 1099511627776) (hL : NamesOf (s.names k) L) :
    Calls Tryz.prog 17 #[pt g, .int .i64 k] w fun e w' => ∃ a c, e = .returned (.slice a L.length c) ∧ w'.ownsRow w.heap.size 9 1 (.slice a L.length c) L.length (L.map Value.string) ∧ ShL w0 w' g s := by
  obtain ⟨F, h1, h2, h3⟩ := id h
  refine (snames_at g F s k L w h1 hn hL).mono ?_
  rintro e w' ⟨a, c, rfl, ho, hg⟩
  exact ⟨a, c, rfl, ho, h.grow hg⟩
end
set_option maxHeartbeats 2000000 in
theorem known4_any (w : World) : Calls Tryz.prog 4 #[] w fun e w' => e = .returned (.bool true) ∧ Grow.G w w' := by
  have N0 := Lib.hid (fun (w' : World) (g : Nat) (h : ShL w w' g Sh.new) => ls_names_at h 1 [] (by rw [new_n]; omega) (new_names 1))
  have P0 := Lib.hid (fun (w' : World) (g : Nat) (h : ShL w w' g Sh.new) => ls_putC h kA 0 (by decide) (by rw [new_n]; omega))
  rw [kA_put, kA_aft] at P0
  have C1 := Lib.hid (fun (w' : World) (g : Nat) (h : ShL w w' g (Sh.new.setC kA)) => ls_cfg h ⟨#[97]⟩ (by decide))
  rw [kA_cfg] at C1
  have N1 := Lib.hid (fun (w' : World) (g : Nat) (h : ShL w w' g (Sh.new.setC kA)) => ls_names_at h 1 [⟨#[97]⟩] (by rw [Sh.n_setC, new_n]; omega) kA_names)
  have hnum : Sh.new.numOf 0 = 1 := rfl
  rw [hnum] at P0
  generalize Sh.new.setC kA = s1 at *
  unfold Cfg.v kA at *
  dsimp only at *
  simp only [List.length_nil, List.length_cons] at N0 N1
  clear hnum
  go_enter Tryz.func4, Tryz.ntmps4
  go_wp2_with fail
  refine (ls_new (Grow.G.refl w)).mono ?_
  rintro e w1 ⟨g, rfl, hS⟩
  have HS := Lib.hid hS
  clear hS
  go_wp2_with fail
  refine (N0.out _ _ HS.out).mono ?_
  rintro e ws1 ⟨a2, c2, rfl, -, hst⟩
  replace HS := Lib.hid hst
  clear hst
  go_wp2_with fail
  refine (P0.out _ _ HS.out).mono ?_
  rintro e ws2 ⟨rfl, hst⟩
  replace HS := Lib.hid hst
  clear hst
  go_wp2_with fail
  refine (C1.out _ _ HS.out).mono ?_
  rintro e w4 ⟨rfl, hst⟩
  replace HS := Lib.hid hst
  clear hst
  go_wp2_with fail
  replace HS := Lib.hid (HS.out.grow (Grow.G.alloc (Grow.G.refl _) (.cells #[.string ⟨#[97]⟩, .int .i64 0, .int .i64 1, .int .i64 0, .int .i64 1, .int .i64 0] 31)))
  refine (N1.out _ _ HS.out).mono ?_
  rintro e ws4 ⟨a5, c5, rfl, -, hst⟩
  replace HS := Lib.hid hst
  clear hst
  go_wp2_with fail
  go_ret
  exact ⟨rfl, HS.out.below⟩

def ShP (g : Nat) (s : Sh) : Hp := fun w F => ShAt w g F s
theorem ShP.foot (g : Nat) (s : Sh) : Foot (ShP g s) := ShAt.foot g s
theorem ShP.ft (g : Nat) (s : Sh) : Foot (Sep (ShP g s) Emp) := (ShP.foot g s).sep Emp.foot
section
variable {w0 w : World} {L : List MBox} {A B : Hp} {g : Nat} {s : Sh}
theorem hold_new (h : Hold w0 w L A) (hA : Foot A) : Calls Tryz.prog 5 #[] w fun e w' => ∃ g, e = .returned (pt g) ∧ Hold w0 w' L (Sep (ShP g Sh.new) A) := by
  refine (snew_any w).mono ?_
  rintro e w' ⟨rfl, h1, hg⟩
  exact ⟨_, rfl, h.beside hA hg h1 (fun k hk => by have hk : k = w.heap.size := hk; omega)⟩
theorem hold_putC (h : Hold w0 w L (Sep (ShP g s) B)) (hB : Foot B) (c : Cfg) (v : Int) (hc : c.nm.size ≤ 140737488351232) (hn : s.n < 1099511627776) :
    Calls Tryz.prog 9 #[pt g, c.v, .int .i64 v] w fun e w' => e = .returned (.tuple #[.int .i64 (s.numOf (s.putC c v)), .int .i64 (s.putC c v)]) ∧ Hold w0 w' L (Sep (ShP g (s.aftC c v)) B) :=
  h.call ((ShP.foot _ _).sep hB) (Sep.callL hB fun F hS => sputC_any g F s c v w hS hc hn)
theorem hold_putR (h : Hold w0 w L (Sep (ShP g s) B)) (hB : Foot B) (r : Rt) (a : Option Addr) (cap : Nat) (v : Int) (h1 : r.nm.size ≤ 140737488351232) (h2 : r.cf.size ≤ 140737488351232) (hl : r.ts.length ≤ maxLen) (ht : TgtSl w a r.ts) (hk : ∀ i, i < r.ts.length → (r.ts.getD i tg0).ok) (hn : s.n < 1099511627776) :
    Calls Tryz.prog 12 #[pt g, rtV r.nm r.cf (.slice a r.ts.length cap) r.rl, .int .i64 v] w fun e w' => e = .returned (.tuple #[.int .i64 (s.numOf (s.putR r v)), .int .i64 (s.putR r v)]) ∧ Hold w0 w' L (Sep (ShP g (s.aftR r v)) B) :=
  h.call ((ShP.foot _ _).sep hB) (Sep.callL hB fun F hS => sputR_any g F s r a cap v w hS h1 h2 hl ht hk hn)
theorem hold_drop (h : Hold w0 w L (Sep (ShP g s) B)) (hB : Foot B) (k : Int) (nm : ByteArray) (v : Int) (hs : nm.size ≤ maxLen) (hn : s.n < 1099511627776) :
    Calls Tryz.prog 14 #[pt g, .int .i64 k, .string nm, .int .i64 v] w fun e w' => e = .returned (.int .i64 (s.drop k nm v)) ∧ Hold w0 w' L (Sep (ShP g (s.aftD k nm v)) B) :=
  h.call ((ShP.foot _ _).sep hB) (Sep.callL hB fun F hS => sdrop_any g F s k nm v w hS hs hn)
theorem hold_cfg (h : Hold w0 w L (Sep (ShP g s) B)) (hB : Foot B) (nm : ByteArray) (hs : nm.size ≤ maxLen) :
    Calls Tryz.prog 18 #[pt g, .string nm] w fun e w' => e = .returned (.tuple #[(s.cfgOf nm).1.v, .int .i64 (s.cfgOf nm).2.1, .int .i64 (s.cfgOf nm).2.2.1, .bool (s.cfgOf nm).2.2.2]) ∧ Hold w0 w' L (Sep (ShP g s) B) := by
  obtain ⟨F, ⟨F1, F2, a, _⟩, _⟩ := h.st
  exact h.ask ((ShP.foot _ _).sep hB) (scfg_any g F1 s nm w a hs)
theorem hold_names (h : Hold w0 w L (Sep (ShP g s) B)) (hB : Foot B) (k : Int) (hn : s.n < 1099511627776) :
    Calls Tryz.prog 17 #[pt g, .int .i64 k] w fun e w' => ∃ a c L', e = .returned (.slice a (List.length L') c) ∧ NamesOf (s.names k) L' ∧ L'.length ≤ 1099511627776 ∧ w'.ownsRow w.heap.size 9 1 (.slice a L'.length c) L'.length (L'.map Value.string) ∧ Hold w0 w' L (Sep (ShP g s) B) := by
  obtain ⟨F, ⟨F1, F2, a, _⟩, _⟩ := id h.st
  refine (snames_any g F1 s k w a hn).mono ?_
  rintro e w' ⟨v, L', rfl, hL, hl, ho, hg⟩
  obtain ⟨a, c, rfl, -⟩ := own_sh ho
  exact ⟨a, c, L', rfl, hL, hl, ho, h.grow ((ShP.foot _ _).sep hB) hg⟩
end
end Go.Proofs.YtlnffdkaleapbaaGreat

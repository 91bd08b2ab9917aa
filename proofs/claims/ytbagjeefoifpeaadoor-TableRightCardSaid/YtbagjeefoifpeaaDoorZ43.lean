/- My own texts Tab11, laid in one file. -/
import Derived.Test.YtbagjeefoifpeaaDoorZ42

/- A table's text: table.Text. -/
namespace Go.Proofs.YtbagjeefoifpeaaDoor
set_option maxRecDepth 100000
set_option linter.unusedVariables false
set_option linter.unusedSimpArgs false
set_option linter.unnecessarySimpa false
open Go.RowKit Go.Args
attribute [local go_sem] Oper.semAt_some

def R3.t (r : R3) : ByteArray := ⟨(Lib.join ([r.x, r.y, r.z].map (·.data.toList)) (⟨#[]⟩ : ByteArray).data.toList).toArray⟩
def wordsL (l : List Shr) (m : List Tgo) : List ByteArray := (rowsL l m).map R3.t
def textB (l : List Shr) (m : List Tgo) : ByteArray := ⟨(Lib.join ((wordsL l m).map (·.data.toList)) (⟨#[32]⟩ : ByteArray).data.toList).toArray⟩
def SmallT (m : List Tgo) : Prop := m.length ≤ 1000 ∧ ∀ t, t ∈ m → t.tag.size ≤ 100000 ∧ t.rev.size ≤ 100000
theorem R3.t_list (r : R3) : r.t.data.toList = r.x.data.toList ++ (r.y.data.toList ++ r.z.data.toList) := by
  unfold R3.t Lib.join
  simp [List.intercalate]
theorem R3.t_size (r : R3) : r.t.size = r.x.size + r.y.size + r.z.size := by
  have h := congrArg List.length r.t_list
  simp only [List.length_append] at h
  have e : ∀ b : ByteArray, b.data.toList.length = b.size := fun b => rfl
  rw [e, e, e, e] at h
  omega
theorem row_small {l : List Shr} {m : List Tgo} (h : Small l) (h' : SmallT m) {r : R3} (hr : r ∈ rowsL l m) : r.x.size ≤ 100000 ∧ r.y.size ≤ 1 ∧ r.z.size ≤ 100000 := by
  unfold rowsL at hr
  rw [List.mem_append, List.mem_map, List.mem_map] at hr
  rcases hr with ⟨s, hs, rfl⟩ | ⟨s, hs, rfl⟩
  · have h1 := h.2 s hs
    refine ⟨h1.2.2, Nat.le_refl _, ?_⟩
    have := digS_size 3 s.w.toNat (by omega)
    show (digS s.w.toNat).size ≤ _
    omega
  · have h1 := h'.2 s hs
    exact ⟨h1.1, Nat.le_refl _, h1.2⟩
theorem lens_le (B : Nat) : ∀ (xs : List (List UInt8)), (∀ x, x ∈ xs → x.length ≤ B) → Lib.lens xs ≤ B * xs.length
  | [], _ => by simp [Lib.lens]
  | x :: xs, h => by
    have ih := lens_le B xs (fun y hy => h y (by simp [hy]))
    have := h x (by simp)
    unfold Lib.lens at ih ⊢
    simp only [List.map_cons, List.sum_cons, List.length_cons, Nat.mul_succ] at ih ⊢
    omega
theorem words_small {l : List Shr} {m : List Tgo} (h : Small l) (h' : SmallT m) : (Lib.join ((wordsL l m).map (·.data.toList)) (⟨#[32]⟩ : ByteArray).data.toList).length ≤ 140737488355328 := by
  have hl : (wordsL l m).length ≤ 2000 := by unfold wordsL; rw [List.length_map, rowsL_len]; have := h.1; have := h'.1; omega
  have hs : ∀ x, x ∈ (wordsL l m).map (·.data.toList) → x.length ≤ 200001 := by
    intro x hx
    rw [List.mem_map] at hx
    obtain ⟨y, hy, rfl⟩ := hx
    unfold wordsL at hy
    rw [List.mem_map] at hy
    obtain ⟨r, hr, rfl⟩ := hy
    have := row_small h h' hr
    have := r.t_size
    show r.t.size ≤ _
    omega
  have hl2 : ((wordsL l m).map (·.data.toList)).length ≤ 2000 := by rw [List.length_map]; exact hl
  generalize (wordsL l m).map (·.data.toList) = xs at *
  have hle := lens_le 200001 xs hs
  have h32 : (⟨#[32]⟩ : ByteArray).data.toList.length = 1 := rfl
  cases xs with
  | nil => rw [Lib.join_nil]; simp
  | cons x r =>
    rw [Lib.join_length, h32]
    simp only [List.length_cons] at hl2 hle
    omega
theorem rows_any' (a : Option Addr) (c : Nat) (l : List Shr) (a' : Option Addr) (c' : Nat) (m : List Tgo) (w : World) (h : ShSl w a l) (h' : TgSl w a' m) (ht : Tab w) :
    Calls Tryd.prog 37 #[tabV a l.length c a' m.length c'] w fun e w' => ∃ bb, e = .returned (rowsV bb) ∧ w.heap.size ≤ bb ∧ RowI l a c m a' c' bb w' ∧ Grow.G w w' :=
  (rows_new a l.length c a' m.length c' w).mono fun e w' ⟨he, hw⟩ => by
    subst hw
    have g : Grow.G w (w.alloc (.cells #[.slice a l.length c, .slice a' m.length c'] 25)) := Grow.G.alloc (Grow.G.refl _) _
    exact ⟨_, he, Nat.le_refl _, ⟨h.later g, h'.later g, Blk.new w _ _, ht.below g⟩, g⟩
def ColT (w0 w : World) (l : List Shr) (m : List Tgo) (pre : List R3) (W : World) : Prop :=
  ∃ v, Blk W (w0.heap.size + 1) #[v] 38 ∧ W.ownsRow w.heap.size 9 1 v pre.length (((wordsL l m).take pre.length).map Value.string) ∧ pre.length ≤ (wordsL l m).length ∧ Below w0.heap.size w0 W ∧ w.heap.size ≤ W.heap.size
set_option maxHeartbeats 8000000 in
theorem ttext_any (a : Option Addr) (l : List Shr) (c : Nat) (a' : Option Addr) (m : List Tgo) (c' : Nat) (w : World) (h1 : ShSl w a l) (h2 : TgSl w a' m) (s1 : Small l) (s2 : SmallT m) (ht : Tab w) :
    Calls Tryd.prog 22 #[tabV a l.length c a' m.length c'] w fun e w' => e = .returned (.string (textB l m)) ∧ Grow.G w w' := by
  have H1 := Lib.hid h1
  have H2 := Lib.hid h2
  have HT := Lib.hid ht
  have HM := Lib.hid s1
  have HM2 := Lib.hid s2
  have RA := Lib.hid (fun w' (g : Grow.G w w') => rows_any' a c l a' c' m w' (h1.later g) (h2.later g) (ht.below g))
  have WS := Lib.hid (words_small s1 s2)
  have hm := s2.1
  have hl := s1.1
  clear h1 h2 s1 s2 ht
  unfold tabV at *
  refine (callsIn_wide (n := 0)).1 ?_
  refine callsIn_of_wp_marks Tryd.func22 rfl trivial ?_
  simp only [Tryd.ntmps22, List.size_toArray, List.length_cons, List.length_nil, Nat.reduceAdd, Nat.reduceSub, Array.replicate_succ, Array.replicate_zero, List.push_toArray, List.append_toArray, List.nil_append, List.cons_append]
  gi_wp2_with fail
  have G0 : Hid (Grow.G w ((w.alloc (.cells #[.slice a l.length c, .slice a' m.length c'] 25)).alloc (.cells #[.slice none 0 0] 38))) := Lib.hid (by (repeat (first | with_reducible exact Grow.G.refl _ | with_reducible exact Below.refl _ _ | with_reducible refine Grow.G.alloc ?_ _ | with_reducible refine Grow.G.trans ?_ hb1 | ((with_reducible refine Below.setCell ?_ ?_ _); rotate_left; (focus (first | omega | (simp; done) | (simp; omega)))) | with_reducible assumption | with_reducible refine Grow.G.trans ?_ (by with_reducible assumption))))
  have B1 := Blk.new (w.alloc (.cells #[.slice a l.length c, .slice a' m.length c'] 25)) #[.slice none 0 0] 38
  obtain ⟨W1, hW1⟩ : ∃ W1, W1 = (w.alloc (.cells #[.slice a l.length c, .slice a' m.length c'] 25)).alloc (.cells #[.slice none 0 0] 38) := ⟨_, rfl⟩
  have hz1 : W1.heap.size = w.heap.size + 2 := by rw [hW1]; simp
  rw [← hW1] at B1 G0 ⊢
  simp only [World.size_alloc] at B1 ⊢
  clear hW1
  refine ⟨trivial, rfl, (callsIn_wide.2 (RA.out _ G0.out)).mono ?_⟩
  rintro x w1 ⟨bb, rfl, hbb, hRI, hg1⟩
  have hw1 := hg1.size
  have GA := G0.out.trans hg1
  have L1 := B1.grow hg1
  have KP : ∀ k, RP l a m a' bb k → k < w1.heap.size ∧ ¬ k = w.heap.size + 1 := by
    intro k hk
    refine ⟨hRI.lt hk, fun e => ?_⟩
    subst e
    rcases hk with q | q | q | q
    · have := q.lt H1.out (fun x => by simp [Shr.cells]); omega
    · have := q.lt H2.out (fun x => by simp [Tgo.cells]); omega
    · omega
    · have := HT.out.lt q; omega
  have HRI := Lib.hid hRI
  have HKP := Lib.hid KP
  clear B1 hg1 hRI KP
  have RL := rowsL_len l m
  have WL : (wordsL l m).length = l.length + m.length := by unfold wordsL; rw [List.length_map, RL]
  unfold rowsV
  gi_wp2_with fail
  refine Iter.range (gf := 48) (lb := #[.pointer (some ⟨bb, 0, none⟩)]) (encs := fun (x : R3) => #[x.v]) (Ok := RowOk l m) (Kp := Iter.KeepP (RP l a m a' bb)) (S := fun xs => xs.length = l.length + m.length) rfl (enters_of Tryd.func48 (by kernel_rfl) rfl) (rows_seq bb a c l a' c' m w1 HRI.out HM.out hm) (Grow.G.refl _) (fun _ => rfl) (fun s x A B h b => h) Iter.KeepP.trans (fun h => Iter.KeepP.book h (fun k hk => HRI.out.lt hk))
    (ColT w w1 l m) (fun _ _ _ => False) ?hI (fun _ _ _ _ h _ => h) ?h0 ?round ?done (fun _ _ _ h => h.elim)
  case hI =>
    rintro s A B ⟨v, hv, ho, hn, hB, hz⟩ hbk
    exact ⟨v, hv.book hbk, own_book' ho hbk, hn, hB.trans (hbk.below.mono (by have := hB.size; omega)), Nat.le_trans hz hbk.size⟩
  case h0 => exact ⟨_, L1, World.ownsRow_nil _ _ _ _, Nat.zero_le _, GA, Nat.le_refl _⟩
  case round =>
    rintro ln pre x W hl2 ⟨v, hv, ho, hn, hB, hz⟩ hok
    unfold RowOk at hok
    have hsm := row_small HM.out HM2.out (List.mem_of_getElem? hok)
    have hsz := R3.t_size x
    simp only [Iter.zip1, List.setIfInBounds_toArray, List.set_cons_zero, List.set_cons_succ]
    obtain ⟨x1, x2, x3⟩ := x
    unfold R3.v
    dsimp only at hsm hsz ⊢
    gi_wp2_with fail
    have g1 := Grow.G.alloc (Grow.G.refl W) (.cells #[.string x1, .string x2, .string x3] 62)
    refine ⟨g1, fun W₂ hbk _ => ?_⟩
    have V2 := (hv.grow g1).book hbk
    have O2 := own_book' (own_later ho g1) hbk
    have BW := (hB.trans (Below.mono g1 hB.size)).trans (hbk.below.mono (by have := hB.size; have := g1.size; omega))
    have Q2 := (Blk.new W #[.string x1, .string x2, .string x3] 62).book hbk
    have NV : ¬ v.ownBlock = some (w.heap.size + 1) := own_blk_types O2 V2 (by decide)
    have NQ : ¬ v.ownBlock = some W.heap.size := own_blk_types O2 Q2 (by decide)
    have KC := Lib.hid (fun (w' : World) (h : Chg (fun k => v.ownBlock = some k) W₂ w') => (⟨h.cell (Blk.at (cs := [v]) (k := 0) V2 rfl) NV, trivial⟩ : w'.cell? ⟨w.heap.size + 1, 0, none⟩ = some v ∧ True))
    have JN := Lib.hid (fun (w' : World) (h : Chg (fun k => v.ownBlock = some k) W₂ w') => Tryd.strings_Join W.heap.size 0 3 [x1, x2, x3] ⟨#[]⟩ w' (by
      intro j y hj
      have Q3 := h.blk Q2 NQ
      match j, hj with
      | 0, hj => cases hj; exact Blk.at (cs := [Value.string x1, Value.string x2, Value.string x3]) (k := 0) Q3 rfl
      | 1, hj => cases hj; exact Blk.at (cs := [Value.string x1, Value.string x2, Value.string x3]) (k := 1) Q3 rfl
      | 2, hj => cases hj; exact Blk.at (cs := [Value.string x1, Value.string x2, Value.string x3]) (k := 2) Q3 rfl) (Blk.lt (h.blk Q2 NQ)) (by simp) (by simp) (by
      show (R3.t ⟨x1, x2, x3⟩).size ≤ _; omega))
    have RT : (⟨(Lib.join ([x1, x2, x3].map (·.data.toList)) (⟨#[]⟩ : ByteArray).data.toList).toArray⟩ : ByteArray) = R3.t ⟨x1, x2, x3⟩ := rfl
    rw [RT] at JN
    simp only [List.length_cons, List.length_nil, Nat.reduceAdd] at JN
    clear RT
    generalize hrt : R3.t ⟨x1, x2, x3⟩ = rt at *
    obtain ⟨i0, hi, hz0, hz1, hz2⟩ := info_parts infoStr
    have HI := Lib.hid hi; have HZ0 := Lib.hid hz0; have HZ1 := Lib.hid hz1; have HZ2 := Lib.hid hz2
    have HO : Hid (W₂.ownsRow w1.heap.size 9 1 v pre.length (((wordsL l m).take pre.length).map Value.string)) := Lib.hid O2
    have H := Lib.hid (And.intro V2 (And.intro BW (And.intro hok (And.intro NV hrt))))
    have sW2 := BW.size
    have zW2 : w1.heap.size ≤ W₂.heap.size := by have := hbk.size; have := g1.size; omega
    have hlt : pre.length < l.length + m.length := by have := (List.getElem?_eq_some_iff.1 hok).1; omega
    clear V2 O2 BW hbk hok hv hB ho NV NQ Q2 g1 hi hz0 hz1 hz2 hrt
    gi_wp2_with fail
    refine Round.region (ℓ := some 5) (S := Chg (fun k => v.ownBlock = some k)) (E := Grow.G) (by kernel_rfl) (by decide +kernel) ⟨Chg.pre _, by decide +kernel, (by intro c a d v w h; cases d <;> exact h), by decide +kernel⟩ (fun ok => ?_)
    first | (refine Evo2.vl ok 0 KC.out (Chg.refl (fun k => v.ownBlock = some k) _) _ _ ?_) | (refine Evo2.va ok 0 _ _ ?_)
    refine Evo2.va ok 1 _ _ ?_
    (refine Evo2.cal ok 2 ?_ 39 ?_ ?_ ?_ ?_; rotate_left 2; (focus (intro w'; go_simp <;> with_reducible rfl)); (focus (intro w' g'; with_reducible exact JN.out w' (Chg.trans (Chg.refl (fun k => v.ownBlock = some k) _) g'))); simp only [Act.put, L0, L1, L2])
    refine Evo2.all [3] (by decide +kernel) rfl ?_
    intro wp1 gp1 iq hq
    simp only [List.mem_cons, List.mem_nil_iff, or_false] at hq
    have AP1 := Chg.trans (Chg.refl (fun k => v.ownBlock = some k) _) (Chg.grow gp1)
    subst hq
    refine Evo2.runs (by rfl) (by rfl) (fun K' hK' => ?_)
    (try obtain ⟨q1⟩ := KC.out wp1 AP1)
    go_simp
    (try (simp only [Evo.after_value, Evo.after_skip]))
    refine hK'.out _ _ ?_
    clear hK'
    simp only [Act.put, L0, L1, L2]
    (try clear q1)
    refine ⟨.inr (Chg.alloc (Chg.refl _ _) _), ?_⟩
    generalize hG1 : World.alloc wp1 _ = wg1
    have GG1 : Grow.G wp1 wg1 := hG1 ▸ Grow.G.alloc (Grow.G.refl _) _
    have NC1 := (congrArg (fun W : World => W.heap[wp1.heap.size]?) hG1).symm.trans (MapKept.heap_alloc wp1 _).1
    have NL1 : wp1.heap.size < wg1.heap.size := by rw [← hG1]; simp
    clear hG1
    refine Evo2.all [4] (by decide +kernel) rfl ?_
    intro wp2 gp2 iq hq
    simp only [List.mem_cons, List.mem_nil_iff, or_false] at hq
    have AP2 := Chg.trans (Chg.trans AP1 (Chg.grow GG1)) (Chg.grow gp2)
    have NC1 := (gp2.block _ NL1).trans NC1
    have NL1 := Nat.lt_of_lt_of_le NL1 gp2.size
    subst hq
    refine Fr.own_fr (by rfl) (by rfl) (Operand.tmp 8) (Operand.tmp 11) 38 (by rfl) w1.heap.size 9 i0 (.string ⟨#[]⟩) 1 16 Tryd.underlying38 HI.out HZ0.out HZ1.out HZ2.out rfl (by decide) _ _ _ (by rfl) (own_later HO.out ?_) _ 1 1 [.string rt] (by rfl) rfl (news_at NC1) ?_ ?_ ?_ ?_ ?_ 
    · exact (gp1.trans GG1).trans gp2 
    · exact one1 rfl 
    · unfold maxLen; omega 
    · omega 
    · have := AP2.size; omega
    intro vw2 wc2 OW2 fr2
    obtain ⟨g9, c9, rfl, hg9⟩ := own_some OW2 (by omega); have CH2 : Chg (fun k => v.ownBlock = some k) _ _ := Chg.ofFr fr2
    refine ⟨.inr CH2, ?_⟩
    have AC2 := Chg.trans AP2 CH2
    simp only [Act.put, L0, L1, L2]
    refine Evo2.all [5] (by decide +kernel) rfl ?_
    intro wp3 gp3 iq hq
    simp only [List.mem_cons, List.mem_nil_iff, or_false] at hq
    have AP3 := Chg.trans AC2 (Chg.grow gp3)
    subst hq
    refine Evo2.runs (by rfl) (by rfl) (fun K' hK' => ?_)
    (try obtain ⟨q1⟩ := KC.out wp3 AP3)
    have BQ := H.out.1.chg AP3 H.out.2.2.2.1; have gl := BQ.lt; have e0 := Blk.at (cs := [v]) (k := 0) BQ rfl; have f0 := BQ.free 0; clear BQ
    go_simp
    (try (simp only [Evo.after_value, Evo.after_skip]))
    refine hK'.out _ _ ?_
    clear hK'
    simp only [Act.put, L0, L1, L2]
    (try clear gl e0 f0)
    (try clear q1)
    refine ⟨.inl (by first | rfl | trivial), ?_⟩
    refine Evo2.done (by decide +kernel) (fun wz gz => ?_)
    obtain ⟨V2, BW, hok, NV, hrt⟩ := H.out
    have V4 := V2.chg AP3 NV
    have CS : Chg (fun k => k = w.heap.size + 1) wp3 (wp3.setCell ⟨w.heap.size + 1, 0, none⟩ (.slice (some ⟨g9, 0, none⟩) (pre.length + 1) c9)) := Chg.setCell (G := fun k => k = w.heap.size + 1) (Chg.refl _ _) (fun _ => rfl) _ _
    have VZ := (V4.set 0 (.slice (some ⟨g9, 0, none⟩) (pre.length + 1) c9)).grow gz
    have RW4 := own_later OW2 gp3
    have RZ := own_later (CS.own RW4 (fun k hk q => by have q : k = w.heap.size + 1 := q; subst q; exact own_blk_types RW4 V4 (by decide) hk)) gz
    have hrow : ∀ k, v.ownBlock = some k → w1.heap.size ≤ k := fun k hk => (HO.out.lt k hk).1
    have RT : Iter.Rest w1.heap.size W₂ wz := (AP3.rest (fun k _ q o ho => own_cells' HO.out q ho)).trans ((Iter.Rest.setCell _ _ _).trans (Iter.Rest.grow gz))
    have BZ := (BW.trans (AP3.below BW.size (fun k hk q => by have := hrow k q; omega))).trans ((CS.below (B := w.heap.size) (by have := AP3.size; omega) (fun k hk q => by have q : k = w.heap.size + 1 := q; omega)).trans (Below.mono gz (by have := AP3.size; have := CS.size; omega)))
    have KZ : Iter.KeepP (RP l a m a' bb) W₂ wz := ((Iter.KeepP.chg AP3 (fun k hk q => by have := hrow k q; have := (HKP.out k hk).1; omega)).trans (Iter.KeepP.chg CS (fun k hk q => (HKP.out k hk).2 q))).trans (Iter.KeepP.grow gz)
    have zz : w1.heap.size ≤ wz.heap.size := by have := KZ.1; omega
    have TS : ((wordsL l m).take (pre ++ [(⟨x1, x2, x3⟩ : R3)]).length).map Value.string = ((wordsL l m).take pre.length).map Value.string ++ [.string rt] := by
      rw [List.length_append, List.length_singleton, List.take_add_one, List.map_append]
      unfold wordsL
      rw [List.getElem?_map, hok]
      simp [hrt]
    have RES := Lib.hid (And.intro VZ (And.intro RZ (And.intro RT (And.intro BZ (And.intro KZ TS)))))
    clear VZ RZ RT BZ KZ TS hrow RW4 CS V4 V2 BW NV gz gp1 gp2 gp3 GG1 AP1 AP2 AP3 AC2 CH2 OW2 fr2 NC1 NL1 ok
    dsimp only [Round.Calm]
    gi_wp2_with fail
    refine ⟨RES.out.2.2.1, RES.out.2.2.2.2.1, ⟨_, RES.out.1, ?_, by rw [List.length_append, List.length_singleton, WL]; omega, RES.out.2.2.2.1, zz⟩⟩
    rw [RES.out.2.2.2.2.2, List.length_append, List.length_singleton]
    exact RES.out.2.1
  case done =>
    rintro xs W hS ⟨v, hv, ho, hn, hB, hz⟩ hD
    replace hS : xs.length = l.length + m.length := hS
    rw [hS, ← WL, List.take_length] at ho
    have v0 := Blk.at (cs := [v]) (k := 0) hv rfl
    have hv1 : w.heap.size + 1 < W.heap.size := hv.lt
    have HDD := Lib.hid hD
    have JW : Hid (Calls Tryd.prog 39 #[v, .string ⟨#[32]⟩] W fun e w' => e = .returned (.string (textB l m)) ∧ Grow.G W w') := Lib.hid (by
      by_cases h0 : (wordsL l m).length = 0
      · obtain ⟨sa, k, rfl⟩ := own_shape ho
        rw [h0]
        refine (Tryd.strings_Join_none sa k ⟨#[32]⟩ W).mono ?_
        rintro e w' ⟨rfl, rfl⟩
        refine ⟨?_, Grow.G.refl _⟩
        unfold textB
        rw [List.eq_nil_of_length_eq_zero h0]; rfl
      · obtain ⟨g, k, rfl, hg, hcap⟩ : ∃ g k, v = .slice (some ⟨g, 0, none⟩) (wordsL l m).length k ∧ w1.heap.size ≤ g ∧ (wordsL l m).length ≤ k := by
          rcases ho.2 with ⟨_, h1⟩ | ⟨g, cap, cur, h1, hb, hh, hnc, _⟩
          · exact (h0 h1).elim
          · exact ⟨g, cap, h1, hb, hnc⟩
        have hc := ho.cells (g := g) rfl
        exact Tryd.strings_Join g 0 k (wordsL l m) ⟨#[32]⟩ W (fun j y hj => by
          have := hc j (.string y) (by rw [List.getElem?_map, hj]; rfl)
          rwa [Args.addr_add0] at this) (by have := (ho.lt g rfl).2; omega) (by omega) hcap WS.out)
    have HB := Lib.hid (And.intro hB hz)
    clear ho hB hv hD hS
    gi_wp2_with fail
    refine ⟨trivial, rfl, (callsIn_wide.2 JW.out).mono ?_⟩
    rintro y W3 ⟨rfl, hg⟩
    gi_wp2_with fail
    have hD3 := (hg.block _ (Array.getElem?_eq_some_iff.1 HDD.out).1).trans HDD.out
    refine ⟨by simp, .inl ⟨_, _, rfl, run_takeDeferred hD3, ?_⟩⟩
    have BK : Iter.Book w.heap.size W3 (W3.putObj w1.heap.size (.deferred none)) := Iter.Book.putObj _ hD3 rfl (by omega)
    have sW := HB.out.1.size
    exact ⟨_, by simp [results, Tryd.results22, go_sem], rfl, (HB.out.1.trans (Below.mono hg sW)).trans (BK.below.mono (by have := hg.size; omega))⟩
end Go.Proofs.YtbagjeefoifpeaaDoor

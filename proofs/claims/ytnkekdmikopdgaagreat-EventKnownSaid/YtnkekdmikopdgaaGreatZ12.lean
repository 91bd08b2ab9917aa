/- My own texts Bytes, laid in one file. -/
import Derived.Test.YtnkekdmikopdgaaGreatZ11
/- What event's Bytes writes. -/
namespace Go.Proofs.YtnkekdmikopdgaaGreat
set_option maxRecDepth 100000
set_option linter.unusedVariables false
set_option linter.unusedSimpArgs false
set_option linter.unnecessarySimpa false
open Go.RowKit
attribute [local go_sem] Oper.semAt_some

theorem own_book {w w' : World} {base e sz n m : Nat} {v : Value} {xs : List Value} (ho : w.ownsRow base e sz v n xs) (h : Iter.Book m w w') : w'.ownsRow base e sz v n xs := by
  refine ⟨ho.1, ho.2.imp id ?_⟩
  rintro ⟨k, cap, cur, hv, hb, hh, rest⟩
  exact ⟨k, cap, cur, hv, hb, h.same k _ hh (.inl rfl), rest⟩
theorem own_cells {w : World} {base e sz n k : Nat} {v : Value} {xs : List Value} {o : Obj} (ho : w.ownsRow base e sz v n xs) (hv : v.ownBlock = some k) (hk : w.heap[k]? = some o) : o.isCells = true := by
  rcases ho.2 with ⟨rfl, _⟩ | ⟨b, cap, cur, rfl, hb, hh, rest⟩
  · cases hv
  · have : b = k := Option.some.inj hv
    subst this
    rw [hh] at hk; cases hk; rfl
def preB (e : EvD) (i : Nat) : List Int := oneB e.k ++ ((PT.specs e.k).take i).flatMap (PT.byt e)
theorem preB_succ {e : EvD} {i : Nat} {p : PT} (h : (PT.specs e.k)[i]? = some p) : preB e (i + 1) = preB e i ++ PT.byt e p := by
  unfold preB
  rw [List.take_add_one, h, List.flatMap_append, List.append_assoc]
  simp
theorem preB_all (e : EvD) : preB e (PT.specs e.k).length = e.bytes := by unfold preB; rw [List.take_length, bytes_parts]
theorem good_at {k : Int} {i : Nat} {p : PT} (h : (PT.specs k)[i]? = some p) : p.good := by
  unfold PT.specs at h
  have hm := List.mem_of_getElem? h
  repeat' split at hm
  all_goals
    simp only [List.mem_cons, List.mem_nil_iff, or_false] at hm
  all_goals first
    | exact hm.elim
    | (rcases hm with rfl | rfl | rfl | rfl <;> unfold PT.good <;> first | trivial | decide)
    | (rcases hm with rfl | rfl | rfl <;> unfold PT.good <;> first | trivial | decide)
    | (rcases hm with rfl | rfl <;> unfold PT.good <;> first | trivial | decide)
    | (subst hm; unfold PT.good; first | trivial | decide)
theorem errs_ok {e : EvD} (h : e.chk = 0) : 1 ≤ e.k ∧ e.k ≤ 13 ∧ ∀ (i : Nat) (p : PT), (PT.specs e.k)[i]? = some p → PT.err e p = 0 := by
  rw [chk_parts] at h
  split at h
  · cases h
  · split at h
    · cases h
    · refine ⟨by omega, by omega, fun i p hp => ?_⟩
      have hi := (List.getElem?_eq_some_iff.1 hp).1
      have := fst0_zero _ h i (by simpa using hi)
      simpa [List.getD, hp] using this
theorem last_l : ∀ (L : List PT), (∀ x ∈ L.dropLast, x ≠ .c ∧ x ≠ .r) → ∀ (j : Nat) (p : PT), L[j]? = some p → (p = .c ∨ p = .r) → j + 1 = L.length := by
  intro L hL j p hp hc
  have hj := (List.getElem?_eq_some_iff.1 hp).1
  rcases Nat.lt_or_ge (j + 1) L.length with h | h
  · have hm : p ∈ L.dropLast := by
      have : L.dropLast[j]? = some p := by rw [List.getElem?_dropLast, if_pos (by omega)]; exact hp
      exact List.mem_of_getElem? this
    have := hL p hm
    rcases hc with h | h
    · exact absurd h this.1
    · exact absurd h this.2
  · omega
theorem last_cr {k : Int} {j : Nat} (h : (PT.specs k)[j]? = some .c ∨ (PT.specs k)[j]? = some .r) : j + 1 = (PT.specs k).length := by
  have hL : ∀ x ∈ (PT.specs k).dropLast, x ≠ .c ∧ x ≠ .r := by
    unfold PT.specs
    repeat' split
    all_goals decide
  rcases h with h | h
  · exact last_l _ hL j _ h (.inl rfl)
  · exact last_l _ hL j _ h (.inr rfl)
theorem preB_len {e : EvD} (h : e.chk = 0) (i : Nat) (hi : i < (PT.specs e.k).length) : (preB e i).length ≤ 100 := by
  obtain ⟨h1, h2, he⟩ := errs_ok h
  have small : ∀ (j : Nat) (p : PT), j < i → (PT.specs e.k)[j]? = some p → (PT.byt e p).length ≤ 24 := by
    intro j p hj hp
    have hz := he j p hp
    have nc : p ≠ .c ∧ p ≠ .r := by
      constructor <;> rintro rfl
      · have := last_cr (.inl hp); omega
      · have := last_cr (.inr hp); omega
    cases p with
    | n lo hi => simp [PT.byt, fourB]
    | d lo hi => simp [PT.byt, fourB]
    | nm b =>
      simp only [PT.byt, txtB_len]
      cases b
      · have := name_size (nmdE_zero hz); omega
      · have := revB_size (nmdE_zero hz); omega
    | tg =>
      simp only [PT.byt, txtB_len]
      have h := nmdE_zero hz
      rw [Bool.or_eq_true] at h
      rcases h with h | h
      · have := strE_size h; omega
      · have := name_size h; omega
    | c => exact absurd rfl nc.1
    | r => exact absurd rfl nc.2
  have gen : ∀ m, m ≤ i → (preB e m).length ≤ 1 + 24 * m := by
    intro m
    induction m with
    | zero => intro _; simp [preB, oneB]
    | succ m ih =>
      intro hm
      have hlt : m < (PT.specs e.k).length := by omega
      obtain ⟨p, hp⟩ : ∃ p, (PT.specs e.k)[m]? = some p := ⟨_, List.getElem?_eq_getElem hlt⟩
      rw [preB_succ hp, List.length_append]
      have := ih (by omega)
      have := small m p (by omega) hp
      omega
  have := gen i (Nat.le_refl _)
  have := PT.specs_len e.k
  omega
/-- The bytes that are being written: their box, their row. -/
def BytI (w : World) (g bb : Nat) (e : EvD) (a : Option Addr) (c : Nat) (pre : List Value) (W : World) : Prop :=
  ∃ v, Blk W bb #[v] 41 ∧ OwnB W w.heap.size v (preB e pre.length) ∧ Blk W g (e.cells a c) 28 ∧ Below w.heap.size w W
set_option maxHeartbeats 4000000 in
theorem ebytes_any (e : EvD) (a : Option Addr) (c : Nat) (w : World) (hc : e.chk = 0) (ht : TgtSl w a e.ts) :
    Calls Tryz.prog 18 #[.agg (e.cells a c)] w fun x w' => ∃ v, x = .returned v ∧ OwnB w' w.heap.size v e.bytes ∧ Grow.G w w' := by
  have hEC : e.cells a c = #[.int .i64 e.k, .string e.nm, .string e.tg, .int .i64 e.n, .int .i64 e.dr, .string e.c.nm, .int .i64 e.c.im, .int .i64 e.c.co, .int .i64 e.c.mn, .int .i64 e.c.mx, .int .i64 e.c.gr, .string e.rn, .string e.rc, .slice a e.ts.length c, .int .i64 e.rr] := rfl
  obtain ⟨hk1, hk2, hes⟩ := errs_ok hc
  have PA := Lib.hid (preB_all e)
  have PLN := Lib.hid (preB_len hc)
  have HT := Lib.hid ht
  clear hc ht
  refine (callsIn_wide (n := 0)).1 ?_
  refine callsIn_of_wp_marks Tryz.func18 rfl trivial ?_
  simp only [Tryz.ntmps18, List.size_toArray, List.length_cons, List.length_nil, Nat.reduceAdd, Nat.reduceSub, Array.replicate_succ, Array.replicate_zero, List.push_toArray, List.append_toArray, List.nil_append, List.cons_append]
  rw [hEC]
  gi_wp2_with fail
  have O0 : OwnB (w.alloc (.cells (e.cells a c) 28)) w.heap.size (.slice none 0 0) [] := ⟨rfl, .inl ⟨rfl, rfl⟩⟩
  refine ⟨trivial, rfl, (callsIn_wide.2 (put1_any w.heap.size (.slice none 0 0) [] e.k _ O0 (by simp) (by simp) ⟨by omega, by omega⟩)).mono ?_⟩
  rintro x w1 ⟨v1, rfl, O1, F1⟩
  have B0 : Blk w1 w.heap.size (e.cells a c) 28 := (F1.keep (by simp) (by intro h; cases h)).1.trans (Blk.new w _ _)
  have GA : Grow.G w w1 := Below.trans (Below.alloc (Below.refl _ _) (Nat.le_refl _) _) (Chg.below (Chg.ofFr F1) (by simp) (fun k hk q => by cases q))
  obtain ⟨rb1, rc1, rfl, hrb⟩ := own_some O1 (by simp [oneB])
  replace O1 : OwnB w1 w.heap.size (.slice (some ⟨rb1, 0, none⟩) 1 rc1) (preB e 0) := by
    have : preB e 0 = [] ++ oneB e.k := by simp [preB]
    rw [this]; exact O1
  have hw1 : w.heap.size < w1.heap.size := B0.lt
  have e0 := evcell B0 (i := 0) rfl
  clear F1 O0
  gi_wp2_with fail
  have G2 := Grow.G.alloc (Grow.G.refl w1) (.cells #[.slice (some ⟨rb1, 0, none⟩) 1 rc1] 41)
  have B2 := B0.grow G2
  have O2 : OwnB _ w.heap.size (.slice (some ⟨rb1, 0, none⟩) 1 rc1) (preB e 0) := own_later O1 G2
  have V2 := Blk.new w1 #[.slice (some ⟨rb1, 0, none⟩) 1 rc1] 41
  replace GA := GA.trans G2
  clear B0 O1 G2
  refine ⟨trivial, rfl, (callsIn_wide.2 (parts_new _ _)).mono ?_⟩
  rintro x w3 ⟨kb, rfl, hkb, hk, hg3⟩
  gi_wp2_with fail
  replace GA := GA.trans hg3
  replace B2 := B2.grow hg3
  replace V2 := V2.grow hg3
  replace O2 : OwnB w3 w.heap.size (.slice (some ⟨rb1, 0, none⟩) 1 rc1) (preB e 0) := own_later O2 hg3
  have hw3 : w1.heap.size < w3.heap.size := V2.lt
  clear e0 hg3
  generalize w1.heap.size = bb at *
  refine Iter.range (gf := 55) (lb := #[ptr kb]) (encs := fun v => #[v]) (Ok := PartOk e.k) (Kp := fun _ _ => True) (S := fun xs => xs.length = (PT.specs e.k).length) rfl (enters_of Tryz.func55 (by kernel_rfl) rfl) (parts_seq e.k kb w3 _ hk) (Grow.G.refl _) (fun _ => rfl) (fun s x A B h b => partOk_book h b) (fun _ _ => trivial) (fun _ => trivial)
    (BytI w w.heap.size bb e a c) (fun _ _ _ => False) ?hI (fun _ _ _ _ h _ => h) ?h0 ?round ?done (fun _ _ _ h => h.elim)
  case hI =>
    rintro s A B ⟨v, hv, ho, hb, hB⟩ hbk
    exact ⟨v, hv.book hbk, own_book ho hbk, hb.book hbk, hB.trans (hbk.below.mono (by have := hB.size; omega))⟩
  case h0 => exact ⟨_, V2, O2, B2, GA⟩
  case round =>
    rintro l pre x W hl ⟨v, hv, ho, hb, hB⟩ ⟨p, hp, hpt⟩
    obtain ⟨F1, F2, F3, F4, pa, pb, rfl, fs⟩ := part_fs hpt
    have n1 := fs.e3
    unfold Ent at n1
    have PS := preB_succ hp
    have PL1 : 1 ≤ (preB e pre.length).length := by unfold preB oneB; simp
    have PL2 := PLN.out pre.length (List.getElem?_eq_some_iff.1 hp).1
    have HE := hes _ _ hp
    have HGD := good_at hp
    simp only [zip_one, List.setIfInBounds_toArray, List.set_cons_zero, List.set_cons_succ]
    gi_wp2_with fail
    refine ⟨Grow.G.alloc (Grow.G.refl _) _, fun W₂ hbk hok => ?_⟩
    have hgW := (Grow.G.alloc (Grow.G.refl W) (.cells #[.func (.func F1) #[] #[ptr pa], .func (.func F2) #[] #[ptr pb, ptr pa], .func (.func F3) #[] #[ptr pb, ptr pa], .func (.func F4) #[] #[ptr pb, ptr pa]] 73))
    have q0 := ((Blk.new W #[.func (.func F1) #[] #[ptr pa], .func (.func F2) #[] #[ptr pb, ptr pa], .func (.func F3) #[] #[ptr pb, ptr pa], .func (.func F4) #[] #[ptr pb, ptr pa]] 73).book hbk).cell 2
    simp at q0
    have P2 := (hpt.book (Iter.Book.grow (n := 0) hgW)).book hbk
    have C2 := (hb.grow hgW).book hbk
    have V2 := (hv.grow hgW).book hbk
    have OW2 : OwnB W₂ w.heap.size v (preB e pre.length) := own_book (own_later ho hgW) hbk
    have BW := ((hB.trans (Below.mono hgW hB.size)).trans (hbk.below.mono (by have := hB.size; have := hgW.size; omega)))
    have v0 := evcell V2 (i := 0) rfl
    have CALL := fs.wrt w.heap.size v _ e w.heap.size a c W₂ P2 C2 OW2 BW.size ⟨PL1, by omega⟩ HE HGD (fun w' h => HT.out.later (BW.trans h))
    have NV : ¬ v.ownBlock = some bb := own_apart OW2 PL1 V2 (by
      intro z hz
      obtain ⟨b, c, rfl, _⟩ := own_some OW2 PL1
      simp at hz)
    have NG : ¬ v.ownBlock = some w.heap.size := own_apart OW2 PL1 C2 (by intro z; simp [EvD.cells])
    have H := Lib.hid (And.intro C2 (And.intro V2 (And.intro OW2 (And.intro BW (And.intro NV (And.intro NG PL1))))))
    have HPS := Lib.hid PS
    clear C2 V2 OW2 BW NV NG PL1 PS P2 hgW hbk hok hb hv ho hB HE HGD
    gi_wp2_with fail
    refine ⟨trivial, rfl, (CallsIn.inRound l (callsIn_wide.2 CALL)).mono ?_⟩
    rintro y W₃ ⟨v3, rfl, O3, F3'⟩
    rw [← HPS.out] at O3
    obtain ⟨C2, V2, OW2, BW, NV, NG, PL1⟩ := H.out
    have V3 : Blk W₃ bb #[v] 41 := V2.chg (Chg.ofFr F3') NV
    have C3 := C2.chg (Chg.ofFr F3') NG
    have O3l : 1 ≤ (preB e (pre.length + 1)).length := by unfold preB oneB; simp
    obtain ⟨rb3, rc3, hv3, hrb3⟩ := own_some O3 O3l
    have BW3 := BW.trans ((Chg.ofFr F3').below BW.size (fun k hk q => by have := (OW2.lt k q).1; omega))
    have RT : Iter.Rest w3.heap.size W₂ W₃ := (Chg.ofFr F3').rest (fun k _ q o ho => own_cells OW2 q ho)
    have NV3 : ¬ v3.ownBlock = some bb := own_apart O3 O3l V3 (by
      intro z hz
      obtain ⟨b, c, rfl, _⟩ := own_some OW2 PL1
      simp at hz)
    subst hv3
    have r0 := evcell V3 (i := 0) rfl
    have rf := V3.free 0
    have rl := V3.lt
    have H2 := Lib.hid (And.intro V3 (And.intro C3 (And.intro O3 (And.intro BW3 (And.intro RT NV3)))))
    clear V3 C3 O3 BW3 RT NV3 C2 V2 OW2 BW NV NG PL1 H CALL F3' n1 q0 v0
    gi_wp2_with fail
    obtain ⟨V3, C3, O3, BW3, RT, NV3⟩ := H2.out
    have CS : Chg (fun k => k = bb) W₃ (W₃.setCell ⟨bb, 0, none⟩ (.slice (some ⟨rb3, 0, none⟩) (preB e (pre.length + 1)).length rc3)) := Chg.setCell (G := fun k => k = bb) (Chg.refl _ _) (fun _ => rfl) _ _
    refine ⟨RT.trans (Iter.Rest.setCell _ _ _), trivial, ⟨_, V3.set 0 _, ?_, C3.other (by omega) _ _, BW3.trans (CS.below BW3.size (fun k hk q => by have q : k = bb := q; omega))⟩⟩
    rw [List.length_append, List.length_singleton]
    exact CS.own O3 (fun k hk q => by have q : k = bb := q; subst q; exact NV3 hk)
  case done =>
    rintro xs W hS ⟨v, hv, ho, hb, hB⟩ hD
    replace hS : xs.length = (PT.specs e.k).length := hS
    rw [hS, PA.out] at ho
    have v0 := evcell hv (i := 0) rfl
    have HO := Lib.hid ho
    have HB := Lib.hid hB
    have HDD := Lib.hid hD
    clear ho hb hB hv hD hS
    gi_wp2_with fail
    have sW := HB.out.size
    refine ⟨by simp, .inl ⟨_, _, rfl, run_takeDeferred HDD.out, ?_⟩⟩
    have BK : Iter.Book w.heap.size W (W.putObj w3.heap.size (.deferred none)) := Iter.Book.putObj _ HDD.out rfl (by omega)
    exact ⟨v, by simp [results, Tryz.results18, go_sem], v, rfl, own_book HO.out BK, HB.out.trans (BK.below.mono (by omega))⟩
end Go.Proofs.YtnkekdmikopdgaaGreat

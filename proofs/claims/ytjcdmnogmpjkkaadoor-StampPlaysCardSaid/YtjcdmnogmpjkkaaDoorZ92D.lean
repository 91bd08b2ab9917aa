/- My own texts BpI, BpC, BpK, BkH, laid in one file. -/
import Derived.Test.YtjcdmnogmpjkkaaDoorZ92C
import Derived.Test.YtjcdmnogmpjkkaaDoorZ83
import Derived.Test.YtjcdmnogmpjkkaaDoorZ37
import Derived.Test.YtjcdmnogmpjkkaaDoorZ2
import Derived.Test.YtjcdmnogmpjkkaaDoorZ29
import Derived.Sort.MapsRangeIn
import Derived.RangeFuncNested
import Derived.RangeFuncBound
import Derived.Shelf.SlIter.Nil
import Derived.TacticsInMore
import Derived.LoopNIn
import Derived.LoopIn
import Derived.OwnWalkIn
import Derived.Test.YtjcdmnogmpjkkaaDoorZ3
import Derived.Test.YtjcdmnogmpjkkaaDoorZ48
import Derived.Test.YtjcdmnogmpjkkaaDoorSorted
import Derived.Sort.OwnSorted
import Derived.Test.YtjcdmnogmpjkkaaDoorZ1
import Derived.Handy

/- The program's books: what names yields. -/
namespace Go.Proofs.YtjcdmnogmpjkkaaDoor
set_option maxRecDepth 100000
set_option linter.unusedVariables false
set_option linter.unusedSimpArgs false
set_option linter.unnecessarySimpa false
open Go.RowKit Go.MapV Go.Maps
attribute [local go_sem] Oper.semAt_some

theorem rangesB {P : Program} {k : TypeId} {R : Value → Option (DataW Value × List MemPlace)} {w w' : World} {b r n cnt : Nat} {D : DataW Value} {left : Lit → Bool} (h : w.ranges P k R b r n D left cnt) (h1 : w'.heap[b]? = w.heap[b]?) (h2 : w'.heap[r]? = w.heap[r]?) : w'.ranges P k R b r n D left cnt := by
  obtain ⟨es, clock, since, seen, c0, hb, F, hs, hD, hr, rest⟩ := h
  exact ⟨es, clock, since, seen, c0, h1.trans hb, F, hs, hD, h2.trans hr, rest⟩
theorem Tab.keep {w w' : World} (h : Tab w) (hb : Iter.KeepP (fun k => k < w.heap.size) w w') : Tab w' := by
  unfold Tab Lib.TabIs World.var? at *
  cases hg : Tryd.prog.globalNamed "internal/strconv.uint64pow10" with
  | none => rw [hg] at h; simp at h
  | some g =>
    rw [hg] at h
    simp only [Option.bind_some] at h ⊢
    have hlt : g < w.heap.size := by
      rcases Nat.lt_or_ge g w.heap.size with h' | h'
      · exact h'
      · rw [Array.getElem?_eq_none h'] at h; simp at h
    rw [hb.2 g hlt hlt]; exact h
/-- Those that have been yielded. -/
def ColR (l : List Rv) (left : Lit → Bool) (rs : List Rv) : Prop := rs.Nodup ∧ (∀ r, r ∈ rs → r ∈ l) ∧ ∀ r, r ∈ l → (left (markL r.c.nm r.gn) = false ↔ r ∈ rs)
theorem book_nodup {l : List Rv} (ok : BkOk l) : l.Nodup := ok.apart.imp fun {a b} h e => h (by rw [e])
theorem ColR.start {l : List Rv} {D : DataW Value} (ok : BkOk l) (ha : ∀ kl z, D.atKey kl z = valOr (fK allR cfgV l kl) z) : ColR l (Maps.has D) [] := by
  refine ⟨List.nodup_nil, fun r h => (by cases h), fun r hr => ⟨fun h => ?_, fun h => by cases h⟩⟩
  rw [has_eq ha] at h
  have : (fK allR cfgV l (markL r.c.nm r.gn)).isSome = true := by
    unfold fK markL
    rw [Option.isSome_map, List.find?_isSome]
    exact ⟨r, hr, by unfold allR; simp⟩
  rw [this] at h; cases h
theorem ColR.perm {l rs : List Rv} {left : Lit → Bool} (ok : BkOk l) (h : ColR l left rs) (h0 : ∀ kl, left kl = false) : rs.Perm l :=
  (List.perm_ext_iff_of_nodup h.1 (book_nodup ok)).2 fun r => ⟨h.2.1 r, fun hr => (h.2.2 r hr).1 (h0 _)⟩
/-- What comes next is one that has not come. -/
theorem ColR.next {l rs : List Rv} {left : Lit → Bool} {D : DataW Value} {kl : Lit} {s : ByteArray} {n : Int} (ok : BkOk l) (ha : ∀ kl z, D.atKey kl z = valOr (fK allR cfgV l kl) z) (h : ColR l left rs) {y : DataW Value} (hk : keyOf Tryd.prog markT (markV s n) = some kl) (hl : left kl = true) (hat : ∀ zd, D.atKey kl zd = y)
    (hs : s.size ≤ maxLen) (hn : wf64 n) : ∃ r, r ∈ l ∧ r.c.nm = s ∧ r.gn = n ∧ r.nm = revS s n ∧ ColR l (fun z => left z && !z.sameKey kl) (rs ++ [r]) := by
  have e0 : kl = markL s n := Option.some.inj (hk.symm.trans (keyM hs hn))
  subst e0
  have h1 : (fK allR cfgV l (markL s n)).isSome = true := by
    cases q : fK allR cfgV l (markL s n) with
    | some _ => rfl
    | none =>
      have a1 := (ha (markL s n) (.held (.bool false))).symm.trans (hat _)
      have a2 := (ha (markL s n) (.held (.bool true))).symm.trans (hat _)
      rw [q] at a1 a2
      have := a1.trans a2.symm
      unfold valOr at this
      have := DataW.held.inj this
      cases this
  rw [fK_at ok hs hn, Option.isSome_map] at h1
  obtain ⟨r, hr⟩ := Option.isSome_iff_exists.1 h1
  have hm := List.mem_of_find?_eq_some hr
  have hp := List.find?_some hr
  simp only [Bool.and_eq_true, decide_eq_true_eq] at hp
  obtain ⟨_, q1, q2⟩ := hp
  have hnr : r ∉ rs := fun q => by
    have := (h.2.2 r hm).2 q
    rw [q1, q2, hl] at this; cases this
  refine ⟨r, hm, q1, q2, by rw [(ok.rev r hm).1, q1, q2], ?_, fun x hx => ?_, fun x hx => ?_⟩
  · rw [List.nodup_append]
    exact ⟨h.1, List.nodup_cons.2 ⟨by simp, List.nodup_nil⟩, fun a ha b hb e => by rw [List.mem_singleton] at hb; subst hb; exact hnr (e ▸ ha)⟩
  · rcases List.mem_append.1 hx with hx | hx
    · exact h.2.1 x hx
    · rw [List.mem_singleton] at hx; subst hx; exact hm
  · have hx2 := (ok.rev x hx).2.1
    obtain ⟨b1, b2⟩ := rev_bd hx2
    have key : (markL x.c.nm x.gn).sameKey (markL s n) = true ↔ x = r := by
      constructor
      · intro e
        obtain ⟨e1, e2⟩ := markL_inj b1 hs b2 hn (WideAt.sameKey_eq e)
        have f1 := findK_of ok hx
        have f2 := findK_of ok hm
        rw [(ok.rev x hx).1, e1, e2, ← q1, ← q2, ← (ok.rev r hm).1, f2] at f1
        exact (Option.some.inj f1).symm
      · rintro rfl
        rw [q1, q2]
        exact WideAt.sameKey_self trivial
    show (left _ && !_) = false ↔ _
    rw [Bool.and_eq_false_iff, List.mem_append, List.mem_singleton, ← h.2.2 x hx]
    refine or_congr Iff.rfl ?_
    rw [Bool.not_eq_false', key]
def encN (x : ByteArray) : Array Value := #[.string x]
def OkN (l : List Rv) (pre : List ByteArray) (_ : ByteArray) (_ : World) : Prop := pre.length < l.length
abbrev ledT : TypeId := 93
theorem names_any (g : Nat) (w : World) : Calls Tryd.prog 47 #[.pointer (some ⟨g, 0, none⟩)] w fun e w' => e = .returned (.func (.func 58) #[] #[pz w.heap.size]) ∧ Blk w' w.heap.size #[.pointer (some ⟨g, 0, none⟩)] ledT ∧ Grow.G w w' := by
  go_enter Tryd.func47, Tryd.ntmps47
  go_wp2_with fail
  go_ret
  exact ⟨rfl, Blk.new w _ _, Grow.G.alloc (Grow.G.refl _) _⟩
set_option maxHeartbeats 8000000 in
theorem names_seq (bm g b n : Nat) (l : List Rv) (w : World) (hbm : Blk w bm #[.pointer (some ⟨g, 0, none⟩)] ledT) (hg : w.cell? ⟨g, 0, none⟩ = some (.map (some b))) (hgl : g < w.heap.size) (hm : MapB Tryd.prog markT w b n (fK allR cfgV l)) (hn : n ≤ l.length) (ok : BkOk l) (ht : Tab w) :
    Iter.SeqQ Tryd.prog 58 #[pz bm] encN (OkN l) (Iter.KeepP (fun k => k < w.heap.size)) (fun xs => xs.Perm (l.map Rv.nm)) w := by
  intro ln J Jx W hG hJ hJx hY h0
  obtain ⟨D, hown, ha⟩ := hm
  have hown' : W.ownsMap Tryd.prog markT RV b n D := by
    have hbl := hown.lt
    obtain ⟨es, clock, hb, Ft, hs, hD⟩ := hown
    exact ⟨es, clock, (hG.block b hbl).trans hb, Ft, hs, hD⟩
  have hbl := hown.lt
  have hsz := hown.size_le
  have a0 := (hG.cell (p := ⟨bm, 0, none⟩) hbm.lt).trans (Blk.at (cs := [Value.pointer (some ⟨g, 0, none⟩)]) (k := 0) hbm rfl)
  have a1 := (hG.cell (p := ⟨g, 0, none⟩) hgl).trans hg
  have l1 : bm < W.heap.size := Nat.lt_of_lt_of_le hbm.lt hG.size
  have l2 : g < W.heap.size := Nat.lt_of_lt_of_le hgl hG.size
  have HJ := Lib.hid hJ
  have HY := Lib.hid hY
  have H0 := Lib.hid h0
  have HG := Lib.hid hG
  have HOK := Lib.hid ok
  have HA := Lib.hid ha
  have HT := Lib.hid ht
  have HO := Lib.hid hown'
  have hGs := hG.size
  clear hJ hJx hY h0 hG ok ha ht hown hown' hbm hg
  refine (callsIn_wide (n := 0)).1 ?_
  refine callsIn_of_wp Tryd.func58 rfl trivial ?_
  simp only [Tryd.ntmps58, List.size_toArray, List.length_cons, List.length_nil, Nat.reduceAdd, Nat.reduceSub, Array.replicate_succ, Array.replicate_zero, List.push_toArray, List.append_toArray, List.nil_append, List.cons_append]
  gi_wp2_with (gi_at_range; refine wpListIn_range_own _ rfl _ 62 rfl markT 33 keyedM Tryd.underlying62 RV b n _ rfl HO.out ?_; intro w0 hrg0 hg0 hs0)
  have gw0 : Grow.G W w0 := ⟨hg0.os, hg0.tape, hg0.output, hg0.size, fun k hk => hg0.block k hk (by simp)⟩
  have JS := Lib.hid (H0.out (fun _ => False) w0 gw0 (fun k h => h.elim))
  have KS := Lib.hid (Iter.KeepP.grow (p := fun k => k < w.heap.size) (Grow.G.trans HG.out gw0))
  have RS := Lib.hid hrg0
  clear hrg0 hg0 hs0 gw0
  go_frame
  gi_loopw [3] (fun _ wr => ∃ (left : Lit → Bool) (cnt : Nat) (rs : List Rv), Hid (wr.ranges Tryd.prog markT RV b W.heap.size n D left cnt) ∧ rs.length + cnt ≤ Maps.size D ∧ Hid (ColR l left rs) ∧ Hid (J (fun _ => False) (rs.map Rv.nm) wr) ∧ Hid (Iter.KeepP (fun k => k < w.heap.size) w wr)) (fun _ wr => wr.rangeLeft b W.heap.size)
  case atStart => exact ⟨_, _, [], RS, by simp, Lib.hid (ColR.start HOK.out HA.out), JS, KS⟩
  case round =>
    clear JS KS RS a0 a1
    obtain ⟨left, cnt, rs, hrg, hcs, hC, hJs, hK⟩ := hrel
    gi_wp2_with (gi_at_next; refine wpListIn_next_ranges (α := ByteArray × Int) (β := Value) _ rfl _ rfl markT keyedM RV (fun x => markV x.1 x.2) id (fun key kl hk => by obtain ⟨s, n, e, _⟩ := key_markV hk; exact ⟨(s, n), e⟩) (fun v _ _ => ⟨v, rfl⟩) b W.heap.size n _ _ _ rfl hrg.out ?_ ?_)
    · -- nothing is left
      intro hc0 hl0
      gi_wp2_with fail
      go_end0
      exact ⟨⟨_, rfl⟩, fun _ => False, .inl ⟨rs.map Rv.nm, (hC.out.perm HOK.out hl0).map Rv.nm, hJs.out⟩⟩
    · -- one has come
      intro s m c kl y yp w2 cnt2 hkey hlk hv hat hrg2 hlt hg2 hs2 hen
      (try dsimp only at hkey); (try dsimp only at hen)
      obtain ⟨s', m', e', zs, zm⟩ := key_markV hkey
      obtain ⟨rfl, rfl⟩ : s = s' ∧ m = m' := by unfold markV at e'; simpa using e'
      obtain ⟨r, hr1, hr2, hr3, hr4, hC2⟩ := hC.out.next HOK.out HA.out hkey hlk hat zs zm
      have hwalk := hrg.out.iter_walk
      have BK2 : Iter.Book W.heap.size wr w2 := ⟨hg2.os, hg2.tape, hg2.output, hg2.size, fun k o hk ho => (hg2.block k (Array.getElem?_eq_some_iff.1 hk).1 (fun e => by
        obtain rfl : k = W.heap.size := Option.some.inj e
        obtain ⟨o', h1, h2⟩ := hwalk
        rw [hk] at h1
        obtain rfl := Option.some.inj h1
        rcases ho with ho | ho
        · cases o <;> first | (cases h2; done) | (simp [Obj.isCells] at ho; done)
        · omega)).trans hk⟩
      have J2 := HJ.out _ _ _ _ hJs.out BK2
      have K2 : Iter.KeepP (fun k => k < w.heap.size) wr w2 := ⟨hg2.size, fun k hk hk2 => hg2.block k hk2 (fun e => by have := Option.some.inj e; omega)⟩
      have K2 := hK.out.trans K2
      unfold markV at hen
      have R2 := Lib.hid hrg2
      have J2 := Lib.hid J2
      have K2 := Lib.hid K2
      have C2 := Lib.hid hC2
      have NM := Lib.hid (fun (w' : World) (h : Grow.G w2 w') => name12_any s m w' zs zm (HT.out.keep (K2.out.trans (Iter.KeepP.grow h))))
      rw [← hr4] at NM
      have hrl := Lib.hid hrg.out.left_eq
      clear hkey hlk hv hat hrg2 hg2 BK2 hC2 hK hC hJs e' hrg hr4 hr2 hr3
      gi_wp2_with fail
      refine ⟨trivial, rfl, (callsIn_wide.2 (NM.out _ (Grow.G.alloc (Grow.G.refl _) _))).mono ?_⟩
      rintro e w3 ⟨rfl, g3⟩
      have gg := Grow.G.trans (Grow.G.alloc (Grow.G.refl w2) (.cells #[.string s, .int .i64 m] 75)) g3
      have J3 := HJ.out _ _ _ _ J2.out (Iter.Book.grow gg)
      have K3 := Lib.hid (K2.out.trans (Iter.KeepP.grow gg))
      have hb2 := R2.out.owns.lt
      have hr2' := R2.out.lt
      have R3 := Lib.hid (rangesB R2.out (gg.block b hb2) (gg.block _ hr2'))
      obtain ⟨fn, tmps, assign, body, hy, hR⟩ := HY.out _ _ r.nm _ J3 (show (rs.map Rv.nm).length < l.length by rw [List.length_map]; omega)
      unfold encN at hy
      have hbw : b < w3.heap.size := Nat.lt_of_lt_of_le hb2 gg.size
      clear J3 gg NM R2 J2 K2 g3 hen
      gi_wp2_with fail
      refine ⟨rfl, hR.mono ?_⟩
      rintro e w4 (⟨rfl, hj, hp, hk, hrest⟩ | ⟨rfl, hx, -⟩)
      · have R4 := Lib.hid (rangesB R3.out (hk.2 b hbl hbw) (by
          obtain ⟨o, h1, h2⟩ := R3.out.iter_walk
          rw [h1]
          exact hrest.same _ o h1 (by cases o <;> first | (cases h2; done) | rfl) (Nat.le_refl _)))
        have J4 := Lib.hid hj
        have K4 := Lib.hid (K3.out.trans hk)
        clear hj hp hk hrest hR hy R3 K3
        gi_wp2_with fail
        go_roundw
        case rel => exact ⟨_, cnt2, rs ++ [r], R4, by rw [List.length_append, List.length_singleton]; omega, C2, Lib.hid (by rw [List.map_append]; exact J4.out), K4⟩
        case measure => rw [R4.out.left_eq, hrl.out]; exact hlt
      · have HX := Lib.hid hx
        clear hx hR hy
        gi_wp2_with fail
        refine bodyPost_ret (results_none rfl _ _ _) rfl ?_
        exact ⟨⟨_, rfl⟩, fun _ => False, .inr ⟨_, HX.out⟩⟩
end Go.Proofs.YtjcdmnogmpjkkaaDoor

/- The program's books: All. -/
namespace Go.Proofs.YtjcdmnogmpjkkaaDoor
set_option maxRecDepth 100000
set_option linter.unusedVariables false
set_option linter.unusedSimpArgs false
set_option linter.unnecessarySimpa false
open Go.RowKit Go.MapV Go.Maps Go.Args
attribute [local go_sem] Oper.semAt_some

abbrev strsT : TypeId := 55
set_option maxHeartbeats 4000000 in
theorem names_nil (bm g : Nat) (l : List Rv) (F : Nat → Prop) (w : World) (hbm : Blk w bm #[.pointer (some ⟨g, 0, none⟩)] ledT) (hg : w.cell? ⟨g, 0, none⟩ = some (.map none)) (hgl : g < w.heap.size) :
    Iter.SeqQ Tryd.prog 58 #[pz bm] encN (OkN l) (Iter.KeepP F) (fun xs => xs = []) w := by
  intro ln J Jx W hG hJ hJx hY h0
  have a0 := (hG.cell (p := ⟨bm, 0, none⟩) hbm.lt).trans (Blk.at (cs := [Value.pointer (some ⟨g, 0, none⟩)]) (k := 0) hbm rfl)
  have a1 := (hG.cell (p := ⟨g, 0, none⟩) hgl).trans hg
  have l1 : bm < W.heap.size := Nat.lt_of_lt_of_le hbm.lt hG.size
  have l2 : g < W.heap.size := Nat.lt_of_lt_of_le hgl hG.size
  have H0 := Lib.hid h0
  clear hJ hJx hY h0 hG hbm hg
  refine (callsIn_wide (n := 0)).1 ?_
  refine callsIn_of_wp Tryd.func58 rfl trivial ?_
  simp only [Tryd.ntmps58, List.size_toArray, List.length_cons, List.length_nil, Nat.reduceAdd, Nat.reduceSub, Array.replicate_succ, Array.replicate_zero, List.push_toArray, List.append_toArray, List.nil_append, List.cons_append]
  have hrg := run_range_nilMap (P := Tryd.prog) W 62 markT 33 Tryd.underlying62
  have hnx : ∀ ty, (Instr.next (.pointer (some ⟨W.heap.size, 0, none⟩)) false ty).run Tryd.prog (W.alloc (.mapIter none 0 #[] 0)) = _ := fun ty => run_next_nilMap _ ty 0 0 #[]
  gi_wp2_with fail
  refine wpIn_loop_rounds 1 ?_
  rw [roundsIn_succ]
  gi_wp2_with fail
  go_end0
  exact ⟨⟨_, rfl⟩, fun _ => False, .inl ⟨[], rfl, H0.out _ _ (Grow.G.alloc (Grow.G.refl _) _) (fun k h => h.elim)⟩⟩
/-- What has been collected. -/
def ColN (w : World) (N : Nat) (p : Nat → Prop) (pre : List ByteArray) (W : World) : Prop :=
  ∃ v, Blk W w.heap.size #[v] strsT ∧ W.ownsRow w.heap.size 9 1 v pre.length (pre.map Value.string) ∧ pre.length ≤ N ∧ (∀ k, p k → v.ownBlock ≠ some k ∧ k ≠ w.heap.size) ∧ Below w.heap.size w W
theorem keep_below12 {p : Nat → Prop} {N : Nat} {A B : World} (h : Below N A B) (hp : ∀ k, p k → k < N) : Iter.KeepP p A B := ⟨h.size, fun k hk _ => h.block k (hp k hk)⟩
set_option maxHeartbeats 4000000 in
theorem appseq12_any (gf : FuncId) (lb : Array Value) (eg : ∀ args w, (callFunc gf args).run Tryd.prog w = .ok (.enter gf args) w) (F : Nat → Prop) (l : List Rv) (S : List ByteArray → Prop) (w : World) (hF : ∀ k, F k → k < w.heap.size) (hL : l.length ≤ 1000)
    (hseq : Iter.SeqQ Tryd.prog gf lb encN (OkN l) (Iter.KeepP F) S w) :
    Calls Tryd.prog 66 #[.slice none 0 0, .func (.func gf) #[] lb] w fun e w' => ∃ v xs, e = .returned v ∧ S xs ∧ w'.ownsRow w.heap.size 9 1 v xs.length (xs.map Value.string) ∧ Grow.G w w' := by
  have HF := Lib.hid hF
  refine (callsIn_wide (n := 0)).1 ?_
  refine callsIn_of_wp_marks Tryd.func66 rfl trivial ?_
  simp only [Tryd.ntmps66, List.size_toArray, List.length_cons, List.length_nil, Nat.reduceAdd, Nat.reduceSub, Array.replicate_succ, Array.replicate_zero, List.push_toArray, List.append_toArray, List.nil_append, List.cons_append]
  gi_wp2_with fail
  have B1 := Blk.new w #[.slice none 0 0] strsT
  have GA := Grow.G.alloc (Grow.G.refl w) (.cells #[.slice none 0 0] strsT)
  obtain ⟨w1, hw1⟩ : ∃ w1, w1 = w.alloc (.cells #[.slice none 0 0] strsT) := ⟨_, rfl⟩
  rw [← hw1] at B1 GA ⊢
  have hsz : w1.heap.size = w.heap.size + 1 := by rw [hw1]; simp
  clear hw1
  refine Iter.rangeQ (gf := gf) (lb := lb) (encs := encN) (Ok := OkN l) (Kp := Iter.KeepP F) (S := S) rfl eg hseq GA (fun _ => rfl) (fun s x A B h b => h) Iter.KeepP.trans (fun h => Iter.KeepP.book h (fun k hk => by have := HF.out k hk; omega))
    (ColN w l.length) (fun _ _ _ _ => False) ?hI (fun _ _ _ _ _ h _ => h) ?h0 ?round ?done (fun _ _ _ _ h => h.elim)
  case hI =>
    rintro p s A B ⟨v, hv, ho, hn, hp, hB⟩ hbk
    exact ⟨v, hv.book hbk, own_book' ho hbk, hn, hp, hB.trans (hbk.below.mono (by have := hB.size; omega))⟩
  case h0 =>
    rintro p W' hg' hpv
    exact ⟨_, B1.grow hg', World.ownsRow_nil _ _ _ _, Nat.zero_le _, fun k hk => ⟨fun e => (by cases e), (by have := (hpv k hk).1; omega)⟩, GA.trans hg'⟩
  case round =>
    rintro p ln pre x W hl2 ⟨v, hv, ho, hn, hp, hB⟩ hok hpv
    simp only [encN, Iter.zip1, List.setIfInBounds_toArray, List.set_cons_zero, List.set_cons_succ]
    have hx : (pre ++ [x]).map Value.string = pre.map Value.string ++ [.string x] := by rw [List.map_append]; rfl
    have hlt : pre.length < l.length := hok
    gi_wp2_with fail
    refine ⟨Grow.G.refl _, fun W₂ hbk _ => ?_⟩
    have V2 := hv.book hbk
    have O2 := own_book' ho hbk
    have BW := hB.trans (hbk.below.mono (by have := hB.size; omega))
    have HPV := Lib.hid (hpv.book hbk)
    have NV : ¬ v.ownBlock = some w.heap.size := own_blk_types O2 V2 (by decide)
    have v0 := Blk.at (cs := [v]) (k := 0) V2 rfl
    obtain ⟨i0, hi, hz0, hz1, hz2⟩ := info_parts infoS
    have H := Lib.hid (And.intro V2 (And.intro O2 (And.intro BW (And.intro hp NV))))
    have HXX := Lib.hid hx
    have sW2 := BW.size
    clear V2 O2 BW hbk hok hv hB ho NV hp hx hpv
    gi_wp2_with (gi_at_builtin; refine Fr.wpListIn_append_fr _ rfl _ _ strsT rfl w.heap.size 9 i0 (.string ⟨#[]⟩) 1 16 Tryd.underlying55 hi hz0 hz1 hz2 rfl (by decide) _ _ _ rfl (own_later H.out.2.1 (Grow.G.alloc (Grow.G.refl _) _)) ⟨W₂.heap.size, 0, none⟩ 1 1 [.string x] rfl rfl (news_new _ _ _ _ rfl) (by intro u hu; simp at hu; subst hu; rfl) (by unfold maxLen; omega) (by omega) (by simp; omega) ?_; intro v' w' hown hfr; obtain ⟨g9, c9, rfl, hg9⟩ := own_some hown (by omega); have V3 := (H.out.1.grow (Grow.G.alloc (Grow.G.refl _) _)).chg (Chg.ofFr hfr) H.out.2.2.2.2; have e0 := Blk.at (cs := [v]) (k := 0) V3 rfl; have f0 := V3.free 0; have l0 := V3.lt; have AP := Chg.trans (Chg.grow (Grow.G.alloc (Grow.G.refl _) _)) (Chg.ofFr hfr); have HW := Lib.hid (And.intro V3 (And.intro AP (And.intro hown hfr))); clear V3 AP hown hfr)
    obtain ⟨V3, AP, OW, FR⟩ := HW.out
    obtain ⟨V2, O2, BW, hp, NV⟩ := H.out
    have CS : Chg (fun k => k = w.heap.size) w' (w'.setCell ⟨w.heap.size, 0, none⟩ (.slice (some ⟨g9, 0, none⟩) (pre.length + 1) c9)) := Chg.setCell (G := fun k => k = w.heap.size) (Chg.refl _ _) (fun _ => rfl) _ _
    have VZ := V3.set 0 (.slice (some ⟨g9, 0, none⟩) (pre.length + 1) c9)
    have RZ := CS.own OW (fun k hk q => by have q : k = w.heap.size := q; subst q; exact own_blk_types OW V3 (by decide) hk)
    have hrow : ∀ k, v.ownBlock = some k → w.heap.size ≤ k := fun k hk => (O2.lt k hk).1
    have BZ := (AP.below (B := w.heap.size) BW.size (fun k hk q => by have := hrow k q; omega)).trans (CS.below (B := w.heap.size) (by have := AP.size; omega) (fun k hk q => by have q : k = w.heap.size := q; omega))
    have PLT : ∀ k, p k → k < W₂.heap.size := fun k hk => by
      obtain ⟨_, o, ho, _⟩ := HPV.out k hk
      exact (Array.getElem?_eq_some_iff.1 ho).1
    refine ⟨(AP.rest (fun k _ q o ho => own_cells' O2 q ho)).trans (Iter.Rest.setCell _ _ _), fun k hk => ?_, keep_below12 BZ HF.out, _, VZ, ?_, by rw [List.length_append, List.length_singleton]; omega, fun k hk => ?_, BW.trans BZ⟩
    · have h1 := PLT k hk
      have h2 := hp k hk
      rw [CS.block k (by have := AP.size; omega) h2.2, AP.block k h1 (fun q => h2.1 q)]
    · rw [HXX.out, List.length_append, List.length_singleton]
      exact RZ
    · have h1 := PLT k hk
      have h2 := hp k hk
      exact ⟨fun e => (FR.keep (by rw [World.size_alloc]; omega) (fun e => h2.1 e.symm)).2 e.symm, h2.2⟩
  case done =>
    rintro p xs W hS ⟨v, hv, ho, hn, hp, hB⟩ hD
    have v0 := Blk.at (cs := [v]) (k := 0) hv rfl
    have HP := Lib.hid ho
    have HB := Lib.hid hB
    have HDD := Lib.hid hD
    have HS := Lib.hid hS
    clear ho hB hv hD hS hp
    gi_wp2_with fail
    have sW := HB.out.size
    refine ⟨by simp, .inl ⟨_, _, rfl, run_takeDeferred HDD.out, ?_⟩⟩
    have BK : Iter.Book w.heap.size W (W.putObj w1.heap.size (.deferred none)) := Iter.Book.putObj _ HDD.out rfl (by omega)
    exact ⟨v, by simp [results, Tryd.results66, go_sem], v, xs, rfl, HS.out, own_book' HP.out BK, HB.out.trans (BK.below.mono (by omega))⟩
set_option maxHeartbeats 1000000 in
theorem collect12_any (gf : FuncId) (lb : Array Value) (eg : ∀ args w, (callFunc gf args).run Tryd.prog w = .ok (.enter gf args) w) (F : Nat → Prop) (l : List Rv) (S : List ByteArray → Prop) (w : World) (hF : ∀ k, F k → k < w.heap.size) (hL : l.length ≤ 1000)
    (hseq : Iter.SeqQ Tryd.prog gf lb encN (OkN l) (Iter.KeepP F) S w) :
    Calls Tryd.prog 56 #[.func (.func gf) #[] lb] w fun e w' => ∃ v xs, e = .returned v ∧ S xs ∧ w'.ownsRow w.heap.size 9 1 v xs.length (xs.map Value.string) ∧ Grow.G w w' := by
  have AS := Lib.hid (appseq12_any gf lb eg F l S w hF hL hseq)
  clear hseq hF
  go_enter Tryd.func56, Tryd.ntmps56
  go_wp2_with fail
  refine AS.out.mono ?_
  rintro e w1 ⟨v, xs, rfl, hS, ho, hg⟩
  have HO := Lib.hid (And.intro hS (And.intro ho hg))
  clear ho hg AS hS
  go_wp2_with fail
  go_ret
  exact ⟨v, xs, rfl, HO.out.1, HO.out.2.1, HO.out.2.2⟩
end Go.Proofs.YtjcdmnogmpjkkaaDoor

/- The program's books: All, by names. -/
namespace Go.Proofs.YtjcdmnogmpjkkaaDoor
set_option maxRecDepth 100000
set_option linter.unusedVariables false
set_option linter.unusedSimpArgs false
set_option linter.unnecessarySimpa false
open Go.RowKit Go.MapV Go.Maps Go.Args Go.Sort

theorem sort_names {xs : List ByteArray} (hn : xs.Nodup) : Asc (((xs.map (·.data.toList)).mergeSort leB).map toB) ∧ ∀ x, x ∈ ((xs.map (·.data.toList)).mergeSort leB).map toB ↔ x ∈ xs := by
  have tr : ∀ a b c : List UInt8, leB a b = true → leB b c = true → leB a c = true := fun a b c h1 h2 => by simp only [leB, decide_eq_true_eq] at *; exact List.le_trans h1 h2
  have tot : ∀ a b : List UInt8, (leB a b || leB b a) = true := fun a b => by simp only [leB, Bool.or_eq_true, decide_eq_true_eq]; exact List.le_total a b
  have hs := List.pairwise_mergeSort tr tot (xs.map (·.data.toList))
  have hpm : ((xs.map (·.data.toList)).mergeSort leB).Perm (xs.map (·.data.toList)) := List.mergeSort_perm _ leB
  have hnd0 : (xs.map (·.data.toList)).Nodup := List.pairwise_map.2 (hn.imp fun {a b} h e => h (data_inj e))
  have hnd : ((xs.map (·.data.toList)).mergeSort leB).Nodup := hpm.nodup_iff.2 hnd0
  constructor
  · unfold Asc
    rw [List.pairwise_map]
    refine (List.pairwise_and_iff.2 ⟨hs, hnd⟩).imp fun {a b} ⟨h1, h2⟩ => ?_
    rw [ltS_eq, toB_data, toB_data]
    simp only [leB, decide_eq_true_eq] at h1 ⊢
    rcases List.le_iff_lt_or_eq.1 h1 with h | h
    · exact h
    · exact absurd h h2
  · intro x
    rw [List.mem_map]
    constructor
    · rintro ⟨y, hy, rfl⟩
      rw [hpm.mem_iff, List.mem_map] at hy
      obtain ⟨z, hz, rfl⟩ := hy
      rwa [toB_of]
    · intro h
      exact ⟨x.data.toList, hpm.mem_iff.2 (List.mem_map.2 ⟨x, h, rfl⟩), toB_of x⟩
theorem sort_all {l : List Rv} (ok : BkOk l) {xs : List ByteArray} (hp : xs.Perm (l.map Rv.nm)) : ((xs.map (·.data.toList)).mergeSort leB).map toB = allK l := by
  have hn : xs.Nodup := hp.nodup_iff.2 (List.pairwise_map.2 ok.apart)
  obtain ⟨h1, h2⟩ := sort_names hn
  refine Asc.uniq h1 (allK_asc l) fun x => ?_
  rw [h2, hp.mem_iff, List.mem_map, allK_mem]
theorem enc_back (xs : List ByteArray) : (xs.map (·.data.toList)).map encStr = xs.map Value.string := by
  rw [List.map_map]
  exact List.map_congr_left fun x _ => by show Value.string ⟨x.data.toList.toArray⟩ = _; simp
theorem enc_toB (ss : List (List UInt8)) : ss.map encStr = (ss.map toB).map Value.string := by
  rw [List.map_map]; rfl
set_option maxHeartbeats 2000000 in
theorem sorted12_any (gf : FuncId) (lb : Array Value) (eg : ∀ args w, (callFunc gf args).run Tryd.prog w = .ok (.enter gf args) w) (F : Nat → Prop) (l : List Rv) (w : World) (hF : ∀ k, F k → k < w.heap.size) (hL : l.length ≤ 1000) (ok : BkOk l)
    (hseq : Iter.SeqQ Tryd.prog gf lb encN (OkN l) (Iter.KeepP F) (fun xs => xs.Perm (l.map Rv.nm)) w) :
    Calls Tryd.prog 46 #[.func (.func gf) #[] lb] w fun e w' => ∃ v, e = .returned v ∧ w'.ownsRow w.heap.size 9 1 v (allK l).length ((allK l).map Value.string) ∧ Grow.G w w' := by
  have CO := Lib.hid (collect12_any gf lb eg F l _ w hF hL hseq)
  have HOK := Lib.hid ok
  clear hseq hF ok
  go_enter Tryd.func46, Tryd.ntmps46
  go_wp2_with fail
  refine CO.out.mono ?_
  rintro e w1 ⟨v, xs, rfl, hS, ho, hg⟩
  have hlen : (allK l).length = xs.length := by
    rw [← sort_all HOK.out hS, List.length_map, List.length_mergeSort, List.length_map]
  rcases ho.2 with ⟨rfl, hz⟩ | ⟨gb, cap, cur, rfl, hbase, hgb, r1, r2, r3, r4⟩
  · have hxs : xs = [] := List.eq_nil_of_length_eq_zero hz
    subst hxs
    have HZ : allK l = [] := List.eq_nil_of_length_eq_zero hlen
    have SN := Lib.hid (Tryd.slices_Sort_string_none none 0 w1)
    have HO := Lib.hid (And.intro ho hg)
    clear ho hg hS hz hlen CO
    go_wp2_with fail
    refine SN.out.mono ?_
    rintro e w2 ⟨rfl, rfl⟩
    go_wp2_with fail
    go_ret
    rw [HZ]
    exact ⟨_, rfl, HO.out.1, HO.out.2⟩
  · have hH : Holds encStr w1 gb 0 (xs.map (·.data.toList)).toArray := holds_of_block hgb (by
      rw [enc_back]; simpa using r4)
    have hgl : gb < w1.heap.size := (Array.getElem?_eq_some_iff.1 hgb).1
    have hsz : (xs.map (·.data.toList)).length < 4611686018427387904 := by rw [List.length_map, ← hlen]; have := allK_len l; omega
    have cS := Tryd.slices_Sort_string gb 0 cap (xs.map (·.data.toList)) w1 hH hgl hsz
    rw [List.length_map] at cS
    have CS := Lib.hid cS
    have SA := Lib.hid (sort_all HOK.out hS)
    have HO := Lib.hid (And.intro hgb (And.intro r1 (And.intro r2 (And.intro r3 (And.intro hbase hg)))))
    have hlm : ((xs.map (·.data.toList)).mergeSort leB).length = (xs.map (·.data.toList)).length := by rw [List.length_mergeSort]
    clear ho hg hS CO cS hH hgb r1 r2 r3 r4 hsz
    go_wp2_with fail
    refine CS.out.mono ?_
    rintro e w2 ⟨rfl, nn, os, hw⟩
    have HW := Lib.hid hw
    clear hw
    go_wp2_with fail
    go_ret
    obtain ⟨q1, q2, q3, q4, q5, q6⟩ := HO.out
    refine ⟨_, rfl, ?_, ?_⟩
    · have hr := ownsRow_sorted (w := w1) (n := nn) (os := os) (ts := (xs.map (·.data.toList)).mergeSort leB) (ss := xs.map (·.data.toList)) hlm q5 q1 (by rw [List.length_map]; exact q2) q3 q4
      rw [enc_toB, SA.out, List.length_map, ← hlen] at hr
      rw [HW.out, ← hlen]
      exact hr
    · rw [HW.out]
      exact q6.grown (grownBy_sorted _) q6.size (fun j hj => by cases hj; exact q5)
set_option maxHeartbeats 1000000 in
theorem ball_any (g : Nat) (l : List Rv) (ma mt pa pt : Option Nat) (w : World) (h : BkIn w g l ma mt pa pt) (hl : l.length ≤ 1000) (ht : Tab w) :
    Calls Tryd.prog 24 #[pz g] w fun e w' => ∃ x, e = .returned x ∧ w'.ownsRow w.heap.size 9 1 x (allK l).length ((allK l).map Value.string) ∧ Grow.G w w' := by
  have hg := h.hb.lt
  have NA := Lib.hid (names_any g w)
  have SO : Hid (∀ w1, Blk w1 w.heap.size #[.pointer (some ⟨g, 0, none⟩)] ledT → Grow.G w w1 → Calls Tryd.prog 46 #[.func (.func 58) #[] #[pz w.heap.size]] w1 fun e w' => ∃ v, e = .returned v ∧ w'.ownsRow w1.heap.size 9 1 v (allK l).length ((allK l).map Value.string) ∧ Grow.G w1 w') := Lib.hid (fun w1 hb g1 => by
    have h1 := h.grow g1
    have c0 := Blk.at (cs := [.map ma, .map mt, .map pa, .map pt]) (k := 0) h1.hb rfl
    have eg := enters_of Tryd.func58 (by kernel_rfl) rfl
    cases hm : ma with
    | some b =>
      subst hm
      exact sorted12_any _ _ eg (fun k => k < w1.heap.size) l w1 (fun k hk => hk) hl h.ok (names_seq w.heap.size g b l.length l w1 hb c0 h1.hb.lt h1.m1 (Nat.le_refl _) h.ok (ht.below g1))
    | none =>
      subst hm
      have hz : l = [] := by
        cases l with
        | nil => rfl
        | cons r l =>
          have hr := (h.ok.rev r List.mem_cons_self).2.1
          obtain ⟨z1, z2⟩ := rev_bd hr
          have e := (show ∀ kl, fK allR cfgV (r :: l) kl = none from h.m1) (markL r.c.nm r.gn)
          rw [fK_at h.ok z1 z2, findG_all h.ok (.inl (rev_is h.ok List.mem_cons_self)), findK_of h.ok List.mem_cons_self] at e
          cases e
      subst hz
      exact sorted12_any _ _ eg (fun k => k < w1.heap.size) [] w1 (fun k hk => hk) hl h.ok (fun ln J Jx W q1 q2 q3 q4 q5 => (names_nil w.heap.size g [] _ w1 hb c0 h1.hb.lt ln J Jx W q1 q2 q3 q4 q5).mono (by
        rintro e w' ⟨a, p, (⟨xs, rfl, b⟩ | b)⟩
        · exact ⟨a, p, .inl ⟨[], List.Perm.refl _, b⟩⟩
        · exact ⟨a, p, .inr b⟩)))
  clear h ht
  go_enter Tryd.func24, Tryd.ntmps24
  go_wp2_with fail
  refine NA.out.mono ?_
  rintro e w1 ⟨rfl, hb, g1⟩
  have S1 := Lib.hid (SO.out w1 hb g1)
  have G1 := Lib.hid g1
  have hz := g1.size
  clear hb SO NA
  go_wp2_with fail
  refine S1.out.mono ?_
  rintro e w2 ⟨v, rfl, ho, g2⟩
  have H := Lib.hid (And.intro ho g2)
  clear ho g2 S1
  go_wp2_with fail
  go_ret
  exact ⟨v, rfl, own_base H.out.1 hz, G1.out.trans H.out.2⟩
end Go.Proofs.YtjcdmnogmpjkkaaDoor

/- Books among what a law holds; damperlaw12's known. -/
namespace Go.Proofs.YtjcdmnogmpjkkaaDoor
set_option maxRecDepth 100000
set_option linter.unusedVariables false
set_option linter.unusedSimpArgs false
set_option linter.unnecessarySimpa false
open Go.RowKit Go.Args Go.MapV

/-! ### the program's book among what a law holds -/
section
variable {w0 w : World} {L : List MBox} {A B : Hp} {g : Nat} {l l' : List Rv} {er : Int} {bo : Bool} {st mt : ByteArray} {N : List ByteArray} {r : Rv}
theorem hold_bkin (h : Hold w0 w L (Sep (BkB g l) B)) : ∃ ma mt pa pt, BkIn w g l ma mt pa pt := by
  obtain ⟨F, ⟨F1, F2, ⟨a, b, c, d, hI, _⟩, _⟩, _⟩ := h.st
  exact ⟨a, b, c, d, hI⟩
theorem hold_bkok (h : Hold w0 w L (Sep (BkB g l) B)) : BkOk l := by obtain ⟨_, _, _, _, hI⟩ := hold_bkin h; exact hI.ok
theorem hold_bkask {P : Program} {f : FuncId} {args : Array Value} {R : Ending → World → Prop} (h : Hold w0 w L (Sep (BkB g l) B)) (hB : Foot B) (hc : Calls P f args w fun e w' => R e w' ∧ Grow.G w w') : Calls P f args w fun e w' => R e w' ∧ Grow.G w w' ∧ Hold w0 w' L (Sep (BkB g l) B) :=
  hc.mono fun e w' ⟨a, b⟩ => ⟨a, b, h.grow ((BkB.foot g l).sep hB) b⟩
theorem hold_bknew (h : Hold w0 w L A) (hA : Foot A) : Calls Tryd.prog 12 #[] w fun e w' => ∃ g, e = .returned (pz g) ∧ Hold w0 w' L (Sep (BkB g []) A) := by
  refine (bnew_any w).mono ?_
  rintro e w' ⟨rfl, hb, q⟩
  refine ⟨_, rfl, h.beside hA q (F₁ := BkFt w.heap.size none none none none) ⟨none, none, none, none, BkIn.nil hb, fun k => Iff.rfl⟩ (fun k hk => ?_)⟩
  rcases hk with rfl | (hk | hk) | (hk | hk) <;> first | exact Nat.le_refl _ | cases hk
theorem hold_bkstamp (h : Hold w0 w L (Sep (BkB g l) B)) (hB : Foot B) (ht : Tab w) (c : Cfg) (n : Int) (hc : c.err = 0) (hn : 1 ≤ n ∧ n ≤ 999999) (hl : l.length ≤ 900) (h1 : revS c.nm n = st := by rfl) (h2 : newK l c n = bo := by rfl) (h3 : putK l c n = l' := by rfl) :
    Calls Tryd.prog 15 #[pz g, c.v, .int .i64 n] w fun e w' => e = .returned (.tuple #[.string st, .bool bo]) ∧ Hold w0 w' L (Sep (BkB g l') B) := by
  subst h1 h2 h3
  refine h.call ((BkB.foot g _).sep hB) (Sep.callL (R := fun e _ => e = .returned (.tuple #[.string (revS c.nm n), .bool (newK l c n)])) hB fun F ⟨ma, mt, pa, pt, hI, e⟩ => (bstamp_any g l ma mt pa pt c n w hI (by omega) hc hn ht).mono ?_)
  rintro e' w' ⟨q1, q2⟩
  exact ⟨q1, q2.ends e⟩
theorem hold_bkget (h : Hold w0 w L (Sep (BkB g l) B)) (hB : Foot B) (ht : Tab w) (s : ByteArray) (hs : s.size ≤ 140737488351232) (hl : l.length ≤ 1000) (h1 : getK l s = r := by rfl) (h2 : hasK l s = bo := by rfl) :
    Calls Tryd.prog 21 #[pz g, .string s] w fun e w' => e = .returned (.tuple #[.agg r.cells.toArray, .bool bo]) ∧ Grow.G w w' ∧ Hold w0 w' L (Sep (BkB g l) B) := by
  obtain ⟨a, b, c, d, hI⟩ := hold_bkin h
  refine hold_bkask h hB ?_
  subst h1 h2
  unfold getK hasK
  cases hf : findK l s with
  | none => exact bget_none g l a b c d s w hI hs hf
  | some r => exact bget_some g l a b c d s r w hI hs hf ht
theorem hold_bkprove (h : Hold w0 w L (Sep (BkB g l) B)) (hB : Foot B) (s : ByteArray) (hs : s.size ≤ 140737488351232) (hl : l.length ≤ 1000) (h1 : errK l s = er := by rfl) (h2 : setK l s = l' := by rfl) :
    Calls Tryd.prog 17 #[pz g, .string s] w fun e w' => e = .returned (.int .i64 er) ∧ Hold w0 w' L (Sep (BkB g l') B) := by
  subst h1 h2
  refine h.call ((BkB.foot g _).sep hB) (Sep.callL (R := fun e _ => e = .returned (.int .i64 (errK l s))) hB fun F ⟨ma, mt, pa, pt, hI, e⟩ => ?_)
  unfold errK
  cases hf : hasK l s with
  | true =>
    rw [if_pos rfl]
    refine (bprove_yes g l ma mt pa pt s w hI (by omega) hs hf).mono ?_
    rintro e' w' ⟨q1, q2⟩
    exact ⟨q1, q2.ends e⟩
  | false =>
    rw [if_neg (by decide), setK_same hI.ok (.inl hf)]
    refine (bprove_no g l ma mt pa pt s w hI hs hf).mono ?_
    rintro e' w' ⟨q1, q2⟩
    exact ⟨q1, (StepB.same hI q2).ends e⟩
theorem hold_bkproved (h : Hold w0 w L (Sep (BkB g l) B)) (hB : Foot B) (s : ByteArray) (hs : s.size ≤ 140737488351232) (hl : l.length ≤ 1000) (h1 : prvK l s = bo := by rfl) :
    Calls Tryd.prog 22 #[pz g, .string s] w fun e w' => e = .returned (.bool bo) ∧ Grow.G w w' ∧ Hold w0 w' L (Sep (BkB g l) B) := by
  obtain ⟨a, b, c, d, hI⟩ := hold_bkin h
  subst h1
  exact hold_bkask h hB (bproved_any g l a b c d s w hI hs)
theorem hold_bklatest (h : Hold w0 w L (Sep (BkB g l) B)) (hB : Foot B) (ht : Tab w) (s : ByteArray) (hs : s.size ≤ 140737488351232) (hl : l.length ≤ 1000) (h1 : latM l s = mt := by rfl) (h2 : latR l s = st := by rfl) :
    Calls Tryd.prog 23 #[pz g, .string s] w fun e w' => e = .returned (.tuple #[.string mt, .string st]) ∧ Grow.G w w' ∧ Hold w0 w' L (Sep (BkB g l) B) := by
  obtain ⟨a, b, c, d, hI⟩ := hold_bkin h
  subst h1 h2
  exact hold_bkask h hB (blatest_any g l a b c d s w hI hs ht)
theorem hold_bkall (h : Hold w0 w L (Sep (BkB g l) B)) (hB : Foot B) (ht : Tab w) (hl : l.length ≤ 1000) (h1 : allK l = N := by rfl) :
    Calls Tryd.prog 24 #[pz g] w fun e w' => ∃ x, e = .returned x ∧ w'.ownsRow w.heap.size 9 1 x N.length (N.map Value.string) ∧ Grow.G w w' ∧ Hold w0 w' L (Sep (BkB g l) B) := by
  obtain ⟨a, b, c, d, hI⟩ := hold_bkin h
  subst h1
  refine (ball_any g l a b c d w hI hl ht).mono ?_
  rintro e w' ⟨x, q1, q2, q3⟩
  exact ⟨x, q1, q2, q3, h.grow ((BkB.foot g l).sep hB) q3⟩
end
def aC : Cfg := ⟨⟨#[97]⟩, 0, 1, 0, 1, 0⟩
theorem tabG {w w' : World} (h : Tab w) (g : Grow.G w w') : Tab w' := h.below g
set_option maxHeartbeats 4000000 in
theorem known12_any (w : World) (ht : Tab w) : Calls Tryd.prog 11 #[] w fun e w' => e = .returned (.bool true) ∧ Below w.heap.size w w' := by
  have FE := Lib.hid Emp.foot
  have HT := Lib.hid ht
  have s2 : revS ⟨#[97]⟩ 2 = ⟨#[97, 45, 50]⟩ := by decide +kernel
  have RS : revS aC.nm 2 = ⟨#[97, 45, 50]⟩ := s2
  have E := Lib.hid (show putK [] aC 2 = [⟨⟨#[97, 45, 50]⟩, 2, aC, false⟩] from by rw [putK_new (hasK_no.2 fun r h => by cases h)]; unfold newR; rw [RS]; rfl)
  have RS := Lib.hid RS
  clear ht s2
  go_enter Tryd.func11, Tryd.ntmps11
  go_wp2_with fail
  refine (hold_bknew (Hold.nil w) FE.out).mono ?_
  rintro e w1 ⟨g, rfl, hh⟩
  have H := Lib.hid hh
  clear hh
  go_wp2_with fail
  refine (hold_bklatest (mt := ⟨#[]⟩) (st := ⟨#[]⟩) H.out FE.out (tabG HT.out H.out.below) ⟨#[97]⟩ (by decide) (by decide) rfl rfl).mono ?_
  rintro e ws1 ⟨rfl, -, hst⟩
  replace H := Lib.hid hst
  clear hst
  go_wp2_with fail
  refine (hold_bkstamp (st := ⟨#[97, 45, 50]⟩) (bo := true) H.out FE.out (tabG HT.out H.out.below) aC 2 (by decide +kernel) (by decide) (by decide) RS.out rfl E.out).mono ?_
  rintro e w3 ⟨rfl, hh⟩
  have H := Lib.hid hh
  clear hh
  go_wp2_with fail
  refine (hold_bklatest (mt := ⟨#[97, 45, 50]⟩) (st := ⟨#[]⟩) H.out FE.out (tabG HT.out H.out.below) ⟨#[97]⟩ (by decide) (by decide) (by decide +kernel) (by decide +kernel)).mono ?_
  rintro e ws2 ⟨rfl, -, hst⟩
  replace H := Lib.hid hst
  clear hst
  go_wp2_with fail
  refine (hold_bkprove (er := 6) H.out FE.out ⟨#[97, 45, 57]⟩ (by decide) (by decide) (by decide +kernel) rfl).mono ?_
  rintro e ws3 ⟨rfl, hst⟩
  replace H := Lib.hid hst
  clear hst
  go_wp2_with fail
  go_ret
  exact ⟨rfl, H.out.below⟩
end Go.Proofs.YtjcdmnogmpjkkaaDoor

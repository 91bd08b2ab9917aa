/- My own texts FpM, FpE, laid in one file. -/
import Derived.Test.YtfnpghekkhnjkaaZ74
import Derived.Test.YtfnpghekkhnjkaaZ58
import Derived.Test.YtfnpghekkhnjkaaZ83
import Derived.Test.YtfnpghekkhnjkaaZ37
import Derived.Test.YtfnpghekkhnjkaaZ29
import Derived.Test.YtfnpghekkhnjkaaZ2
import Derived.Test.YtfnpghekkhnjkaaZ73
import Derived.Test.YtfnpghekkhnjkaaSorted
import Derived.RangeFuncNested
import Derived.RangeFuncBound
import Derived.Shelf.Abstract
import Derived.Shelf.RegionOpen
import Derived.OwnWalkIn
import Derived.TacticsInMore
import Derived.LoopNIn
import Derived.LoopIn

/- The program's fleet in memory: what it is, what is read of it. -/
namespace Go.Proofs.Ytfnpghekkhnjkaa
set_option maxRecDepth 100000
set_option linter.unusedVariables false
set_option linter.unusedSimpArgs false
set_option linter.unnecessarySimpa false
open Go.RowKit Go.MapV Go.Maps

/-- A pod of the fleet's with where it lies. -/
structure PM where
  h : Po
  p : Nat
abbrev fleetT : TypeId := 62
abbrev ownedT : TypeId := 71
abbrev podsT : TypeId := 59
namespace PM
def own (m : PM) : Value := .agg #[.string m.h.rv, pz m.p]
def to (m : PM) (p : Pd) : PM := ⟨m.h.to p, m.p⟩
end PM
def ownZ : Value := .agg #[.string ⟨#[]⟩, .pointer none]
theorem zeroOwned (w : World) : (zeroValue ownedT).run Try.prog w = .ok ownZ w := by kernel_rfl
theorem zeroI (w : World) : (zeroValue 3).run Try.prog w = .ok (.int .i64 0) w := by kernel_rfl
def idsM (lm : List PM) : List Int := lm.map fun m => m.h.id
def findM (lm : List PM) (id : Int) : Option PM := lm.find? fun m => m.h.id == id
def ownV (lm : List PM) (id : Int) : Value := match findM lm id with
  | none => ownZ
  | some m => m.own
def PmF (m : PM) : Hp := PdP m.p m.h.p
theorem PmF.foot (m : PM) : Foot (PmF m) := PdP.foot _ _
abbrev MapP (b : Nat) (l : List Int) (v : Int → Value) : Hp := MapF Try.prog 3 b l v
abbrev MapQ (w : World) (b : Nat) (l : List Int) (v : Int → Value) : Prop := MapL Try.prog 3 w b l v
theorem undI : Try.prog.underlying 3 = some (.int .i64) := Try.underlying3
def flC (r n : Int) (mp ma : Nat) : List Value := [.int .i64 r, .int .i64 n, .map (some mp), .map (some ma)]
def FlS (g : Nat) (r n : Int) (mp ma : Nat) (lm : List PM) (ks : List Int) (av : Int → Value) : Hp := Sep (BlkF g (flC r n mp ma) fleetT) (Sep (MapP mp (idsM lm) (ownV lm)) (Sep (MapP ma ks av) (SepL PmF lm)))
theorem FlS.foot (g : Nat) (r n : Int) (mp ma : Nat) (lm : List PM) (ks : List Int) (av : Int → Value) : Foot (FlS g r n mp ma lm ks av) := (BlkF.foot _ _ _).sep ((MapF.foot _ _ _ _ _).sep ((MapF.foot _ _ _ _ _).sep (SepL.foot PmF.foot lm)))
/-- All requests of some pods. -/
def reqsP (l : List Po) : List Int := l.flatMap fun h => h.p.l
def whereV (l : List Po) (x : Int) : Value := match whereP l x with
  | none => .int .i64 0
  | some h => .int .i64 h.id
/-- The program's fleet that says what f is. -/
def FlP (g : Nat) (f : Fl) : Hp := fun w F => ∃ (mp ma : Nat) (lm : List PM), lm.map PM.h = f.l ∧ f.ok ∧ FlS g f.room f.n mp ma lm (reqsP f.l) (whereV f.l) w F
theorem FlP.foot (g : Nat) (f : Fl) : Foot (FlP g f) where
  lt := fun ⟨mp, ma, lm, _, _, h⟩ => (FlS.foot _ _ _ _ _ _ _ _).lt h
  frame := fun ⟨mp, ma, lm, h1, h2, h⟩ c hs => ⟨mp, ma, lm, h1, h2, (FlS.foot _ _ _ _ _ _ _ _).frame h c hs⟩
/-! ### what is read -/
theorem PdIn.keepB {w w' : World} {g : Nat} {s : Pd} {m : Option Nat} (h : PdIn w g s m) (e : ∀ k, PdF g m k → w'.heap[k]? = w.heap[k]?) : PdIn w' g s m :=
  ⟨(e g (.inl rfl)).trans h.hb, by
    have hm := h.hm
    cases m with
    | none => exact hm
    | some b => exact MapB.blk hm (e b (.inr rfl)), h.ok⟩
structure FlRd (w : World) (F : Nat → Prop) (g : Nat) (r n : Int) (mp ma : Nat) (lm : List PM) : Prop where
  hb : Blk w g (flC r n mp ma).toArray fleetT
  hm : MapQ w mp (idsM lm) (ownV lm)
  pod : ∀ m, m ∈ lm → ∃ mm, PdIn w m.p m.h.p mm ∧ ∀ k, PdF m.p mm k → F k
  fg : F g
  fm : F mp
  lt : ∀ k, F k → k < w.heap.size
section
variable {w w' : World} {F : Nat → Prop} {g : Nat} {r n : Int} {mp ma : Nat} {lm : List PM} {ks : List Int} {av : Int → Value}
theorem FlS.rd (h : FlS g r n mp ma lm ks av w F) : FlRd w F g r n mp ma lm := by
  have hlt := (FlS.foot g r n mp ma lm ks av).lt h
  obtain ⟨F1, F2, a, ⟨F3, F4, b, ⟨F5, F6, c, ⟨Fs, hl, ha, _, e4⟩, _, e3⟩, _, e2⟩, _, e1⟩ := h
  refine ⟨a.1, b.1, fun m hm => ?_, (e1 _).2 (.inl ((a.2 g).2 rfl)), (e1 _).2 (.inr ((e2 _).2 (.inl ((b.2 mp).2 rfl)))), hlt⟩
  obtain ⟨i, hi⟩ := List.getElem?_of_mem hm
  have hil := (List.getElem?_eq_some_iff.1 hi).1
  obtain ⟨mm, q1, q2⟩ := ha i m (Fs[i]'(by omega)) hi (List.getElem?_eq_getElem _)
  exact ⟨mm, q1, fun k hk => (e1 k).2 (.inr ((e2 k).2 (.inr ((e3 k).2 (.inr ((e4 k).2 ⟨_, List.getElem_mem _, (q2 k).2 hk⟩))))))⟩
theorem FlRd.keep (h : FlRd w F g r n mp ma lm) (c : Iter.KeepP F w w') : FlRd w' F g r n mp ma lm where
  hb := c.blk h.hb h.fg
  hm := h.hm.blk (c.2 mp h.fm (h.lt mp h.fm))
  pod := fun m hm => by
    obtain ⟨mm, q1, q2⟩ := h.pod m hm
    exact ⟨mm, q1.keepB fun k hk => c.2 k (q2 k hk) (h.lt k (q2 k hk)), q2⟩
  fg := h.fg
  fm := h.fm
  lt := fun k hk => Nat.lt_of_lt_of_le (h.lt k hk) c.1
theorem FlRd.grow (h : FlRd w F g r n mp ma lm) (c : Grow.G w w') : FlRd w' F g r n mp ma lm := h.keep (Iter.KeepP.grow c)
theorem FlRd.c0 (h : FlRd w F g r n mp ma lm) : w.cell? ⟨g, 0, none⟩ = some (.int .i64 r) := (h.hb.cell 0).trans rfl
theorem FlRd.c1 (h : FlRd w F g r n mp ma lm) : w.cell? ⟨g, 1, none⟩ = some (.int .i64 n) := (h.hb.cell 1).trans rfl
theorem FlRd.c2 (h : FlRd w F g r n mp ma lm) : w.cell? ⟨g, 2, none⟩ = some (.map (some mp)) := (h.hb.cell 2).trans rfl
theorem FlRd.c3 (h : FlRd w F g r n mp ma lm) : w.cell? ⟨g, 3, none⟩ = some (.map (some ma)) := (h.hb.cell 3).trans rfl
end
/-! ### looked up -/
theorem findM_map (lm : List PM) (id : Int) : (findM lm id).map PM.h = findP (lm.map PM.h) id := by unfold findM findP; rw [List.find?_map]; rfl
theorem findM_mem {lm : List PM} {id : Int} {m : PM} (e : findM lm id = some m) : m ∈ lm ∧ m.h.id = id := ⟨List.mem_of_find?_eq_some e, by simpa using List.find?_some e⟩
theorem mem_ids {lm : List PM} {id : Int} : id ∈ idsM lm ↔ ∃ m, m ∈ lm ∧ m.h.id = id := by unfold idsM; rw [List.mem_map]
theorem own_at (lm : List PM) (id : Int) : (onZ (keysM (idsM lm) (ownV lm)) (intK id)).getD ownZ = ownV lm id := by
  by_cases h : id ∈ idsM lm
  · rw [keysM_in h]; rfl
  · rw [keysM_out h]
    unfold ownV
    cases e : findM lm id with
    | none => rfl
    | some m => exact absurd (mem_ids.2 ⟨m, findM_mem e⟩) h
theorem own_is (lm : List PM) (id : Int) : (onZ (keysM (idsM lm) (ownV lm)) (intK id)).isSome = (findM lm id).isSome := by
  by_cases h : id ∈ idsM lm
  · rw [keysM_in h]
    obtain ⟨m, hm, e⟩ := mem_ids.1 h
    cases q : findM lm id with
    | none => have := List.find?_eq_none.1 q m hm; simp [e] at this
    | some _ => rfl
  · rw [keysM_out h]
    cases e : findM lm id with
    | none => rfl
    | some m => exact absurd (mem_ids.2 ⟨m, findM_mem e⟩) h
theorem findM_at {lm : List PM} (hn : (idsM lm).Nodup) {m : PM} (hm : m ∈ lm) : findM lm m.h.id = some m := by
  unfold findM
  induction lm with
  | nil => cases hm
  | cons a l ih =>
    have hn2 : m.h.id ∈ idsM l → m.h.id ≠ a.h.id := fun q e => (List.nodup_cons.1 hn).1 (by rw [e] at q; exact q)
    rcases List.mem_cons.1 hm with rfl | hm
    · exact List.find?_cons_of_pos (by simp)
    · rw [List.find?_cons_of_neg (by have := hn2 (mem_ids.2 ⟨m, hm, rfl⟩); simp; exact fun e => this e.symm)]
      exact ih (List.nodup_cons.1 hn).2 hm
theorem ownV_at {lm : List PM} (hn : (idsM lm).Nodup) {m : PM} (hm : m ∈ lm) : ownV lm m.h.id = m.own := by unfold ownV; rw [findM_at hn hm]
theorem keysI (x : Int) (h : wf64 x) : keyOf Try.prog 3 (.int .i64 x) = some (intK x) := keyZ undI h.1 h.2
theorem mem_reqs {l : List Po} {x : Int} : x ∈ reqsP l ↔ ∃ h, h ∈ l ∧ x ∈ h.p.l := by unfold reqsP; rw [List.mem_flatMap]
theorem reqs_nodup {l : List Po} (ok : PosOk l) : (reqsP l).Nodup := by
  unfold reqsP
  induction l with
  | nil => exact List.nodup_nil
  | cons h l ih =>
    rw [List.flatMap_cons, List.nodup_append]
    refine ⟨Pd.nodup (ok.pod h List.mem_cons_self).1, ih (ok.sub (List.sublist_cons_self h l)), fun a ha b hb e => ?_⟩
    subst e
    obtain ⟨h2, hh, hx⟩ := List.mem_flatMap.1 hb
    exact (List.pairwise_cons.1 ok.apart).1 h2 hh a ha hx
theorem reqs_len {l : List Po} (ok : PosOk l) : (reqsP l).length ≤ l.length * 1000 := by
  unfold reqsP
  induction l with
  | nil => simp
  | cons h l ih =>
    have ok1 := (ok.pod h List.mem_cons_self).1
    have := ih (ok.sub (List.sublist_cons_self h l))
    have h1 := ok1.len; have h2 := ok1.c
    rw [List.flatMap_cons, List.length_append, List.length_cons]
    omega
theorem at_at (l : List Po) (x : Int) : (onZ (keysM (reqsP l) (whereV l)) (intK x)).getD (.int .i64 0) = whereV l x := by
  by_cases h : x ∈ reqsP l
  · rw [keysM_in h]; rfl
  · rw [keysM_out h]
    unfold whereV
    cases e : whereP l x with
    | none => rfl
    | some m => exact absurd (mem_reqs.2 ⟨m, (whereP_mem e).1, (whereP_mem e).2⟩) h
theorem at_is (l : List Po) (x : Int) : (onZ (keysM (reqsP l) (whereV l)) (intK x)).isSome = (whereP l x).isSome := by
  by_cases h : x ∈ reqsP l
  · rw [keysM_in h]
    obtain ⟨m, hm, e⟩ := mem_reqs.1 h
    cases q : whereP l x with
    | none => exact absurd e (whereP_none q m hm)
    | some _ => rfl
  · rw [keysM_out h]
    cases e : whereP l x with
    | none => rfl
    | some m => exact absurd (mem_reqs.2 ⟨m, (whereP_mem e).1, (whereP_mem e).2⟩) h
theorem ids_map (lm : List PM) : idsM lm = (lm.map PM.h).map Po.id := by unfold idsM; rw [List.map_map]; rfl
theorem ids_lt {l : List Po} (ok : PosOk l) : (l.map Po.id).Pairwise (· < ·) := List.pairwise_map.2 ok.ids
end Go.Proofs.Ytfnpghekkhnjkaa

/- The program's fleet: what each yields. -/
namespace Go.Proofs.Ytfnpghekkhnjkaa
set_option maxRecDepth 100000
set_option linter.unusedVariables false
set_option linter.unusedSimpArgs false
set_option linter.unnecessarySimpa false
open Go.RowKit Go.MapV Go.Maps
attribute [local go_sem] Oper.semAt_some

abbrev lookT : TypeId := 49
theorem keysO_any (m : Option Nat) (w : World) : Calls Try.prog 62 #[.map m] w fun e w' => e = .returned (.func (.func 73) #[] #[pz w.heap.size]) ∧ w' = w.alloc (.cells #[.map m] podsT) :=
  callsIn_wide.1 (Try.maps_KeysZ_62 m w)
theorem sortedO_any (b : Nat) (l : List Int) (v : Int → Value) (w : World) (hm : MapQ w b l v) (hl : l.Pairwise (· < ·)) (hn : l.length ≤ 1000000) :
    Calls Try.prog 61 #[.func (.func 73) #[] #[pz w.heap.size]] (w.alloc (.cells #[.map (some b)] podsT)) fun e w' =>
      ∃ (u : Value), e = .returned u ∧ w'.ownsRow w.heap.size 3 1 u l.length (intsV l) ∧ Grow.G w w' := by
  have hg0 : Grow.G w (w.alloc (.cells #[.map (some b)] podsT)) := Grow.G.alloc (Grow.G.refl _) _
  obtain ⟨hnd, D, hown, ha⟩ := hm
  have hsz := hown.size_le
  refine (callsIn_wide.1 (Try.slices_Sorted_keysZ_61_62 b _ D RV w hown (by unfold maxLen; omega) (by omega))).mono ?_
  rintro e w' ⟨u, ss, rfl, hp, hrow, hnil, hb⟩
  have h1 : ss.Perm l := hp.trans (permZ hown ha undI hnd (keysM_some l v)).symm
  have h2 := sortedZ hl h1
  refine ⟨u, rfl, ?_, hg0.trans hb⟩
  have := ownsRow_base_a hrow (base' := w.heap.size) (by simp)
  rw [show ss.mergeSort (fun x y => decide (x ≤ y)) = l from h2, h1.length_eq] at this
  exact this
theorem each_new (g : Nat) (rv : ByteArray) (w : World) : Calls Try.prog 35 #[pz g, .string rv] w fun e w' => ∃ b1 b2, e = .returned (.func (.func 60) #[] #[pz b1, pz b2]) ∧ w.heap.size ≤ b1 ∧ w.heap.size ≤ b2 ∧ Blk w' b1 #[pz g] 25 ∧ Blk w' b2 #[.string rv] 9 ∧ Grow.G w w' := by
  go_enter Try.func35, Try.ntmps35
  go_wp2
  go_ret
  refine ⟨w.heap.size, w.heap.size + 1, rfl, Nat.le_refl _, Nat.le_succ _, (Blk.new w _ _).alloc _, ?_, ?_⟩
  · have := Blk.new (w.alloc (.cells #[pz g] 25)) #[.string rv] 9
    rwa [World.size_alloc] at this
  (repeat (first | with_reducible exact Grow.G.refl _ | with_reducible exact Below.refl _ _ | with_reducible refine Grow.G.alloc ?_ _ | with_reducible refine Grow.G.trans ?_ hb1 | ((with_reducible refine Below.setCell ?_ ?_ _); rotate_left; (focus (first | omega | (simp; done) | (simp; omega)))) | with_reducible assumption | with_reducible refine Grow.G.trans ?_ (by with_reducible assumption)))
theorem quietO {P : Program} {f : FuncId} {args : Array Value} {w : World} {v : Value} (h : Calls P f args w fun e w' => e = .returned v ∧ w = w') : Calls P f args w fun e w' => e = .returned v ∧ Grow.G w w' :=
  h.mono fun e w' ⟨q1, q2⟩ => ⟨q1, q2 ▸ Grow.G.refl _⟩
theorem chg_noneO {w w' : World} (h : Chg (fun _ => False) w w') : Grow.G w w' := h.toGrow (fun _ _ => id)
theorem KeepP.less {p q : Nat → Prop} {A B : World} (h : Iter.KeepP p A B) (hs : ∀ k, q k → p k) : Iter.KeepP q A B := ⟨h.1, fun k hk => h.2 k (hs k hk)⟩
def lkE (x : Po) : Array Value := #[.agg x.look.toArray]
def LkOk (l : List Po) (pre : List Po) (x : Po) (W : World) : Prop := pre = l.take pre.length ∧ l[pre.length]? = some x
/-- The pods of one revision. -/
def eachL (l : List Po) (rv : ByteArray) : List Po := l.filter fun h => decide (h.rv = rv)
theorem pre_at {l : List Po} {f : Po → Bool} {k : Nat} {h : Po} (hh : l[k]? = some h) (hf : f h = true) : LkOk (l.filter f) ((l.take k).filter f) h default := by
  have e : l.filter f = (l.take k).filter f ++ h :: (l.drop (k + 1)).filter f := by
    obtain ⟨hl, q⟩ := List.getElem?_eq_some_iff.1 hh
    conv => lhs; rw [← List.take_append_drop k l, List.filter_append, List.drop_eq_getElem_cons hl, q, List.filter_cons_of_pos hf]
  exact ⟨by rw [e, List.take_left], by rw [e, List.getElem?_append_right (Nat.le_refl _), Nat.sub_self]; rfl⟩
theorem pre_snoc {l : List Po} {f : Po → Bool} {k : Nat} {h : Po} (hh : l[k]? = some h) (hf : f h = true) : (l.take k).filter f ++ [h] = (l.take (k + 1)).filter f := by
  rw [List.take_add_one, hh, List.filter_append]
  show _ = _ ++ List.filter f [h]
  rw [List.filter_cons_of_pos hf]; rfl
theorem pre_skip {l : List Po} {f : Po → Bool} {k : Nat} {h : Po} (hh : l[k]? = some h) (hf : f h = false) : (l.take k).filter f = (l.take (k + 1)).filter f := by
  rw [List.take_add_one, hh, List.filter_append]
  show _ = _ ++ List.filter f [h]
  rw [List.filter_cons_of_neg (by rw [hf]; decide)]; simp
set_option maxHeartbeats 16000000 in
theorem each_seq (b1 b2 g : Nat) (rv : ByteArray) (F : Nat → Prop) (r n : Int) (mp ma : Nat) (lm : List PM) (w : World) (h1 : Blk w b1 #[pz g] 25) (h2 : Blk w b2 #[.string rv] 9) (hs : FlRd w F g r n mp ma lm) (ok : PosOk (lm.map PM.h)) (hl : lm.length ≤ 1000) (hw : ∀ m, m ∈ lm → wf64 m.h.id) :
    Iter.SeqQ Try.prog 60 #[pz b1, pz b2] lkE (LkOk (eachL (lm.map PM.h) rv)) (Iter.KeepP (fun k => F k ∨ k = b1 ∨ k = b2)) (fun xs => xs = eachL (lm.map PM.h) rv) w := by
  intro ln J Jx W hG hJ hJx hY h0
  have S0 := Lib.hid (hs.grow hG)
  have hm0 := h1.grow hG
  have B1 := Lib.hid hm0
  have B2 := Lib.hid (h2.grow hG)
  have a0 := Blk.at (cs := [pz g]) (k := 0) B1.out rfl
  have a1 := S0.out.c2
  have l1 := B1.out.lt
  have l2 := B2.out.lt
  have lg := S0.out.hb.lt
  have HK := Lib.hid (fun w => keysO_any (some mp) w)
  have SO := Lib.hid (sortedO_any mp (idsM lm) (ownV lm) W S0.out.hm (by rw [ids_map]; exact ids_lt ok) (by unfold idsM; rw [List.length_map]; omega))
  have HJ := Lib.hid hJ
  have HY := Lib.hid hY
  have H0 := Lib.hid h0
  have HOK := Lib.hid ok
  have HND := Lib.hid (show (idsM lm).Nodup from by rw [ids_map]; exact nodup_lt (ids_lt ok))
  have HWF := Lib.hid hw
  have HIL : Hid ((idsM lm).length = lm.length) := Lib.hid (by unfold idsM; simp)
  clear h1 h2 hs hG hJ hJx hY h0 hm0 ok hw
  refine (callsIn_wide (n := 0)).1 ?_
  refine callsIn_of_wp Try.func60 rfl trivial ?_
  simp only [Try.ntmps60, List.size_toArray, List.length_cons, List.length_nil, Nat.reduceAdd, Nat.reduceSub, Array.replicate_succ, Array.replicate_zero, List.push_toArray, List.append_toArray, List.nil_append, List.cons_append]
  gi_wp2_with fail
  refine ⟨trivial, rfl, (callsIn_wide.2 (HK.out _)).mono ?_⟩
  rintro e w1 ⟨rfl, rfl⟩
  gi_wp2_with fail
  refine ⟨trivial, rfl, (callsIn_wide.2 SO.out).mono ?_⟩
  rintro e w2 ⟨u, rfl, ho, hg⟩
  obtain ⟨ua, uc, rfl⟩ := own_shape ho
  have PV : Hid (Iter.Prv W.heap.size (fun j => (Value.slice ua (idsM lm).length uc).ownBlock = some j) w2) := Lib.hid (fun k hk => ⟨(ho.lt k hk).1, by
    rcases ho.2 with ⟨h1, _⟩ | ⟨g', cap, cur, hv, _, hb, _⟩
    · rw [h1] at hk; cases hk
    · rw [hv] at hk
      have hk : g' = k := Option.some.inj hk
      subst hk
      exact ⟨_, hb, rfl⟩⟩)
  have HO := Lib.hid ho
  have HG := Lib.hid hg
  rw [HIL.out]
  clear ho hg SO HK a0 a1
  gi_wp2_with fail
  have P0 := Lib.hid (own_base HO.out (Nat.le_refl _))
  obtain ⟨pp, hpp⟩ : ∃ pp : Nat → Prop, pp = fun j => (Value.slice ua (idsM lm).length uc).ownBlock = some j := ⟨_, rfl⟩
  rw [← hpp] at PV
  rw [HIL.out] at HO
  have HPP := Lib.hid (show ∀ j, (Value.slice ua lm.length uc).ownBlock = some j → pp j from fun j hj => by rw [hpp]; show (Value.slice ua (idsM lm).length uc).ownBlock = some j; rw [HIL.out]; exact hj)
  have JS := Lib.hid (H0.out pp w2 HG.out PV.out)
  clear hpp P0
  gi_loopw [14] (fun i wr => ∃ k : Nat, k ≤ lm.length ∧ i = .int .i64 k ∧ Hid (FlRd wr F g r n mp ma lm ∧ Blk wr b1 #[pz g] 25 ∧ Blk wr b2 #[.string rv] 9 ∧ wr.ownsRow W.heap.size 3 1 (.slice ua lm.length uc) lm.length (intsV (idsM lm)) ∧ J pp (((lm.map PM.h).take k).filter fun h => decide (h.rv = rv)) wr)) (fun i _ => lm.length - (_root_.Go.RowKit.intOf i).toNat)
  case atStart => exact ⟨0, by omega, rfl, Lib.hid ⟨S0.out.grow HG.out, B1.out.grow HG.out, B2.out.grow HG.out, HO.out, JS.out⟩⟩
  case round =>
    clear HO HG JS
    obtain ⟨k, hk, rfl, HI⟩ := hrel
    by_cases hlt : k < lm.length
    · obtain ⟨m, hm⟩ : ∃ m, lm[k]? = some m := ⟨_, List.getElem?_eq_getElem hlt⟩
      obtain ⟨hF, hb1, hb2, ho, hj⟩ := HI.out
      have ho' := ho
      rw [← HIL.out] at ho'
      obtain ⟨q, rfl, hc, hq, hcl⟩ := (own_ints ho').resolve_left (fun e => by have h1 := HIL.out; rw [e.2.2] at h1; simp at h1; omega)
      have ck := hcl k m.h.id (by unfold idsM; rw [List.getElem?_map, hm]; rfl)
      have a0 := Blk.at (cs := [pz g]) (k := 0) hb1 rfl
      have a2 := Blk.at (cs := [Value.string rv]) (k := 0) hb2 rfl
      have c2 := hF.c2
      have l1 := hb1.lt
      have l2 := hb2.lt
      have lg := hF.hb.lt
      have HM := Lib.hid hF.hm.mapN
      have hmm := List.mem_of_getElem? hm
      have HKY := Lib.hid (keysI m.h.id (HWF.out m hmm))
      have HVV := Lib.hid ((own_at lm m.h.id).trans (ownV_at HND.out hmm))
      obtain ⟨mm, hP, _⟩ := hF.pod m hmm
      have hk1 : IntKind.i64.wrap ((k : Int) + 1) = (k : Int) + 1 := IntWalk.i64_in _ ⟨by omega, by omega⟩
      have d0 : decide ((k : Int) < (lm.length : Int)) = true := decide_eq_true (by omega)
      have k1 : (0 : Int) ≤ (k : Int) := by omega
      have k2 : (k : Int) < (lm.length : Int) := by omega
      have hLk : (lm.map PM.h)[k]? = some m.h := by rw [List.getElem?_map, hm]; rfl
      have g1 := Grow.G.alloc (Grow.G.refl wr) (.cells #[.string m.h.rv, pz m.p] ownedT)
      have BN := Blk.new wr #[.string m.h.rv, pz m.p] ownedT
      have HN := Lib.hid (And.intro (hF.grow g1) (And.intro (hb1.grow g1) (And.intro (hb2.grow g1) (And.intro (own_later ho g1) (HJ.out _ _ _ _ hj (Iter.Book.grow g1))))))
      have P1 := hP.grow g1
      clear hF hb1 hb2 ho ho' hcl hc hj HI hm hmm hP
      gi_wp2_with (gi_at_lookup; refine look1v_in (.agg #[.string m.h.rv, pz m.p]) rfl rfl keyedZ Try.underlying59 zeroOwned rfl HM.out rfl HKY.out HVV.out ?_)
      obtain ⟨W1, hW1⟩ : ∃ W1, W1 = wr.alloc (.cells #[.string m.h.rv, pz m.p] ownedT) := ⟨_, rfl⟩
      rw [← hW1] at HN BN P1 g1 ⊢
      obtain ⟨bo, hbo⟩ : ∃ bo, bo = wr.heap.size := ⟨_, rfl⟩
      rw [← hbo] at BN ⊢
      clear hW1 hbo ck a0 a2 c2 HM HKY HVV
      have A2 := Blk.at (cs := [Value.string rv]) (k := 0) HN.out.2.2.1 rfl
      have SM := Lib.hid (fun (w' : World) (h : Chg (fun _ => False) W1 w') => quietO (pstate_any m.p m.h.p mm w' (P1.chg h (fun _ _ => id))))
      have LM := Lib.hid (fun (w' : World) (h : Chg (fun _ => False) W1 w') => quietO (pload_any m.p m.h.p mm w' (P1.chg h (fun _ _ => id))))
      have KC := Lib.hid (fun (w' : World) (h : Chg (fun _ => False) W1 w') => (⟨h.cell (Blk.at (cs := [Value.string m.h.rv, pz m.p]) (k := 0) BN rfl) id, h.cell (Blk.at (cs := [Value.string m.h.rv, pz m.p]) (k := 1) BN rfl) id, h.cell A2 id, trivial⟩ : w'.cell? ⟨bo, 0, none⟩ = some (.string m.h.rv) ∧ w'.cell? ⟨bo, 1, none⟩ = some (pz m.p) ∧ w'.cell? ⟨b2, 0, none⟩ = some (.string rv) ∧ True))
      clear A2 BN P1
      by_cases hrv : m.h.rv = rv
      · have d1 : (m.h.rv.toList == rv.toList) = true := eqS_iff.2 hrv
        have LKO := Lib.hid (pre_at (f := fun h => decide (h.rv = rv)) hLk (decide_eq_true hrv))
        have LKS := Lib.hid (pre_snoc (f := fun h => decide (h.rv = rv)) hLk (decide_eq_true hrv))
        clear hrv hLk
        refine TailG.regionL 14 (ℓ := none) (S := Chg (fun _ => False)) (E := Grow.G) (by kernel_rfl) (by decide +kernel) (by decide +kernel) ⟨Chg.pre _, by decide +kernel, (by intro c a d v w h; cases d <;> exact h), by decide +kernel⟩ (fun ok => ?_)
        simp only [List.take_succ_cons, List.take_zero] at ok ⊢
        refine Evo2.va ok 0 _ _ ?_
        first | (refine Evo2.vl ok 1 KC.out (Chg.refl (fun _ => False) _) _ _ ?_) | (refine Evo2.va ok 1 _ _ ?_)
        first | (refine Evo2.vl ok 2 KC.out (Chg.refl (fun _ => False) _) _ _ ?_) | (refine Evo2.va ok 2 _ _ ?_)
        refine Evo2.va ok 3 _ _ ?_
        refine Evo2.va ok 4 _ _ ?_
        first | (refine Evo2.va ok 5 _ _ ?_) | (refine Evo2.vi ok 5 _ ?_)
        first | (refine Evo2.va ok 6 _ _ ?_) | (refine Evo2.vi ok 6 _ ?_)
        first | (refine Evo2.va ok 7 _ _ ?_) | (refine Evo2.vi ok 7 _ ?_)
        first | (refine Evo2.vl ok 8 KC.out (Chg.refl (fun _ => False) _) _ _ ?_) | (refine Evo2.va ok 8 _ _ ?_) | (refine Evo2.vi ok 8 _ ?_)
        first | (refine Evo2.cal ok 9 ?_ 58 ?_ ?_ ?_ ?_; rotate_left 2; (focus (intro w'; go_simp <;> with_reducible rfl)); (focus (intro w' g'; with_reducible exact SM.out w' (Chg.trans (Chg.refl (fun _ => False) _) g'))); simp only [Act.put, L0, L1, L2]) | (refine Evo2.vi ok 9 _ ?_)
        first | (refine Evo2.va ok 10 _ _ ?_) | (refine Evo2.vi ok 10 _ ?_)
        first | (refine Evo2.vl ok 11 KC.out (Chg.refl (fun _ => False) _) _ _ ?_) | (refine Evo2.va ok 11 _ _ ?_) | (refine Evo2.vi ok 11 _ ?_)
        first | (refine Evo2.cal ok 12 ?_ 63 ?_ ?_ ?_ ?_; rotate_left 2; (focus (intro w'; go_simp <;> with_reducible rfl)); (focus (intro w' g'; with_reducible exact LM.out w' (Chg.trans (Chg.refl (fun _ => False) _) g'))); simp only [Act.put, L0, L1, L2]) | (refine Evo2.vi ok 12 _ ?_)
        first | (refine Evo2.va ok 13 _ _ ?_) | (refine Evo2.vi ok 13 _ ?_)
        refine Evo2.done (by decide +kernel) (fun wz gz => ?_)
        have AZ := Chg.trans (Chg.refl (fun _ => False) _) (Chg.grow gz)
        have GZ := chg_noneO AZ
        obtain ⟨fn, tmps, assign, body, hy, hR⟩ := HY.out pp _ m.h wz (HJ.out _ _ _ _ HN.out.2.2.2.2 (Iter.Book.grow GZ)) LKO.out
        unfold lkE Po.look Po.load at hy
        have HN2 := Lib.hid (And.intro (HN.out.1.grow GZ) (And.intro (HN.out.2.1.grow GZ) (And.intro (HN.out.2.2.1.grow GZ) (own_later HN.out.2.2.2.1 GZ))))
        clear GZ AZ gz ok KC HN SM LM
        dsimp only [Round.Calm, Tail.next]
        simp only [List.drop_succ_cons, List.drop_zero]
        gi_wp2_with fail
        refine ⟨rfl, hR.mono ?_⟩
        rintro e w3 (⟨rfl, hj3, hp3, hk3, -⟩ | ⟨rfl, hx3, -⟩)
        · have HK := Lib.hid (And.intro hj3 (And.intro hp3 hk3))
          clear hj3 hp3 hk3 hR hy
          gi_wp2_with fail
          go_roundw
          case rel => exact ⟨k + 1, by omega, by go_num, Lib.hid ⟨HN2.out.1.keep (KeepP.less HK.out.2.2 fun k hk => .inl hk), HK.out.2.2.blk HN2.out.2.1 (.inr (.inl rfl)), HK.out.2.2.blk HN2.out.2.2.1 (.inr (.inr rfl)), own_keep HN2.out.2.2.2 (fun j hj => HK.out.2.1 j (HPP.out j hj)), LKS.out ▸ HK.out.1⟩⟩
          case measure => simp [_root_.Go.RowKit.intOf]; omega
        · have HX := Lib.hid hx3
          clear hx3 hR hy
          gi_wp2_with fail
          refine bodyPost_ret (results_none rfl _ _ _) rfl ?_
          exact ⟨⟨_, rfl⟩, pp, .inr ⟨_, HX.out⟩⟩
      · have d1 : (m.h.rv.toList == rv.toList) = false := by
          cases q : (m.h.rv.toList == rv.toList) with
          | false => rfl
          | true => exact absurd (eqS_iff.1 q) hrv
        have LKS := Lib.hid (pre_skip (f := fun h => decide (h.rv = rv)) hLk (decide_eq_false hrv))
        clear hrv hLk
        refine TailG.regionL 14 (ℓ := none) (S := Chg (fun _ => False)) (E := Grow.G) (by kernel_rfl) (by decide +kernel) (by decide +kernel) ⟨Chg.pre _, by decide +kernel, (by intro c a d v w h; cases d <;> exact h), by decide +kernel⟩ (fun ok => ?_)
        simp only [List.take_succ_cons, List.take_zero] at ok ⊢
        refine Evo2.va ok 0 _ _ ?_
        first | (refine Evo2.vl ok 1 KC.out (Chg.refl (fun _ => False) _) _ _ ?_) | (refine Evo2.va ok 1 _ _ ?_)
        first | (refine Evo2.vl ok 2 KC.out (Chg.refl (fun _ => False) _) _ _ ?_) | (refine Evo2.va ok 2 _ _ ?_)
        refine Evo2.va ok 3 _ _ ?_
        refine Evo2.va ok 4 _ _ ?_
        first | (refine Evo2.va ok 5 _ _ ?_) | (refine Evo2.vi ok 5 _ ?_)
        first | (refine Evo2.va ok 6 _ _ ?_) | (refine Evo2.vi ok 6 _ ?_)
        first | (refine Evo2.va ok 7 _ _ ?_) | (refine Evo2.vi ok 7 _ ?_)
        first | (refine Evo2.vl ok 8 KC.out (Chg.refl (fun _ => False) _) _ _ ?_) | (refine Evo2.va ok 8 _ _ ?_) | (refine Evo2.vi ok 8 _ ?_)
        first | (refine Evo2.cal ok 9 ?_ 58 ?_ ?_ ?_ ?_; rotate_left 2; (focus (intro w'; go_simp <;> with_reducible rfl)); (focus (intro w' g'; with_reducible exact SM.out w' (Chg.trans (Chg.refl (fun _ => False) _) g'))); simp only [Act.put, L0, L1, L2]) | (refine Evo2.vi ok 9 _ ?_)
        first | (refine Evo2.va ok 10 _ _ ?_) | (refine Evo2.vi ok 10 _ ?_)
        first | (refine Evo2.vl ok 11 KC.out (Chg.refl (fun _ => False) _) _ _ ?_) | (refine Evo2.va ok 11 _ _ ?_) | (refine Evo2.vi ok 11 _ ?_)
        first | (refine Evo2.cal ok 12 ?_ 63 ?_ ?_ ?_ ?_; rotate_left 2; (focus (intro w'; go_simp <;> with_reducible rfl)); (focus (intro w' g'; with_reducible exact LM.out w' (Chg.trans (Chg.refl (fun _ => False) _) g'))); simp only [Act.put, L0, L1, L2]) | (refine Evo2.vi ok 12 _ ?_)
        first | (refine Evo2.va ok 13 _ _ ?_) | (refine Evo2.vi ok 13 _ ?_)
        refine Evo2.done (by decide +kernel) (fun wz gz => ?_)
        have AZ := Chg.trans (Chg.refl (fun _ => False) _) (Chg.grow gz)
        have GZ := chg_noneO AZ
        have HN2 := Lib.hid (And.intro (HN.out.1.grow GZ) (And.intro (HN.out.2.1.grow GZ) (And.intro (HN.out.2.2.1.grow GZ) (And.intro (own_later HN.out.2.2.2.1 GZ) (HJ.out _ _ _ _ HN.out.2.2.2.2 (Iter.Book.grow GZ))))))
        clear GZ AZ gz ok KC HN SM LM
        dsimp only [Round.Calm, Tail.next]
        simp only [List.drop_succ_cons, List.drop_zero]
        gi_wp2_with fail
        refine ⟨fun f hf => (by cases hf), ?_⟩
        gi_wp2_with fail
        go_roundw
        case rel => exact ⟨k + 1, by omega, by go_num, Lib.hid ⟨HN2.out.1, HN2.out.2.1, HN2.out.2.2.1, HN2.out.2.2.2.1, LKS.out ▸ HN2.out.2.2.2.2⟩⟩
        case measure => simp [_root_.Go.RowKit.intOf]; omega
    · have hkl : k = lm.length := by omega
      have d0 : decide ((k : Int) < (lm.length : Int)) = false := decide_eq_false (by omega)
      have nk : ¬ ((k : Int) < (lm.length : Int)) := by omega
      have JZ : Hid (J pp (eachL (lm.map PM.h) rv) wr) := Lib.hid (by
        have := HI.out.2.2.2.2
        rw [List.take_of_length_le (by rw [List.length_map]; omega)] at this
        exact this)
      clear HI hkl
      gi_wp2_with fail
      go_end0
      exact ⟨⟨_, rfl⟩, pp, .inl JZ.out⟩
end Go.Proofs.Ytfnpghekkhnjkaa

/- My own texts HdM, Hd1, laid in one file. -/
import Derived.Test.YtfnpghekkhnjkaaZ74
import Derived.Test.YtfnpghekkhnjkaaZ58
import Derived.Test.YtfnpghekkhnjkaaZ63
import Derived.Test.YtfnpghekkhnjkaaZ29
import Derived.Test.YtfnpghekkhnjkaaZ2

/- The second form's fleet in memory: what it is; find, where. -/
namespace Go.Proofs.Ytfnpghekkhnjkaa
set_option maxRecDepth 100000
set_option linter.unusedVariables false
set_option linter.unusedSimpArgs false
set_option linter.unnecessarySimpa false
open Go.RowKit

/-- A held pod with where it lies: its own block, its pod's. -/
structure HM where
  h : Po
  b : Nat
  p : Nat
abbrev heldT : TypeId := 85
abbrev rflT : TypeId := 79
abbrev heldPT : TypeId := 81
def HM.cells (m : HM) : List Value := [.int .i64 m.h.id, .string m.h.rv, pz m.p]
def HM.to (m : HM) (p : Pd) : HM := ⟨m.h.to p, m.b, m.p⟩
def HdF (m : HM) : Hp := Sep (BlkF m.b m.cells heldT) (RpP m.p m.h.p)
theorem HdF.foot (m : HM) : Foot (HdF m) := (BlkF.foot _ _ _).sep (RpP.foot _ _)
def hptrs (lm : List HM) : List Value := lm.map fun m => pz m.b
def RflS (g : Nat) (r n : Int) (v : Value) (lm : List HM) : Hp := Sep (BlkF g [.int .i64 r, .int .i64 n, v] rflT) (Sep (RowF 0 heldPT 1 v lm.length (hptrs lm)) (SepL HdF lm))
theorem RflS.foot (g : Nat) (r n : Int) (v : Value) (lm : List HM) : Foot (RflS g r n v lm) := (BlkF.foot _ _ _).sep ((RowF.foot _ _ _ _ _ _).sep (SepL.foot HdF.foot lm))
/-- The second form's fleet that says what f is. -/
def RflP (g : Nat) (f : Fl) : Hp := fun w F => ∃ (v : Value) (lm : List HM), lm.map HM.h = f.l ∧ f.ok ∧ RflS g f.room f.n v lm w F
theorem RflP.foot (g : Nat) (f : Fl) : Foot (RflP g f) where
  lt := fun ⟨v, lm, _, _, h⟩ => (RflS.foot g f.room f.n v lm).lt h
  frame := fun ⟨v, lm, h1, h2, h⟩ c hs => ⟨v, lm, h1, h2, (RflS.foot g f.room f.n v lm).frame h c hs⟩
section
variable {w w' : World} {F : Nat → Prop} {g : Nat} {r n : Int} {v : Value} {lm : List HM}
theorem RflS.hb (h : RflS g r n v lm w F) : Blk w g ([.int .i64 r, .int .i64 n, v] : List Value).toArray rflT := by
  obtain ⟨F1, F2, a, _⟩ := h
  exact a.1
theorem RflS.row (h : RflS g r n v lm w F) : w.ownsRow 0 heldPT 1 v lm.length (hptrs lm) := by
  obtain ⟨F1, F2, _, ⟨F3, F4, a, _⟩, _⟩ := h
  exact a.1
theorem RflS.ob (h : RflS g r n v lm w F) {i : Nat} {m : HM} (hi : lm[i]? = some m) : Blk w m.b m.cells.toArray heldT ∧ ∃ u, RpIn w m.p m.h.p u := by
  obtain ⟨F1, F2, _, ⟨F3, F4, _, ⟨Fs, hl, ha, _⟩, _⟩, _⟩ := h
  have hil := (List.getElem?_eq_some_iff.1 hi).1
  obtain ⟨F5, F6, q1, ⟨u, q2, _⟩, _⟩ := ha i m (Fs[i]'(by omega)) hi (List.getElem?_eq_getElem _)
  exact ⟨q1.1, u, q2⟩
theorem RflS.at (h : RflS g r n v lm w F) {i : Nat} {m : HM} (hi : lm[i]? = some m) : ∃ q c, v = .slice (some ⟨q, 0, none⟩) lm.length c ∧ w.cell? ⟨q, i, none⟩ = some (pz m.b) ∧ q < w.heap.size := by
  have ho := h.row
  have hil := (List.getElem?_eq_some_iff.1 hi).1
  rcases ho.2 with ⟨_, h0⟩ | ⟨q, cap, cur, rfl, _, hq, _⟩
  · omega
  · exact ⟨q, cap, rfl, own_cell ho (by unfold hptrs; rw [List.getElem?_map, hi]; rfl), Chg.lt_of hq⟩
theorem RflS.sl (h : RflS g r n v lm w F) : ∃ a c, v = .slice a lm.length c := own_shape h.row
theorem RflS.grow (h : RflS g r n v lm w F) (k : Grow.G w w') : RflS g r n v lm w' F := (RflS.foot g r n v lm).grow h k
end
def ptrO (o : Option HM) : Value := match o with
  | none => .pointer none
  | some m => pz m.b
theorem find_first {α : Type} {l : List α} {p : α → Bool} {k : Nat} {m : α} (hm : l[k]? = some m) (hp : p m = true) (hn : ∀ x, x ∈ l.take k → p x = false) : l.find? p = some m := by
  have hk := (List.getElem?_eq_some_iff.1 hm).1
  have e : l = l.take k ++ m :: l.drop (k + 1) := by
    obtain ⟨h1, h2⟩ := List.getElem?_eq_some_iff.1 hm
    rw [← h2, ← List.drop_eq_getElem_cons h1, List.take_append_drop]
  rw [e, List.find?_append, List.find?_eq_none.2 (fun x hx => by rw [hn x hx]; decide)]
  simp [hp]
theorem find_none' {α : Type} {l : List α} {p : α → Bool} (hn : ∀ x, x ∈ l → p x = false) : l.find? p = none := List.find?_eq_none.2 fun x hx => by rw [hn x hx]; decide
theorem snocH {α : Type} {l : List α} {k : Nat} {m : α} (hm : l[k]? = some m) {q : α → Prop} (h1 : ∀ x, x ∈ l.take k → q x) (h2 : q m) : ∀ x, x ∈ l.take (k + 1) → q x := fun x hx => by
  rw [List.take_add_one, hm] at hx
  rcases List.mem_append.1 hx with hx | hx
  · exact h1 x hx
  · have : x = m := by simpa using hx
    rw [this]; exact h2
def findH (lm : List HM) (id : Int) : Option HM := lm.find? fun m => m.h.id == id
def whereH (lm : List HM) (x : Int) : Option HM := lm.find? fun m => decide (x ∈ m.h.p.l)
theorem findH_map (lm : List HM) (id : Int) : (findH lm id).map HM.h = findP (lm.map HM.h) id := by unfold findH findP; rw [List.find?_map]; rfl
theorem whereH_map (lm : List HM) (x : Int) : (whereH lm x).map HM.h = whereP (lm.map HM.h) x := by unfold whereH whereP; rw [List.find?_map]; rfl
set_option maxHeartbeats 4000000 in
theorem rlfind_any (g : Nat) (r n : Int) (v : Value) (lm : List HM) (id : Int) (w : World) (F : Nat → Prop) (h : RflS g r n v lm w F) (hl : lm.length ≤ 1000) :
    Calls Try.prog 46 #[pz g, .int .i64 id] w fun e w' => e = .returned (ptrO (findH lm id)) ∧ w = w' := by
  obtain ⟨a, c, rfl⟩ := h.sl
  have c0 : w.cell? ⟨g, 2, none⟩ = some (.slice a lm.length c) := (h.hb.cell 2).trans rfl
  have hgl := h.hb.lt
  have HS := Lib.hid h
  clear h
  go_enter Try.func46, Try.ntmps46
  go_wp2_with fail
  go_loopw [5] (fun i wr => ∃ k : Nat, k ≤ lm.length ∧ i = .int .i64 k ∧ wr = w ∧ Hid (∀ m, m ∈ lm.take k → (m.h.id == id) = false)) (fun i _ => lm.length - (_root_.Go.RowKit.intOf i).toNat)
  case atStart => exact ⟨0, by omega, rfl, rfl, Lib.hid (fun p hp => by simp at hp)⟩
  case round =>
    obtain ⟨k, hk, rfl, rfl, HX⟩ := hrel
    by_cases hlt : k < lm.length
    · obtain ⟨m, hm⟩ : ∃ m, lm[k]? = some m := ⟨_, List.getElem?_eq_getElem hlt⟩
      obtain ⟨q, c', e, cr, hql⟩ := HS.out.at hm
      cases e
      obtain ⟨hB, _⟩ := HS.out.ob hm
      have ck : wr.cell? ⟨m.b, 0, none⟩ = some (.int .i64 m.h.id) := (hB.cell 0).trans rfl
      have hbl := hB.lt
      have d0 : decide ((k : Int) < (lm.length : Int)) = true := decide_eq_true (by omega)
      have hk1 : IntKind.i64.wrap ((k : Int) + 1) = (k : Int) + 1 := IntWalk.i64_in _ ⟨by omega, by omega⟩
      have k1 : (0 : Int) ≤ (k : Int) := by omega
      have k2 : (k : Int) < (lm.length : Int) := by omega
      by_cases e : m.h.id = id
      · have d1 : (m.h.id == id) = true := by simpa using e
        have RES : Hid (ptrO (findH lm id) = pz m.b) := Lib.hid (by unfold findH; rw [find_first hm d1 HX.out]; rfl)
        clear hm hB HX e
        go_wp2_with fail
        go_ret
        rw [RES.out]
        exact ⟨rfl, rfl⟩
      · have d1 : (m.h.id == id) = false := by simpa using e
        have HX2 := Lib.hid (snocH hm HX.out d1)
        clear hm hB HX e
        go_wp2_with fail
        go_roundw
        case rel => exact ⟨k + 1, by omega, by go_num, trivial, HX2⟩
        case measure => simp [_root_.Go.RowKit.intOf]; omega
    · obtain rfl : k = lm.length := by omega
      have d0 : decide ((lm.length : Int) < (lm.length : Int)) = false := decide_eq_false (by omega)
      have RES : Hid (ptrO (findH lm id) = .pointer none) := Lib.hid (by unfold findH; rw [find_none' (fun x hx => HX.out x (by rw [List.take_length]; exact hx))]; rfl)
      clear HX
      go_wp2_with fail
      go_ret
      rw [RES.out]
      exact ⟨rfl, rfl⟩
set_option maxHeartbeats 4000000 in
theorem rlwhere_any (g : Nat) (r n : Int) (v : Value) (lm : List HM) (x : Int) (w : World) (F : Nat → Prop) (h : RflS g r n v lm w F) (hl : lm.length ≤ 1000) :
    Calls Try.prog 48 #[pz g, .int .i64 x] w fun e w' => e = .returned (ptrO (whereH lm x)) ∧ w = w' := by
  obtain ⟨a, c, rfl⟩ := h.sl
  have c0 : w.cell? ⟨g, 2, none⟩ = some (.slice a lm.length c) := (h.hb.cell 2).trans rfl
  have hgl := h.hb.lt
  have HS := Lib.hid h
  clear h
  go_enter Try.func48, Try.ntmps48
  go_wp2_with fail
  go_loopw [5] (fun i wr => ∃ k : Nat, k ≤ lm.length ∧ i = .int .i64 k ∧ wr = w ∧ Hid (∀ m, m ∈ lm.take k → decide (x ∈ m.h.p.l) = false)) (fun i _ => lm.length - (_root_.Go.RowKit.intOf i).toNat)
  case atStart => exact ⟨0, by omega, rfl, rfl, Lib.hid (fun p hp => by simp at hp)⟩
  case round =>
    obtain ⟨k, hk, rfl, rfl, HX⟩ := hrel
    by_cases hlt : k < lm.length
    · obtain ⟨m, hm⟩ : ∃ m, lm[k]? = some m := ⟨_, List.getElem?_eq_getElem hlt⟩
      obtain ⟨q, c', e, cr, hql⟩ := HS.out.at hm
      cases e
      obtain ⟨hB, u, hP⟩ := HS.out.ob hm
      have ck : wr.cell? ⟨m.b, 2, none⟩ = some (pz m.p) := (hB.cell 2).trans rfl
      have hbl := hB.lt
      have HAS := Lib.hid (rphas_any m.p m.h.p u x wr hP)
      have d0 : decide ((k : Int) < (lm.length : Int)) = true := decide_eq_true (by omega)
      have hk1 : IntKind.i64.wrap ((k : Int) + 1) = (k : Int) + 1 := IntWalk.i64_in _ ⟨by omega, by omega⟩
      have k1 : (0 : Int) ≤ (k : Int) := by omega
      have k2 : (k : Int) < (lm.length : Int) := by omega
      by_cases e : x ∈ m.h.p.l
      · have d1 : decide (x ∈ m.h.p.l) = true := decide_eq_true e
        have RES : Hid (ptrO (whereH lm x) = pz m.b) := Lib.hid (by unfold whereH; rw [find_first hm d1 HX.out]; rfl)
        rw [d1] at HAS
        clear hm hB HX e d1 hP
        go_wp2_with fail
        refine HAS.out.mono ?_
        rintro e w1 ⟨rfl, rfl⟩
        go_wp2_with fail
        go_ret
        rw [RES.out]
        exact ⟨rfl, rfl⟩
      · have d1 : decide (x ∈ m.h.p.l) = false := decide_eq_false e
        have HX2 := Lib.hid (snocH hm HX.out d1)
        rw [d1] at HAS
        clear hm hB HX e d1 hP
        go_wp2_with fail
        refine HAS.out.mono ?_
        rintro e w1 ⟨rfl, rfl⟩
        go_wp2_with fail
        go_roundw
        case rel => exact ⟨k + 1, by omega, by go_num, trivial, HX2⟩
        case measure => simp [_root_.Go.RowKit.intOf]; omega
    · obtain rfl : k = lm.length := by omega
      have d0 : decide ((lm.length : Int) < (lm.length : Int)) = false := decide_eq_false (by omega)
      have RES : Hid (ptrO (whereH lm x) = .pointer none) := Lib.hid (by unfold whereH; rw [find_none' (fun x hx => HX.out x (by rw [List.take_length]; exact hx))]; rfl)
      clear HX
      go_wp2_with fail
      go_ret
      rw [RES.out]
      exact ⟨rfl, rfl⟩

theorem mem_at' {α : Type} {l : List α} {x : α} (h : x ∈ l) : ∃ i : Nat, l[i]? = some x := List.getElem?_of_mem h
theorem quietG {P : Program} {f : FuncId} {args : Array Value} {w : World} {v : Value} (h : Calls P f args w fun e w' => e = .returned v ∧ w = w') : Calls P f args w fun e w' => e = .returned v ∧ Grow.G w w' :=
  h.mono fun e w' ⟨q1, q2⟩ => ⟨q1, q2 ▸ Grow.G.refl _⟩
end Go.Proofs.Ytfnpghekkhnjkaa

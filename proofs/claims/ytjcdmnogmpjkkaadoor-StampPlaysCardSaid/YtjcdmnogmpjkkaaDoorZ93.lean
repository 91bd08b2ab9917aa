/- My own texts RbM, RbG, RbH, RbS, laid in one file. -/
import Derived.Test.YtjcdmnogmpjkkaaDoorZ92
import Derived.Test.YtjcdmnogmpjkkaaDoorZ83
import Derived.Test.YtjcdmnogmpjkkaaDoorZ29
import Derived.Test.YtjcdmnogmpjkkaaDoorZ48
import Derived.Test.YtjcdmnogmpjkkaaDoorZ2
import Derived.Test.YtjcdmnogmpjkkaaDoorZ1
import Derived.Test.YtjcdmnogmpjkkaaDoorZ36
import Derived.Test.YtjcdmnogmpjkkaaDoorZ91
import Derived.Test.YtjcdmnogmpjkkaaDoorZ37
import Derived.Handy

/- The second form's book in memory: what it is; at, Get, Proved, All. -/
namespace Go.Proofs.YtjcdmnogmpjkkaaDoor
set_option maxRecDepth 100000
set_option linter.unusedVariables false
set_option linter.unusedSimpArgs false
set_option linter.unnecessarySimpa false
open Go.RowKit Go.Args

abbrev rbkT : TypeId := 30
abbrev rvT : TypeId := 46
abbrev revsV (l : List Rv) : List Value := l.flatMap Rv.cells
def prsV (l : List Rv) : List Value := l.map fun r => .bool r.pr
theorem rv_len (r : Rv) : r.cells.length = 8 := rfl
def RbS (g : Nat) (v u : Value) (l : List Rv) : Hp := Sep (BlkF g [v, u] rbkT) (Sep (RowF 0 rvT 8 v l.length (revsV l)) (RowF 0 4 1 u l.length (prsV l)))
theorem RbS.foot (g : Nat) (v u : Value) (l : List Rv) : Foot (RbS g v u l) := (BlkF.foot _ _ _).sep ((RowF.foot _ _ _ _ _ _).sep (RowF.foot _ _ _ _ _ _))
/-- The second form's book that says what l is. -/
def RbP (g : Nat) (l : List Rv) : Hp := fun w F => ∃ v u, BkOk l ∧ RbS g v u l w F
theorem RbP.foot (g : Nat) (l : List Rv) : Foot (RbP g l) where
  lt := fun ⟨v, u, _, h⟩ => (RbS.foot g v u l).lt h
  frame := fun ⟨v, u, h1, h⟩ c hs => ⟨v, u, h1, (RbS.foot g v u l).frame h c hs⟩
theorem own_revs {w : World} {base c : Nat} {a : Option Addr} {T : TypeId} {l : List Rv} (h : w.ownsRow base T 8 (.slice a l.length c) l.length (revsV l)) :
    (a = none ∧ c = 0 ∧ l = []) ∨ ∃ g, a = some ⟨g, 0, none⟩ ∧ l.length ≤ c ∧ g < w.heap.size ∧ ∀ k r, l[k]? = some r → ∀ j v, r.cells[j]? = some v → w.cell? ⟨g, k * 8 + j, none⟩ = some v := by
  rcases h.2 with ⟨h1, h2⟩ | ⟨g, cap, cur, hv, hb, hg, hn, hm, hs, ht⟩
  · injection h1 with e1 e2 e3
    exact .inl ⟨e1, e3, List.eq_nil_of_length_eq_zero h2⟩
  · injection hv with e1 e2 e3
    subst e1 e3
    exact .inr ⟨g, rfl, hn, Chg.lt_of hg, fun k r hk j v hv => own_cell h (flat_at rv_len hv hk)⟩
theorem own_prs {w : World} {base c : Nat} {a : Option Addr} {T : TypeId} {l : List Rv} (h : w.ownsRow base T 1 (.slice a l.length c) l.length (prsV l)) :
    (a = none ∧ c = 0 ∧ l = []) ∨ ∃ g, a = some ⟨g, 0, none⟩ ∧ l.length ≤ c ∧ g < w.heap.size ∧ ∀ k r, l[k]? = some r → w.cell? ⟨g, k, none⟩ = some (.bool r.pr) := by
  rcases h.2 with ⟨h1, h2⟩ | ⟨g, cap, cur, hv, hb, hg, hn, hm, hs, ht⟩
  · injection h1 with e1 e2 e3
    exact .inl ⟨e1, e3, List.eq_nil_of_length_eq_zero h2⟩
  · injection hv with e1 e2 e3
    subst e1 e3
    exact .inr ⟨g, rfl, hn, Chg.lt_of hg, fun k r hk => own_cell h (by unfold prsV; rw [List.getElem?_map, hk]; rfl)⟩
section
variable {w w' : World} {F : Nat → Prop} {g : Nat} {v u : Value} {l : List Rv}
theorem RbS.hb (h : RbS g v u l w F) : Blk w g ([v, u] : List Value).toArray rbkT := by
  obtain ⟨F1, F2, a, _⟩ := h
  exact a.1
theorem RbS.row (h : RbS g v u l w F) : w.ownsRow 0 rvT 8 v l.length (revsV l) := by
  obtain ⟨F1, F2, _, ⟨F3, F4, a, _⟩, _⟩ := h
  exact a.1
theorem RbS.is (h : RbS g v u l w F) : w.ownsRow 0 4 1 u l.length (prsV l) := by
  obtain ⟨F1, F2, _, ⟨F3, F4, _, a, _⟩, _⟩ := h
  exact a.1
theorem RbS.sl (h : RbS g v u l w F) : (∃ a c, v = .slice a l.length c) ∧ ∃ a c, u = .slice a l.length c := ⟨own_shape h.row, own_shape h.is⟩
theorem RbS.grow (h : RbS g v u l w F) (k : Grow.G w w') : RbS g v u l w' F := (RbS.foot g v u l).grow h k
end
/-- A revision's place, or -1. -/
def atK (l : List Rv) (s : ByteArray) : Int := match l.findIdx? fun r => decide (r.nm = s) with
  | none => -1
  | some i => i
theorem atK_first {l : List Rv} {s : ByteArray} {k : Nat} {r : Rv} (hr : l[k]? = some r) (he : r.nm = s) (hn : ∀ x, x ∈ l.take k → x.nm ≠ s) : atK l s = k := by
  unfold atK
  have hk := (List.getElem?_eq_some_iff.1 hr).1
  have : l.findIdx? (fun r => decide (r.nm = s)) = some k := by
    rw [List.findIdx?_eq_some_iff_getElem]
    refine ⟨hk, ?_, fun j hj => ?_⟩
    · have := (List.getElem?_eq_some_iff.1 hr).2
      rw [this]; exact decide_eq_true he
    · have := hn (l[j]'(by omega)) (by rw [List.mem_take_iff_getElem]; exact ⟨j, by omega, rfl⟩)
      simpa using this
  rw [this]
theorem atK_none {l : List Rv} {s : ByteArray} (hn : ∀ x, x ∈ l → x.nm ≠ s) : atK l s = -1 := by
  unfold atK
  rw [List.findIdx?_eq_none_iff.2 (fun x hx => decide_eq_false (hn x hx))]
/-- What a place says. -/
theorem atK_cases (l : List Rv) (s : ByteArray) : (atK l s = -1 ∧ hasK l s = false ∧ findK l s = none) ∨ ∃ (k : Nat) (r : Rv), atK l s = k ∧ l[k]? = some r ∧ r.nm = s ∧ hasK l s = true ∧ findK l s = some r := by
  cases e : l.findIdx? fun r => decide (r.nm = s) with
  | none =>
    have h1 : hasK l s = false := hasK_no.2 fun r hr q => by have := List.findIdx?_eq_none_iff.1 e r hr; simp [q] at this
    exact .inl ⟨by unfold atK; rw [e], h1, findK_none h1⟩
  | some k =>
    obtain ⟨hk, h1, h2⟩ := List.findIdx?_eq_some_iff_getElem.1 e
    have he : (l[k]).nm = s := by simpa using h1
    have hf : findK l s = some l[k] := by
      have e2 : l = l.take k ++ l[k] :: l.drop (k + 1) := by rw [← List.drop_eq_getElem_cons hk, List.take_append_drop]
      unfold findK
      conv => lhs; rw [e2]
      rw [List.find?_append, List.find?_eq_none.2 (fun x hx => by
        obtain ⟨j, hj, rfl⟩ := List.mem_take_iff_getElem.1 hx
        have := h2 j (by omega)
        simpa using this)]
      rw [Option.none_or]
      exact List.find?_cons_of_pos (p := fun r : Rv => decide (r.nm = s)) (decide_eq_true he)
    exact .inr ⟨k, l[k], by unfold atK; rw [e], List.getElem?_eq_getElem hk, he, hasK_iff.2 ⟨_, List.getElem_mem hk, he⟩, hf⟩
theorem snocR {l : List Rv} {k : Nat} {m : Rv} (hm : l[k]? = some m) {q : Rv → Prop} (h1 : ∀ x, x ∈ l.take k → q x) (h2 : q m) : ∀ x, x ∈ l.take (k + 1) → q x := fun x hx => by
  rw [List.take_add_one, hm] at hx
  rcases List.mem_append.1 hx with hx | hx
  · exact h1 x hx
  · have : x = m := by simpa using hx
    rw [this]; exact h2
set_option maxHeartbeats 4000000 in
theorem rbat_any (g : Nat) (v u : Value) (l : List Rv) (s : ByteArray) (w : World) (F : Nat → Prop) (h : RbS g v u l w F) (hl : l.length ≤ 1000) :
    Calls Tryd.prog 32 #[pz g, .string s] w fun e w' => e = .returned (.int .i64 (atK l s)) ∧ w = w' := by
  obtain ⟨⟨a, c, rfl⟩, -⟩ := h.sl
  have c0 : w.cell? ⟨g, 0, none⟩ = some (.slice a l.length c) := (h.hb.cell 0).trans rfl
  have hgl := h.hb.lt
  have HS := Lib.hid h
  clear h
  go_enter Tryd.func32, Tryd.ntmps32
  go_wp2_with fail
  go_loopw [5] (fun i wr => ∃ k : Nat, k ≤ l.length ∧ i = .int .i64 k ∧ wr = w ∧ Hid (∀ m, m ∈ l.take k → m.nm ≠ s)) (fun i _ => l.length - (_root_.Go.RowKit.intOf i).toNat)
  case atStart => exact ⟨0, by omega, rfl, rfl, Lib.hid (fun p hp => by simp at hp)⟩
  case round =>
    obtain ⟨k, hk, rfl, rfl, HX⟩ := hrel
    by_cases hlt : k < l.length
    · obtain ⟨m, hm⟩ : ∃ m, l[k]? = some m := ⟨_, List.getElem?_eq_getElem hlt⟩
      obtain ⟨b, rfl, hcc, hbl, hc⟩ := (own_revs HS.out.row).resolve_left (fun e => by rw [e.2.2] at hlt; simp at hlt)
      have ck := hc k m hm 0 (.string m.nm) rfl
      rw [Nat.add_zero] at ck
      have d0 : decide ((k : Int) < (l.length : Int)) = true := decide_eq_true (by omega)
      have hk1 : IntKind.i64.wrap ((k : Int) + 1) = (k : Int) + 1 := IntWalk.i64_in _ ⟨by omega, by omega⟩
      have k1 : (0 : Int) ≤ (k : Int) := by omega
      have k2 : (k : Int) < (l.length : Int) := by omega
      obtain ⟨mn, hmn⟩ : ∃ mn, m.nm = mn := ⟨_, rfl⟩
      rw [hmn] at ck
      by_cases e : mn = s
      · have d1 : (mn.toList == s.toList) = true := eqS_iff.2 e
        have RES : Hid (atK l s = (k : Int)) := Lib.hid (atK_first hm (hmn.trans e) HX.out)
        clear hm HX e hc hmn
        go_wp2_with fail
        go_ret
        rw [RES.out]
        exact ⟨rfl, rfl⟩
      · have d1 : (mn.toList == s.toList) = false := by
          cases q : (mn.toList == s.toList) with
          | false => rfl
          | true => exact absurd (eqS_iff.1 q) e
        have HX2 := Lib.hid (snocR (q := fun m => m.nm ≠ s) hm HX.out (by rw [hmn]; exact e))
        clear hm HX e hc hmn
        go_wp2_with fail
        go_roundw
        case rel => exact ⟨k + 1, by omega, by go_num, trivial, HX2⟩
        case measure => simp [_root_.Go.RowKit.intOf]; omega
    · obtain rfl : k = l.length := by omega
      have d0 : decide ((l.length : Int) < (l.length : Int)) = false := decide_eq_false (by omega)
      have RES : Hid (atK l s = -1) := Lib.hid (atK_none (fun x hx => HX.out x (by rw [List.take_length]; exact hx)))
      clear HX
      go_wp2_with fail
      go_ret
      rw [RES.out]
      exact ⟨rfl, rfl⟩
set_option maxHeartbeats 4000000 in
theorem rbproved_any (g : Nat) (v u : Value) (l : List Rv) (s : ByteArray) (w : World) (F : Nat → Prop) (h : RbS g v u l w F) (hl : l.length ≤ 1000) :
    Calls Tryd.prog 40 #[pz g, .string s] w fun e w' => e = .returned (.bool (prvK l s)) ∧ w = w' := by
  obtain ⟨-, a, c, rfl⟩ := h.sl
  have c0 : w.cell? ⟨g, 1, none⟩ = some (.slice a l.length c) := (h.hb.cell 1).trans rfl
  have hgl := h.hb.lt
  have AT := Lib.hid (rbat_any g v _ l s w F h hl)
  rcases atK_cases l s with ⟨e1, e2, e3⟩ | ⟨k, r, e1, e2, e3, e4, e5⟩
  · have RES : Hid (prvK l s = false) := Lib.hid (by unfold prvK; rw [e3])
    rw [e1] at AT
    clear h e1 e2 e3
    go_enter Tryd.func40, Tryd.ntmps40
    go_wp2_with fail
    refine AT.out.mono ?_
    rintro e w1 ⟨rfl, rfl⟩
    go_wp2_with fail
    go_ret
    rw [RES.out]
    exact ⟨rfl, rfl⟩
  · have RES : Hid (prvK l s = r.pr) := Lib.hid (by unfold prvK; rw [e5])
    rw [e1] at AT
    have hlt := (List.getElem?_eq_some_iff.1 e2).1
    obtain ⟨b, rfl, hcc, hbl, hc⟩ := (own_prs h.is).resolve_left (fun e => by rw [e.2.2] at hlt; simp at hlt)
    have ck := hc k r e2
    obtain ⟨rp, hrp⟩ : ∃ rp, r.pr = rp := ⟨_, rfl⟩
    rw [hrp] at ck RES
    have d0 : decide ((0 : Int) ≤ (k : Int)) = true := decide_eq_true (by omega)
    have k1 : (0 : Int) ≤ (k : Int) := by omega
    have k2 : (k : Int) < (l.length : Int) := by omega
    clear h e1 e2 e3 e4 e5 hc hrp
    go_enter Tryd.func40, Tryd.ntmps40
    go_wp2_with fail
    refine AT.out.mono ?_
    rintro e w1 ⟨rfl, rfl⟩
    go_wp2_with fail
    go_ret
    rw [RES.out]
    exact ⟨rfl, rfl⟩

set_option maxHeartbeats 4000000 in
theorem rbget_any (g : Nat) (v u : Value) (l : List Rv) (s : ByteArray) (w : World) (F : Nat → Prop) (h : RbS g v u l w F) (hl : l.length ≤ 1000) :
    Calls Tryd.prog 39 #[pz g, .string s] w fun e w' => e = .returned (.tuple #[.agg (getK l s).cells.toArray, .bool (hasK l s)]) ∧ Grow.G w w' := by
  obtain ⟨⟨a, c, rfl⟩, -⟩ := h.sl
  have RE : (Tryd.prog.info? rvT).map (·.size) = some 8 := by kernel_rfl
  have GA := Grow.G.alloc (Grow.G.refl w) (.cells rvZ.cells.toArray rvT)
  have h1 := h.grow GA
  have HM := Lib.hid ((Mem.nil w).alloc' rvZ.cells rvT rfl)
  have c0 : (w.alloc (.cells rvZ.cells.toArray rvT)).cell? ⟨g, 0, none⟩ = some (.slice a l.length c) := (h1.hb.cell 0).trans rfl
  have hgl := h.hb.lt
  have AT := Lib.hid (rbat_any g _ u l s _ F h1 hl)
  unfold rvZ Rv.cells at HM c0 AT
  dsimp only at HM c0 AT
  rcases atK_cases l s with ⟨e1, e2, e3⟩ | ⟨k, r, e1, e2, e3, e4, e5⟩
  · have R1 : Hid (getK l s = rvZ ∧ hasK l s = false) := Lib.hid ⟨by unfold getK; rw [e3]; rfl, e2⟩
    rw [e1] at AT
    rw [R1.out.1, R1.out.2]
    unfold rvZ Rv.cells
    dsimp only
    clear h h1 e1 e2 e3 R1
    go_enter Tryd.func39, Tryd.ntmps39
    go_wp2_with fail
    refine AT.out.mono ?_
    rintro e w1 ⟨rfl, rfl⟩
    go_wp2_with ((refine Mem.storeAll 0 (t := 46) rfl rfl rfl rfl (n := 8) (by kernel_rfl) HM.out rfl rfl rfl rfl ?_; intro W3 HMm CW3))
    simp only [K0, K1, L1, L2, K2, K3, K4, K5, K6, K7, Nat.reduceAdd, Nat.reduceSub] at HMm
    replace HM := Lib.hid HMm
    clear HMm
    refine Stay.go ?_
    have BF := HM.out.blk (i := 0) rfl
    go_wp2_with fail
    refine bodyPost_ret (v := .tuple #[.agg #[.string ⟨#[]⟩, .int .i64 0, .string ⟨#[]⟩, .int .i64 0, .int .i64 0, .int .i64 0, .int .i64 0, .int .i64 0], .bool false]) (by simp [results, Tryd.results39, go_sem, BF.cell]) rfl ?_
    exact ⟨rfl, HM.out.below⟩
  · have R1 : Hid (getK l s = r ∧ hasK l s = true) := Lib.hid ⟨by unfold getK; rw [e5]; rfl, e4⟩
    rw [e1] at AT
    rw [R1.out.1, R1.out.2]
    have hlt := (List.getElem?_eq_some_iff.1 e2).1
    obtain ⟨b, rfl, hcc, hbl, hc⟩ := (own_revs h1.row).resolve_left (fun e => by rw [e.2.2] at hlt; simp at hlt)
    have HC0 := Lib.hid (hc k r e2)
    have d0 : decide ((k : Int) < 0) = false := decide_eq_false (by omega)
    have k1 : (0 : Int) ≤ (k : Int) := by omega
    have k2 : (k : Int) < (l.length : Int) := by omega
    obtain ⟨rn, rg, ⟨b0, b1, b2, b3, b4, b5⟩, rp⟩ := r
    unfold Rv.cells at HC0 ⊢
    dsimp only at HC0 ⊢
    unfold rvZ at HC0
    dsimp only at HC0
    clear h h1 e1 e2 e3 e4 e5 R1 hc
    go_enter Tryd.func39, Tryd.ntmps39
    go_wp2_with fail
    refine AT.out.mono ?_
    rintro e w1 ⟨rfl, rfl⟩
    go_wp2_with (first | (refine SlOf.load (t := rvT) rfl (by rfl) rfl Tryd.underlying46 RE HC0.out rfl ?_) | (refine Mem.storeAll 0 (t := rvT) rfl rfl rfl rfl (n := 8) (by kernel_rfl) HM.out rfl rfl rfl rfl ?_; intro W3 HMm CW3))
    simp only [K0, K1, L1, L2, K2, K3, K4, K5, K6, K7, Nat.reduceAdd, Nat.reduceSub] at HMm
    replace HM := Lib.hid HMm
    clear HMm
    refine Stay.go ?_
    have BF := HM.out.blk (i := 0) rfl
    go_wp2_with fail
    refine bodyPost_ret (v := .tuple #[.agg #[.string rn, .int .i64 rg, .string b0, .int .i64 b1, .int .i64 b2, .int .i64 b3, .int .i64 b4, .int .i64 b5], .bool true]) (by simp [results, Tryd.results39, go_sem, BF.cell]) rfl ?_
    exact ⟨rfl, HM.out.below⟩
set_option maxHeartbeats 4000000 in
theorem rball_any (g : Nat) (v u : Value) (l : List Rv) (w : World) (F : Nat → Prop) (h : RbS g v u l w F) (hl : l.length ≤ 1000) :
    Calls Tryd.prog 38 #[pz g] w fun e w' => ∃ x, e = .returned x ∧ w'.ownsRow w.heap.size 9 1 x (allK l).length ((allK l).map Value.string) ∧ Grow.G w w' := by
  have KK := Lib.hid (fun wr (hg : Grow.G w wr) => h.grow hg)
  obtain ⟨⟨a, c, rfl⟩, -⟩ := h.sl
  clear h
  go_enter Tryd.func38, Tryd.ntmps38
  go_wp2_with fail
  go_loopw [3, 4] (fun r i wr => ∃ (j : Nat) (sa : Option Addr) (sc : Nat), j ≤ l.length ∧ i = .int .i64 j ∧ r = .slice sa (allK (l.take j)).length sc ∧ Hid (wr.ownsRow w.heap.size 9 1 (.slice sa (allK (l.take j)).length sc) (allK (l.take j)).length ((allK (l.take j)).map Value.string)) ∧ Hid (Grow.G w wr)) (fun _ i _ => l.length - (_root_.Go.RowKit.intOf i).toNat)
  case atStart => exact ⟨0, none, 0, by omega, rfl, rfl, Lib.hid ⟨rfl, .inl ⟨rfl, rfl⟩⟩, Lib.hid (Grow.G.refl _)⟩
  case round =>
    obtain ⟨j, sa, sc, hj, rfl, rfl, OW, G⟩ := hrel
    have hS := KK.out wr G.out
    have c0 : wr.cell? ⟨g, 0, none⟩ = some (.slice a l.length c) := (hS.hb.cell 0).trans rfl
    have hgl := hS.hb.lt
    by_cases hlt : j < l.length
    · obtain ⟨m, hm⟩ : ∃ m, l[j]? = some m := ⟨_, List.getElem?_eq_getElem hlt⟩
      obtain ⟨b, rfl, hcc, hbl, hc⟩ := (own_revs hS.row).resolve_left (fun e => by rw [e.2.2] at hlt; simp at hlt)
      have ck := hc j m hm 0 (.string m.nm) rfl
      rw [Nat.add_zero] at ck
      have ST := Lib.hid (allK_step hm)
      have hlen := allK_len (l.take j)
      have hlt2 := List.length_take_le j l
      have d0 : decide ((j : Int) < (l.length : Int)) = true := decide_eq_true (by omega)
      have hk1 : IntKind.i64.wrap ((j : Int) + 1) = (j : Int) + 1 := IntWalk.i64_in _ ⟨by omega, by omega⟩
      have k1 : (0 : Int) ≤ (j : Int) := by omega
      have k2 : (j : Int) < (l.length : Int) := by omega
      have PU := Lib.hid (rput_any (.slice sa (allK (l.take j)).length sc) (allK (l.take j)) m.nm w.heap.size wr (by omega) G.out.size OW.out)
      clear hm hS hlen hlt2 hc
      generalize allK (l.take j) = N at *
      go_wp2_with fail
      refine PU.out.mono ?_
      rintro e w2 ⟨v', rfl, ho, hg⟩
      obtain ⟨sa', sc', rfl⟩ := own_shape ho
      have HO := Lib.hid ho
      have HG := Lib.hid (G.out.trans hg)
      clear ho hg PU
      go_wp2_with fail
      go_roundw
      case rel => exact ⟨j + 1, sa', sc', by omega, by go_num, by rw [ST.out], by rw [ST.out]; exact HO, HG⟩
      case measure => simp [_root_.Go.RowKit.intOf]; omega
    · obtain rfl : j = l.length := by omega
      have d0 : decide ((l.length : Int) < (l.length : Int)) = false := decide_eq_false (by omega)
      clear hS
      go_wp2_with fail
      go_ret
      have hO := OW.out
      rw [List.take_length] at hO ⊢
      exact ⟨_, rfl, hO, G.out⟩
section
variable {w0 w : World} {L : List MBox} {A B : Hp} {g : Nat} {v u : Value} {l : List Rv}
theorem set_prs {l : List Rv} {s : ByteArray} {k : Nat} {r : Rv} (ok : BkOk l) (hr : l[k]? = some r) (he : r.nm = s) : prsV (setK l s) = (prsV l).set k (.bool true) ∧ revsV (setK l s) = revsV l := by
  have hk := (List.getElem?_eq_some_iff.1 hr).1
  constructor
  · refine List.ext_getElem? fun i => ?_
    unfold prsV setK
    rw [List.getElem?_map, List.getElem?_map, List.getElem?_set]
    by_cases q : k = i
    · subst q
      rw [hr, if_pos rfl, List.length_map, if_pos hk]
      show some (Value.bool (if r.nm = s then r.proved else r).pr) = _
      rw [if_pos he]; rfl
    · rw [if_neg q, List.getElem?_map]
      cases e : l[i]? with
      | none => rfl
      | some x =>
        show some (Value.bool (if x.nm = s then x.proved else x).pr) = some (Value.bool x.pr)
        rw [if_neg]
        intro ex
        obtain ⟨hi, ei⟩ := List.getElem?_eq_some_iff.1 e
        obtain ⟨hk', ek⟩ := List.getElem?_eq_some_iff.1 hr
        rcases Nat.lt_or_gt_of_ne q with h1 | h1
        · have := List.pairwise_iff_getElem.1 ok.apart k i hk' hi h1
          rw [ek, ei] at this; exact this (he.trans ex.symm)
        · have := List.pairwise_iff_getElem.1 ok.apart i k hi hk' h1
          rw [ek, ei] at this; exact this (ex.trans he.symm)
  · show (l.map _).flatMap Rv.cells = _
    rw [List.flatMap_map]
    congr 1
    funext x
    split <;> rfl
theorem setK_no {l : List Rv} {s : ByteArray} (h : hasK l s = false) : setK l s = l := by
  unfold setK
  conv => rhs; rw [← List.map_id l]
  exact List.map_congr_left fun x hx => if_neg (hasK_no.1 h x hx)
theorem hold_rbopen (h : Hold w0 w L (Sep (RbP g l) B)) : ∃ v u, BkOk l ∧ Hold w0 w L (Sep (RbS g v u l) B) := by
  obtain ⟨F, ⟨F1, F2, ⟨v, u, h1, h2⟩, hb, ap, e⟩, q1, q2⟩ := h.st
  exact ⟨v, u, h1, h.mem, F, ⟨F1, F2, h2, hb, ap, e⟩, q1, q2⟩
theorem hold_rbS (h : Hold w0 w L (Sep (RbS g v u l) B)) : ∃ F, RbS g v u l w F := by
  obtain ⟨F, ⟨F1, F2, hs, _⟩, _⟩ := h.st
  exact ⟨F1, hs⟩
theorem hold_rbclose (h : Hold w0 w L (Sep (RbS g v u l) B)) (ok : BkOk l) : Hold w0 w L (Sep (RbP g l) B) := h.map fun F h => h.over fun F h => ⟨v, u, ok, h⟩
end
end Go.Proofs.YtjcdmnogmpjkkaaDoor

/- The second form's book among what a call holds: Prove, and what only reads. -/
namespace Go.Proofs.YtjcdmnogmpjkkaaDoor
set_option maxRecDepth 100000
set_option linter.unusedVariables false
set_option linter.unusedSimpArgs false
set_option linter.unnecessarySimpa false
open Go.RowKit Go.Args

section
variable {w0 w : World} {L : List MBox} {A B : Hp} {g : Nat} {v u : Value} {l l' : List Rv} {er : Int} {bo : Bool} {st mt : ByteArray} {N : List ByteArray} {r : Rv}
theorem hold_rbflat (h : Hold w0 w L (Sep (RbS g v u l) B)) : Hold w0 w L (Sep (BlkF g [v, u] rbkT) (Sep (RowF 0 rvT 8 v l.length (revsV l)) (Sep (RowF 0 4 1 u l.length (prsV l)) B))) :=
  h.map fun F h => (Sep.assoc h).under fun F h => Sep.assoc h
theorem hold_rbback {xs ys : List Value} {n m : Nat} (h : Hold w0 w L (Sep (BlkF g [v, u] rbkT) (Sep (RowF 0 rvT 8 v n xs) (Sep (RowF 0 4 1 u m ys) B)))) (hn : n = l.length) (hm : m = l.length) (h2 : xs = revsV l) (h1 : ys = prsV l) : Hold w0 w L (Sep (RbS g v u l) B) := by
  subst hn hm h1 h2
  exact h.map fun F h => Sep.assoc' (h.under fun F h => Sep.assoc' h)
theorem hold_rbget (h : Hold w0 w L (Sep (RbP g l) B)) (hB : Foot B) (s : ByteArray) (hl : l.length ≤ 1000) (h1 : getK l s = r := by rfl) (h2 : hasK l s = bo := by rfl) :
    Calls Tryd.prog 39 #[pz g, .string s] w fun e w' => e = .returned (.tuple #[.agg r.cells.toArray, .bool bo]) ∧ Grow.G w w' ∧ Hold w0 w' L (Sep (RbP g l) B) := by
  obtain ⟨v, u, ok, HS⟩ := hold_rbopen h
  obtain ⟨F, hF⟩ := hold_rbS HS
  refine (rbget_any g v u l s w F hF hl).mono ?_
  rintro e w' ⟨rfl, hg⟩
  exact ⟨by rw [h1, h2], hg, h.grow ((RbP.foot g l).sep hB) hg⟩
theorem hold_rbproved (h : Hold w0 w L (Sep (RbP g l) B)) (hB : Foot B) (s : ByteArray) (hl : l.length ≤ 1000) (h1 : prvK l s = bo := by rfl) :
    Calls Tryd.prog 40 #[pz g, .string s] w fun e w' => e = .returned (.bool bo) ∧ Grow.G w w' ∧ Hold w0 w' L (Sep (RbP g l) B) := by
  obtain ⟨v, u, ok, HS⟩ := hold_rbopen h
  obtain ⟨F, hF⟩ := hold_rbS HS
  refine (rbproved_any g v u l s w F hF hl).mono ?_
  rintro e w' ⟨rfl, rfl⟩
  exact ⟨by rw [h1], Grow.G.refl _, h⟩
theorem hold_rball (h : Hold w0 w L (Sep (RbP g l) B)) (hB : Foot B) (hl : l.length ≤ 1000) (h1 : allK l = N := by rfl) :
    Calls Tryd.prog 38 #[pz g] w fun e w' => ∃ x, e = .returned x ∧ w'.ownsRow w.heap.size 9 1 x N.length (N.map Value.string) ∧ Grow.G w w' ∧ Hold w0 w' L (Sep (RbP g l) B) := by
  obtain ⟨v, u, ok, HS⟩ := hold_rbopen h
  obtain ⟨F, hF⟩ := hold_rbS HS
  refine (rball_any g v u l w F hF hl).mono ?_
  rintro e w' ⟨x, rfl, ho, hg⟩
  exact ⟨x, rfl, by rw [← h1]; exact ho, hg, h.grow ((RbP.foot g l).sep hB) hg⟩
set_option maxHeartbeats 4000000 in
theorem hold_rbprove (h : Hold w0 w L (Sep (RbP g l) B)) (hB : Foot B) (s : ByteArray) (hl : l.length ≤ 1000) (h1 : errK l s = er := by rfl) (h2 : setK l s = l' := by rfl) :
    Calls Tryd.prog 19 #[pz g, .string s] w fun e w' => e = .returned (.int .i64 er) ∧ Hold w0 w' L (Sep (RbP g l') B) := by
  obtain ⟨v, u, ok, HS⟩ := hold_rbopen h
  obtain ⟨F, hF⟩ := hold_rbS HS
  have AT := Lib.hid (rbat_any g v u l s w F hF hl)
  obtain ⟨-, a, c, rfl⟩ := hF.sl
  have c1 : w.cell? ⟨g, 1, none⟩ = some (.slice a l.length c) := (hF.hb.cell 1).trans rfl
  have hgl := hF.hb.lt
  rcases atK_cases l s with ⟨e1, e2, e3⟩ | ⟨k, r, e1, e2, e3, e4, e5⟩
  · have her : er = 6 := by rw [← h1]; unfold errK; rw [e2]; rfl
    have hl' : l' = l := by rw [← h2]; exact setK_no e2
    subst her hl'
    rw [e1] at AT
    have H := Lib.hid h
    clear h hF HS e1 e2 e3 h1 h2
    go_enter Tryd.func19, Tryd.ntmps19
    go_wp2_with fail
    refine AT.out.mono ?_
    rintro e w1 ⟨rfl, rfl⟩
    go_wp2_with fail
    go_ret
    exact ⟨rfl, H.out⟩
  · have her : er = 0 := by rw [← h1]; unfold errK; rw [e4]; rfl
    subst her
    rw [e1] at AT
    have hlt := (List.getElem?_eq_some_iff.1 e2).1
    obtain ⟨b, rfl, hcc, hbl, hc⟩ := (own_prs hF.is).resolve_left (fun e => by rw [e.2.2] at hlt; simp at hlt)
    obtain ⟨q1, q2⟩ := set_prs ok e2 e3
    have HQ := Lib.hid (And.intro q1 (And.intro q2 (And.intro h2 (setK_len l s))))
    have HF := Lib.hid (hold_rbflat HS).rot2
    have FZ := Lib.hid ((BlkF.foot g [v, .slice (some ⟨b, 0, none⟩) l.length c] rbkT).sep ((RowF.foot 0 rvT 8 v l.length (revsV l)).sep hB))
    have OK := Lib.hid (ok.set s)
    have d0 : decide ((k : Int) < 0) = false := decide_eq_false (by omega)
    have k1 : (0 : Int) ≤ (k : Int) := by omega
    have k2 : (k : Int) < (l.length : Int) := by omega
    have hpl : k < (prsV l).length := by unfold prsV; rw [List.length_map]; exact hlt
    clear h hF HS e1 e2 e3 e4 e5 h1 h2 q1 q2 hc ok
    go_enter Tryd.func19, Tryd.ntmps19
    go_wp2_with fail
    refine AT.out.mono ?_
    rintro e w1 ⟨rfl, rfl⟩
    go_wp2_with (refine Hold.setRow (t := 4) (q := k) FZ.out rfl rfl (by simp only [Act.eval]; go_simp) rfl rfl rfl (by kernel_rfl) HF.out hpl ?_; intro w9 H9)
    refine Stay.go ?_
    have H10 := Lib.hid (hold_rbclose (hold_rbback (l := setK l s) H9.tor2 HQ.out.2.2.2.symm HQ.out.2.2.2.symm HQ.out.2.1.symm HQ.out.1.symm) OK.out)
    rw [HQ.out.2.2.1] at H10
    clear H9 HF
    go_wp2_with fail
    go_ret
    exact ⟨rfl, H10.out⟩
end

theorem infoRv : (Tryd.prog.info? rvT).map (fun i => (i.zero, i.size, i.bytes)) = some (some (.agg #[.string ⟨#[]⟩, .int .i64 0, .string ⟨#[]⟩, .int .i64 0, .int .i64 0, .int .i64 0, .int .i64 0, .int .i64 0]), 8, 80) := by kernel_rfl
theorem infoBo : (Tryd.prog.info? 4).map (fun i => (i.zero, i.size, i.bytes)) = some (some (.bool false), 1, 1) := by kernel_rfl
theorem revs_app (l : List Rv) (r : Rv) : revsV (l ++ [r]) = revsV l ++ r.cells := by
  show (l ++ [r]).flatMap Rv.cells = _
  rw [List.flatMap_append]; rfl
theorem prs_app (l : List Rv) (r : Rv) : prsV (l ++ [r]) = prsV l ++ [.bool r.pr] := by unfold prsV; rw [List.map_append]; rfl
section
variable {w0 w : World} {L : List MBox} {A B : Hp} {g : Nat} {l l' : List Rv} {bo : Bool} {st : ByteArray}
set_option maxHeartbeats 8000000 in
theorem hold_rbstamp (h : Hold w0 w L (Sep (RbP g l) B)) (hB : Foot B) (c : Cfg) (n : Int) (hc : c.wf) (hz : c.nm.size ≤ 1000) (hr : revP c.nm n) (hl : l.length ≤ 900) (h1 : revS c.nm n = st := by rfl) (h2 : newK l c n = bo := by rfl) (h3 : putK l c n = l' := by rfl) :
    Calls Tryd.prog 16 #[pz g, c.v, .int .i64 n] w fun e w' => e = .returned (.tuple #[.string st, .bool bo]) ∧ Hold w0 w' L (Sep (RbP g l') B) := by
  obtain ⟨v, u, ok, HS⟩ := hold_rbopen h
  obtain ⟨nm, c1, c2, c3, c4, c5⟩ := c
  have CE : (Tryd.prog.info? 33).map (·.size) = some 6 := by kernel_rfl
  have RV := Lib.hid (fun w => rrev_any nm n w (by unfold maxLen; exact Nat.le_trans hz (by decide)))
  dsimp only at h1 hr
  rw [h1] at RV
  have H0 := Lib.hid HS
  have FB := Lib.hid hB
  have HP := Lib.hid (And.intro ok (And.intro h1 (And.intro h2 (And.intro h3 (And.intro hc hr)))))
  clear h HS ok h1 h2 h3 hc hr hz
  unfold Cfg.v
  dsimp only
  go_enter Tryd.func16, Tryd.ntmps16
  go_wp2_with fail
  have BX := Blk.new w #[.string nm, .int .i64 c1, .int .i64 c2, .int .i64 c3, .int .i64 c4, .int .i64 c5] 33
  have G1 := Grow.G.alloc (Grow.G.refl w) (.cells #[.string nm, .int .i64 c1, .int .i64 c2, .int .i64 c3, .int .i64 c4, .int .i64 c5] 33)
  refine (RV.out _).mono ?_
  rintro e w1 ⟨rfl, g1⟩
  have BX1 := Lib.hid (BX.grow g1)
  have H1 := Lib.hid (H0.out.grow ((RbS.foot g v u l).sep FB.out) (G1.trans (g1.mono (by rw [World.size_alloc]; omega))))
  obtain ⟨bx, hbx⟩ : ∃ bx, bx = w.heap.size := ⟨_, rfl⟩
  rw [← hbx] at BX1 ⊢
  clear BX G1 g1 RV H0 hbx
  obtain ⟨F, hF⟩ := hold_rbS H1.out
  have AT := Lib.hid (rbat_any g v u l st w1 F hF (by omega))
  go_wp2_with fail
  rcases atK_cases l st with ⟨e1, e2, e3⟩ | ⟨k, r, e1, e2, e3, e4, e5⟩
  rotate_left
  · rw [e1] at AT
    have R1 : Hid (bo = false ∧ l' = l) := Lib.hid (by
      obtain ⟨ok, h1, h2, h3, _⟩ := HP.out
      refine ⟨?_, ?_⟩
      · rw [← h2]; unfold newK; dsimp only; rw [h1, e4]; rfl
      · rw [← h3]; exact putK_has (by dsimp only; rw [h1]; exact e4))
    have d0 : decide ((0 : Int) ≤ (k : Int)) = true := decide_eq_true (by omega)
    clear hF e1 e2 e3 e4 e5
    refine AT.out.mono ?_
    rintro e w2 ⟨rfl, rfl⟩
    go_wp2_with fail
    go_returns
    rw [R1.out.1, R1.out.2]
    exact ⟨rfl, hold_rbclose H1.out HP.out.1⟩
  · rw [e1] at AT
    have R1 : Hid (bo = true ∧ l' = l ++ [⟨st, n, ⟨nm, c1, c2, c3, c4, c5⟩, false⟩] ∧ BkOk l') := Lib.hid (by
      obtain ⟨ok, h1, h2, h3, h4, h5⟩ := HP.out
      refine ⟨?_, ?_, ?_⟩
      · rw [← h2]; unfold newK; dsimp only; rw [h1, e2]; rfl
      · rw [← h3, putK_new (by dsimp only; rw [h1]; exact e2)]; unfold newR; dsimp only; rw [h1]
      · rw [← h3]; exact ok.put h4 h5)
    have HF := Lib.hid (hold_rbflat H1.out)
    have BG := Lib.hid hF.hb
    have OW := Lib.hid hF.row
    have NG : ¬ v.ownBlock = some g := own_blk_types OW.out BG.out (by decide)
    have NX : ¬ v.ownBlock = some bx := own_blk_types OW.out BX1.out (by decide)
    have hgl := hF.hb.lt
    obtain ⟨i0, hi, ha0, ha1, ha2⟩ := info_parts infoRv
    have HI := Lib.hid hi; have HZ0 := Lib.hid ha0; have HZ1 := Lib.hid ha1; have HZ2 := Lib.hid ha2
    have KC := Lib.hid (fun (w' : World) (h : Chg (fun k => k < w1.heap.size ∧ v.ownBlock = some k) w1 w') => (⟨h.cell (Blk.at (cs := [v, u]) (k := 0) BG.out rfl) (fun q => NG q.2), trivial⟩ : w'.cell? ⟨g, 0, none⟩ = some v ∧ True))
    clear hF e1 e2 e3 hi ha0 ha1 ha2 H1
    refine AT.out.mono ?_
    rintro e w2 ⟨rfl, rfl⟩
    go_wp2_with fail
    clear AT
    refine wp_spec (fun a0 A W => ∃ x18 x19 x20 x21 x22 x23 x24 x25 x26 x27 x29 x30 : Value, ∃ (vv : Value), A = (((((((((((((a0.put (some 18) x18).put (some 19) x19).put (some 20) x20).put (some 21) x21).put (some 22) x22).put (some 23) x23).put (some 24) x24).put (some 25) x25).put (some 26) x26).put (some 27) x27).put (some 28) (vv)).put (some 29) x29).put (some 30) x30) ∧ Hid (Blk W g #[vv, u] rbkT ∧ W.ownsRow 0 rvT 8 vv (l.length + 1) (revsV l ++ [.string st, .int .i64 n, .string nm, .int .i64 c1, .int .i64 c2, .int .i64 c3, .int .i64 c4, .int .i64 c5]) ∧ Chg (fun k => k = g ∨ v.ownBlock = some k) w1 W ∧ (∀ b, vv.ownBlock = some b → v.ownBlock = some b ∨ w1.heap.size ≤ b))) ?_ ?_
    all_goals simp only [Act.put, L0, L1, L2]
    ·
      refine Evo2.start' (ℓ := some 13) (S := Chg (fun k => k < w1.heap.size ∧ v.ownBlock = some k)) (E := Grow.G) (by kernel_rfl) ⟨Chg.pre _, by decide +kernel, (by intro c a d v w h; cases d <;> exact h), by decide +kernel⟩ (fun ok => ?_)
      refine Evo2.va ok 0 _ _ ?_
      refine Evo2.va ok 1 _ _ ?_
      refine Evo2.va ok 2 _ _ ?_
      refine Evo2.va ok 3 _ _ ?_
      first | (refine Evo2.vl ok 4 KC.out (Chg.refl (fun k => k < w1.heap.size ∧ v.ownBlock = some k) _) _ _ ?_) | (refine Evo2.va ok 4 _ _ ?_)
      refine Evo2.va ok 5 _ _ ?_
      refine Evo2.va ok 6 _ _ ?_
      first | (refine Evo2.val ok 7 ?_ ?_ ?_; rotate_left; (focus (intro w' hg; refine Box.exec_loadAll ?_ Tryd.underlying33 CE (BX1.out.chg (Chg.trans (Chg.refl (fun k => k < w1.heap.size ∧ v.ownBlock = some k) _) hg) (fun q => NX q.2)) ?_; (all_goals (first | exact ⟨rfl, rfl⟩ | rfl)))); simp only [Act.put, L0, L1, L2]) | (refine Evo2.vl ok 7 KC.out (Chg.refl (fun k => k < w1.heap.size ∧ v.ownBlock = some k) _) _ _ ?_) | (refine Evo2.va ok 7 _ _ ?_)
      refine Evo2.va ok 8 _ _ ?_
      refine Evo2.all [9] (by decide +kernel) rfl ?_
      intro wp1 gp1 iq hq
      simp only [List.mem_cons, List.mem_nil_iff, or_false] at hq
      have AP1 := Chg.trans (Chg.refl (fun k => k < w1.heap.size ∧ v.ownBlock = some k) _) (Chg.grow gp1)
      subst hq
      refine Evo2.runs (by rfl) (by rfl) (fun K' hK' => ?_)
      (try obtain ⟨q1⟩ := KC.out wp1 AP1)
      go_simp
      (try (simp only [Evo.after_value, Evo.after_skip]))
      refine hK'.out _ _ ?_
      clear hK'
      simp only [Act.put, L0, L1, L2]
      (try clear q1)
      refine ⟨.inr (Chg.alloc (Chg.refl _ _) _), ?_⟩
      generalize hG1 : World.alloc wp1 _ = wg1
      have GG1 : Grow.G wp1 wg1 := hG1 ▸ Grow.G.alloc (Grow.G.refl _) _
      have NC1 := (congrArg (fun W : World => W.heap[wp1.heap.size]?) hG1).symm.trans (MapKept.heap_alloc wp1 _).1
      have NL1 : wp1.heap.size < wg1.heap.size := by rw [← hG1]; simp
      clear hG1
      refine Evo2.all [10] (by decide +kernel) rfl ?_
      intro wp2 gp2 iq hq
      simp only [List.mem_cons, List.mem_nil_iff, or_false] at hq
      have AP2 := Chg.trans (Chg.trans AP1 (Chg.grow GG1)) (Chg.grow gp2)
      have NC1 := (gp2.block _ NL1).trans NC1
      have NL1 := Nat.lt_of_lt_of_le NL1 gp2.size
      subst hq
      refine Fr.own_fr (by rfl) (by rfl) (Operand.tmp 22) (Operand.tmp 27) 27 (by rfl) 0 rvT i0 (.agg #[.string ⟨#[]⟩, .int .i64 0, .string ⟨#[]⟩, .int .i64 0, .int .i64 0, .int .i64 0, .int .i64 0, .int .i64 0]) 8 80 Tryd.underlying27 HI.out HZ0.out HZ1.out HZ2.out rfl (by decide) _ _ _ (by rfl) (own_later OW.out ?_) _ 1 1 [.string st, .int .i64 n, .string nm, .int .i64 c1, .int .i64 c2, .int .i64 c3, .int .i64 c4, .int .i64 c5] (by rfl) rfl (news_at NC1) ?_ ?_ ?_ ?_ ?_ 
      · exact (gp1.trans GG1).trans gp2 
      · intro u hu; simp at hu; rcases hu with rfl | rfl | rfl | rfl | rfl | rfl | rfl | rfl <;> rfl 
      · unfold maxLen; omega 
      · omega 
      · omega
      intro vw2 wc2 OW2 fr2
      obtain ⟨g9, c9, rfl, hg9⟩ := own_some OW2 (by omega); have CH2 : Chg (fun k => k < w1.heap.size ∧ v.ownBlock = some k) _ _ := (Chg.ofFr fr2).mono (fun k _ q => ⟨(OW.out.lt k q).2, q⟩)
      refine ⟨.inr CH2, ?_⟩
      have AC2 := Chg.trans AP2 CH2
      simp only [Act.put, L0, L1, L2]
      refine Evo2.va ok 11 _ _ ?_
      refine Evo2.va ok 12 _ _ ?_
      refine Evo2.all [13] (by decide +kernel) rfl ?_
      intro wp3 gp3 iq hq
      simp only [List.mem_cons, List.mem_nil_iff, or_false] at hq
      have AP3 := Chg.trans AC2 (Chg.grow gp3)
      subst hq
      refine Evo2.runs (by rfl) (by rfl) (fun K' hK' => ?_)
      (try obtain ⟨q1⟩ := KC.out wp3 AP3)
      have BQ := BG.out.chg AP3 (fun q => NG q.2); have gl := BQ.lt; have e0 := Blk.at (cs := [v, u]) (k := 0) BQ rfl; have f0 := BQ.free 0; clear BQ
      go_simp
      (try (simp only [Evo.after_value, Evo.after_skip]))
      refine hK'.out _ _ ?_
      clear hK'
      simp only [Act.put, L0, L1, L2]
      (try clear gl e0 f0)
      (try clear q1)
      refine ⟨.inl (by first | rfl | trivial), ?_⟩
      refine Evo2.done (by decide +kernel) (fun wz gz => ?_)
      have V4 := BG.out.chg AP3 (fun q => NG q.2)
      have CS : Chg (fun k => k = g) wp3 (wp3.setCell ⟨g, 0, none⟩ (.slice (some ⟨g9, 0, none⟩) (l.length + 1) c9)) := Chg.setCell (G := fun k => k = g) (Chg.refl _ _) (fun _ => rfl) _ _
      have VZ := (V4.set 0 (.slice (some ⟨g9, 0, none⟩) (l.length + 1) c9)).grow gz
      have RW := own_later OW2 gp3
      have N9 := own_blk_types RW V4 (by decide)
      have RZ := own_later (CS.own RW (fun k hk q => N9 (by rw [hk, show k = g from q]))) gz
      have D : Chg (fun k => k = g ∨ v.ownBlock = some k) w1 wz := ((AP3.mono (fun k _ q => .inr q.2)).trans (CS.mono (fun k _ q => .inl q))).trans (Chg.grow gz)
      have FZ : ∀ b, (Value.slice (some ⟨g9, 0, none⟩) (l.length + 1) c9).ownBlock = some b → v.ownBlock = some b ∨ w1.heap.size ≤ b := fun b hb => fr2.o.elim (fun q => .inl (q ▸ hb)) (fun ⟨b', q, hb'⟩ => .inr (by have e2 : b' = b := Option.some.inj (q.symm.trans hb); have := AP2.size; omega))
      dsimp only [PostN]
      (repeat apply Exists.intro)
      exact ⟨rfl, Lib.hid ⟨VZ, RZ, D, FZ⟩⟩
    ·
      rintro A W4 ⟨x18, x19, x20, x21, x22, x23, x24, x25, x26, x27, x29, x30, vv, rfl, H4⟩
      obtain ⟨B4, O4, C4, F4⟩ := H4.out
      have NE := own_blk_types O4 B4 (by decide)
      have FI := Lib.hid (RowF.foot 0 4 1 u l.length (prsV l))
      have FR := Lib.hid (RowF.foot 0 rvT 8 vv (l.length + 1) (revsV l ++ [.string st, .int .i64 n, .string nm, .int .i64 c1, .int .i64 c2, .int .i64 c3, .int .i64 c4, .int .i64 c5]))
      have FK := Lib.hid (BlkF.foot g [vv, u] rbkT)
      have HA0 := (HF.out.blkRow (FI.out.sep FB.out) (cs' := [vv, u]) B4 O4 C4 F4 NE).map fun F h => h.under fun F h => h.rot
      have HA := Lib.hid (HA0.grow (FK.out.sep (FI.out.sep (FR.out.sep FB.out))) (Grow.G.alloc (Grow.G.refl W4) (.cells #[.bool false] 4)))
      have SR := Lib.hid (blk_src1 (Blk.new W4 #[.bool false] 4))
      have c1' := Blk.at (cs := [vv, u]) (k := 1) B4 rfl
      have hgl4 := B4.lt
      obtain ⟨j0, hj, hb0, hb1, hb2⟩ := info_parts infoBo
      have HJ := Lib.hid (And.intro hj (And.intro hb0 (And.intro hb1 hb2)))
      clear HA0 B4 O4 C4 F4 NE H4 HF BG OW NG NX KC HI HZ0 HZ1 HZ2 hj hb0 hb1 hb2 BX1
      go_wp2_with (refine Hold.appRow rfl (.tmp 35) (.tmp 36) 28 rfl 4 j0 (.bool false) 1 Tryd.underlying28 HJ.out.1 HJ.out.2.1 HJ.out.2.2.1 HJ.out.2.2.2 rfl HA.out FK.out (FR.out.sep FB.out) rfl rfl SR.out rfl (by omega) (by decide) ?_; intro a5 d5 w5 H5)
      refine Stay.go ?_
      have H6 := Lib.hid H5
      have FI2 := Lib.hid (RowF.foot 0 4 1 (.slice a5 (l.length + 1) d5) (l.length + 1) (prsV l ++ [.bool false]))
      clear H5 HA SR
      go_wp2_with (refine Hold.setB (off := 1) (vs := [.slice a5 (l.length + 1) d5]) (FI2.out.sep (FR.out.sep FB.out)) rfl rfl rfl rfl rfl (n := 1) (by kernel_rfl) H6.out rfl (by simp) rfl ?_; intro w6 H7)
      refine Stay.go ?_
      have H8 : Hold w0 w6 L (Sep (BlkF g [vv, .slice a5 (l.length + 1) d5] rbkT) (Sep (RowF 0 rvT 8 vv (l.length + 1) (revsV l ++ [.string st, .int .i64 n, .string nm, .int .i64 c1, .int .i64 c2, .int .i64 c3, .int .i64 c4, .int .i64 c5])) (Sep (RowF 0 4 1 (.slice a5 (l.length + 1) d5) (l.length + 1) (prsV l ++ [.bool false])) B))) := H7.map fun F h => h.under fun F h => h.rot
      have H9 := Lib.hid (hold_rbclose (hold_rbback (l := l ++ [⟨st, n, ⟨nm, c1, c2, c3, c4, c5⟩, false⟩]) H8 (by rw [List.length_append]; rfl) (by rw [List.length_append]; rfl) (by rw [revs_app]; rfl) (by rw [prs_app])) (R1.out.2.1 ▸ R1.out.2.2))
      clear H7 H8 H6
      go_wp2_with fail
      go_returns
      rw [R1.out.1, R1.out.2.1]
      exact ⟨rfl, H9.out⟩
end
end Go.Proofs.YtjcdmnogmpjkkaaDoor

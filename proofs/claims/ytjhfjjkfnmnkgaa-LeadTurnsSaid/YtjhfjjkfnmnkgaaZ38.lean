/- My own texts TabP, Tab1, Tab2, laid in one file. -/
import Derived.Test.YtjhfjjkfnmnkgaaZ36
import Derived.Test.YtjhfjjkfnmnkgaaZ1
import Derived.Test.YtjhfjjkfnmnkgaaZ2
import Derived.Sort.Walk0

/- Tables, plainly: Shares, tags; rows of them in memory. -/
namespace Go.Proofs.Ytjhfjjkfnmnkgaa
set_option maxRecDepth 100000
set_option linter.unusedVariables false
set_option linter.unusedSimpArgs false
set_option linter.unnecessarySimpa false
open Go.RowKit Go.Args

structure Shr where
  rev : ByteArray
  w : Int
structure Tgo where
  tag : ByteArray
  rev : ByteArray
def shr0 : Shr := ⟨⟨#[]⟩, 0⟩
def tgo0 : Tgo := ⟨⟨#[]⟩, ⟨#[]⟩⟩
def Shr.cells (s : Shr) : List Value := [.string s.rev, .int .i64 s.w]
def Tgo.cells (t : Tgo) : List Value := [.string t.tag, .string t.rev]
def Shr.ok (s : Shr) : Prop := wf64 s.w ∧ s.rev.size ≤ 140737488351232
def Tgo.ok (t : Tgo) : Prop := t.tag.size ≤ 140737488351232 ∧ t.rev.size ≤ 140737488351232
/-- Less, by bytes. -/
def ltS (a b : ByteArray) : Bool := Op.bytesLess a.toList b.toList
def revTB (s : ByteArray) : Bool := (parse s).isSome
def shOk (s : Shr) : Bool := revTB s.rev && decide (1 ≤ s.w) && decide (s.w ≤ 100)
def tagOk (t : Tgo) : Bool := nameB 8 t.tag && revTB t.rev
/-- Rising from a on, each as it may be. -/
def ascF : ByteArray → List Shr → Bool
  | _, [] => true
  | a, s :: r => shOk s && ltS a s.rev && ascF s.rev r
def ascT : ByteArray → List Tgo → Bool
  | _, [] => true
  | a, t :: r => tagOk t && ltS a t.tag && ascT t.tag r
def sumW : List Shr → Int
  | [] => 0
  | s :: r => s.w + sumW r
def soundB (l : List Shr) : Bool := ascF ⟨#[]⟩ l && decide (sumW l = 100)
def rightB (l : List Shr) (m : List Tgo) : Bool := soundB l && ascT ⟨#[]⟩ m
theorem ltS_eq (a b : ByteArray) : ltS a b = decide (a.data.toList < b.data.toList) := by
  unfold ltS
  rw [Go.Proofs.bytesLess_eq, ByteArray.toList_eq, ByteArray.toList_eq]
theorem ltS_irr (a : ByteArray) : ltS a a = false := by
  rw [ltS_eq]; exact decide_eq_false (List.lt_irrefl _)
theorem ltS_tr {a b c : ByteArray} (h : ltS a b = true) (k : ltS b c = true) : ltS a c = true := by
  rw [ltS_eq] at *
  exact decide_eq_true (List.lt_trans (of_decide_eq_true h) (of_decide_eq_true k))
/-- No less or the same is greater. -/
theorem le_not (a b : ByteArray) : (Op.bytesLess a.toList b.toList || a.toList == b.toList) = !ltS b a := by
  have h1 : Op.bytesLess a.toList b.toList = ltS a b := rfl
  rw [h1, ltS_eq, ltS_eq, ByteArray.toList_eq, ByteArray.toList_eq]
  have tri : a.data.toList < b.data.toList ∨ a.data.toList = b.data.toList ∨ b.data.toList < a.data.toList := by
    by_cases h1 : a.data.toList < b.data.toList
    · exact .inl h1
    · by_cases h2 : b.data.toList < a.data.toList
      · exact .inr (.inr h2)
      · exact .inr (.inl (List.le_antisymm h2 h1))
  rcases tri with h | h | h
  · have : ¬ b.data.toList < a.data.toList := fun q => List.lt_irrefl _ (List.lt_trans h q)
    simp [h, this]
  · rw [h]; simp [List.lt_irrefl]
  · have : ¬ a.data.toList < b.data.toList := fun q => List.lt_irrefl _ (List.lt_trans h q)
    have h2 : ¬ a.data.toList = b.data.toList := fun q => by rw [q] at h; exact List.lt_irrefl _ h
    simp [h, this, h2]
    exact fun e => h2 (by rw [e])
theorem revB_yes {s c : ByteArray} {n : Int} (h : IsRev s c n) : revTB s = true := by
  unfold revTB
  cases e : parse s with
  | none => exact (parse_no e c n h).elim
  | some x => rfl
theorem revB_no {s : ByteArray} (h : ∀ c n, ¬ IsRev s c n) : revTB s = false := by
  unfold revTB
  cases e : parse s with
  | none => rfl
  | some x => exact (h _ _ (parse_yes (c := x.1) (n := x.2) e)).elim
theorem revB_pos {s : ByteArray} (h : revTB s = true) : 1 ≤ s.size := by
  unfold revTB at h
  cases e : parse s with
  | none => rw [e] at h; cases h
  | some x => have := (parse_yes (c := x.1) (n := x.2) e).size; omega
theorem ltS_nil {s : ByteArray} (h : 1 ≤ s.size) : ltS ⟨#[]⟩ s = true := by
  rw [ltS_eq]
  refine decide_eq_true ?_
  show [] < s.data.toList
  have : s.data.toList.length = s.size := rfl
  cases e : s.data.toList with
  | nil => rw [e] at this; simp at this; omega
  | cons c l => exact List.nil_lt_cons c l
theorem ascF_step (a : ByteArray) (l : List Shr) (k : Nat) (s : Shr) (h : l[k]? = some s) : ascF a (l.drop k) = (shOk s && ltS a s.rev && ascF s.rev (l.drop (k + 1))) := by
  obtain ⟨hl, e⟩ := List.getElem?_eq_some_iff.1 h
  rw [List.drop_eq_getElem_cons hl, e, ascF]
theorem ascT_step (a : ByteArray) (l : List Tgo) (k : Nat) (s : Tgo) (h : l[k]? = some s) : ascT a (l.drop k) = (tagOk s && ltS a s.tag && ascT s.tag (l.drop (k + 1))) := by
  obtain ⟨hl, e⟩ := List.getElem?_eq_some_iff.1 h
  rw [List.drop_eq_getElem_cons hl, e, ascT]
theorem sumW_step (l : List Shr) (k : Nat) (s : Shr) (h : l[k]? = some s) : sumW (l.drop k) = s.w + sumW (l.drop (k + 1)) := by
  obtain ⟨hl, e⟩ := List.getElem?_eq_some_iff.1 h
  rw [List.drop_eq_getElem_cons hl, e, sumW]
theorem cell_in {w : World} {b o : Nat} {v : Value} (h : w.cell? ⟨b, o, none⟩ = some v) : b < w.heap.size := by
  rcases Nat.lt_or_ge b w.heap.size with h' | h'
  · exact h'
  · unfold World.cell? at h
    rw [Array.getElem?_eq_none (by simpa using h')] at h
    simp at h
/-- What is known of a row of Shares, of tags, in memory. -/
abbrev ShSl (w : World) (a : Option Addr) (l : List Shr) : Prop := SlOf w Shr.cells 2 a l
abbrev TgSl (w : World) (a : Option Addr) (l : List Tgo) : Prop := SlOf w Tgo.cells 2 a l
theorem ShSl.at {w : World} {a : Option Addr} {l : List Shr} (h : ShSl w a l) {k : Nat} {s : Shr} (hk : l[k]? = some s) : ∃ b off, a = some ⟨b, off, none⟩ ∧ ∀ w', Grow.G w w' → w'.cell? ⟨b, off + k * 2, none⟩ = some (.string s.rev) ∧ w'.cell? ⟨b, off + k * 2 + 1, none⟩ = some (.int .i64 s.w) := by
  obtain ⟨b, off, ha, hc⟩ := h.spot (List.getElem?_eq_some_iff.1 hk).1
  exact ⟨b, off, ha, fun w' g => ⟨cell_later g (hc k s hk 0 _ rfl), cell_later g (hc k s hk 1 _ rfl)⟩⟩
theorem TgSl.at {w : World} {a : Option Addr} {l : List Tgo} (h : TgSl w a l) {k : Nat} {s : Tgo} (hk : l[k]? = some s) : ∃ b off, a = some ⟨b, off, none⟩ ∧ ∀ w', Grow.G w w' → w'.cell? ⟨b, off + k * 2, none⟩ = some (.string s.tag) ∧ w'.cell? ⟨b, off + k * 2 + 1, none⟩ = some (.string s.rev) := by
  obtain ⟨b, off, ha, hc⟩ := h.spot (List.getElem?_eq_some_iff.1 hk).1
  exact ⟨b, off, ha, fun w' g => ⟨cell_later g (hc k s hk 0 _ rfl), cell_later g (hc k s hk 1 _ rfl)⟩⟩
/-- Rows of a call's own as such. -/
theorem SlOf.own {α : Type} {cells : α → List Value} {n : Nat} {w : World} {base e c : Nat} {a : Option Addr} {l : List α} (hcl : ∀ x, (cells x).length = n) (h : w.ownsRow base e n (.slice a l.length c) l.length (l.flatMap cells)) : SlOf w cells n a l := by
  rcases h.2 with ⟨_, h0⟩ | ⟨b, cap, cur, hv, hb, hh, rest⟩
  · exact .inl (List.eq_nil_of_length_eq_zero h0)
  · cases hv
    refine .inr ⟨b, 0, rfl, fun i x hi j v hj => ?_⟩
    have hc := h.cells (g := b) rfl (i * n + j) v ?_
    · rw [Args.addr_add0, Nat.zero_add] at hc
      rw [Nat.zero_add]; exact hc
    · clear hh rest hb h
      induction l generalizing i with
      | nil => simp at hi
      | cons y l ih =>
        rw [List.flatMap_cons]
        cases i with
        | zero =>
          simp only [List.getElem?_cons_zero, Option.some.injEq] at hi
          subst hi
          rw [Nat.zero_mul, Nat.zero_add, List.getElem?_append_left (List.getElem?_eq_some_iff.1 hj).1]
          exact hj
        | succ i =>
          rw [List.getElem?_cons_succ] at hi
          rw [List.getElem?_append_right (by rw [hcl, Nat.succ_mul]; omega), hcl, show (i + 1) * n + j - n = i * n + j by rw [Nat.succ_mul]; omega]
          exact ih i hi
theorem SlOf.book {α : Type} {cells : α → List Value} {n m : Nat} {w w' : World} {a : Option Addr} {l : List α} (h : SlOf w cells n a l) (k : Iter.Book m w w') : SlOf w' cells n a l :=
  h.imp id fun ⟨b, off, ha, hc⟩ => ⟨b, off, ha, fun i x hi j v hj => k.cell (hc i x hi j v hj)⟩

theorem revision_any (s : ByteArray) (w : World) (hs : s.size ≤ 281474976710655) :
    Calls Try.prog 52 #[.string s] w fun e w' => e = .returned (.bool (revTB s)) ∧ Below w.heap.size w w' := by
  go_enter Try.func52, Try.ntmps52
  go_wp2_with fail
  refine (split_any s _ hs).mono ?_
  rintro e w1 ⟨(⟨c, n, hr, rfl⟩ | ⟨hr, rfl⟩), hb⟩
  · have E := Lib.hid (revB_yes hr)
    clear hr
    go_wp2_with fail
    go_ret
    exact ⟨ret_bool E.out.symm, hb⟩
  · have E := Lib.hid (revB_no hr)
    clear hr
    go_wp2_with fail
    go_ret
    exact ⟨ret_bool E.out.symm, hb⟩
set_option maxHeartbeats 2000000 in
theorem sound_any (a : Option Addr) (l : List Shr) (c : Nat) (w : World) (hl : l.length ≤ 1000000) (h : ShSl w a l) (hok : ∀ s, s ∈ l → s.ok) :
    Calls Try.prog 38 #[.slice a l.length c] w fun e w' => e = .returned (.bool (soundB l)) ∧ Grow.G w w' := by
  have HS := Lib.hid h
  have HO := Lib.hid hok
  clear h hok
  go_enter Try.func38, Try.ntmps38
  go_wp2_with fail
  go_loopw [3, 4, 9] (fun al ah i wr => ∃ (k : Nat) (z : Int) (r : ByteArray), k ≤ l.length ∧ al = .int .i64 z ∧ 0 ≤ z ∧ z ≤ 100 * k ∧ ah = .string r ∧ i = .int .i64 k ∧ Hid (soundB l = (ascF r (l.drop k) && decide (z + sumW (l.drop k) = 100))) ∧ Hid (Grow.G w wr)) (fun _ _ i _ => l.length - (intOf i).toNat)
  case atStart => exact ⟨0, 0, ⟨#[]⟩, by omega, rfl, by omega, by omega, rfl, rfl, Lib.hid (by rw [Int.zero_add]; rfl), Lib.hid (Grow.G.refl _)⟩
  case round =>
    obtain ⟨k, z, r, hk, rfl, hz0, hz1, rfl, rfl, SB, G⟩ := hrel
    by_cases hlt : k < l.length
    · obtain ⟨s, hs⟩ : ∃ s, l[k]? = some s := ⟨_, List.getElem?_eq_getElem hlt⟩
      obtain ⟨b, off, rfl, hc⟩ := HS.out.at hs
      obtain ⟨c0, c1⟩ := hc _ G.out
      have hso := HO.out s (List.mem_of_getElem? hs)
      have A1 := Lib.hid (ascF_step r l k s hs)
      have A2 := Lib.hid (sumW_step l k s hs)
      obtain ⟨rv, n⟩ := s
      have RV := Lib.hid (fun w => revision_any rv w (by have := hso.2; dsimp only at this; omega))
      have hw := hso.1
      have LE := le_not rv r
      unfold wf64 at hw
      dsimp only at *
      clear hs hc hso
      have d0 : decide ((k : Int) < (l.length : Int)) = true := decide_eq_true (by omega)
      have hk1 : IntKind.i64.wrap ((k : Int) + 1) = (k : Int) + 1 := IntWalk.i64_in _ ⟨by omega, by omega⟩
      go_wp2_with fail
      refine (RV.out _).mono ?_
      rintro e w1 ⟨rfl, hb⟩
      have G1 : Grow.G wr w1 := Grow.G.trans (Grow.G.alloc (Grow.G.refl _) _) hb
      have c2 := cell_later hb (cell_new (w := wr) (cs := #[Value.string rv, Value.int .i64 n]) (t := 53) (b := wr.heap.size) (k := 0) rfl rfl)
      have c3 := cell_later hb (cell_new (w := wr) (cs := #[Value.string rv, Value.int .i64 n]) (t := 53) (b := wr.heap.size) (k := 1) rfl rfl)
      have G2 := Lib.hid (G.out.trans G1)
      clear hb G1 c0 c1
      have fin : ∀ q, q = false → soundB l = q → Hid (soundB l = false) := fun q h k => Lib.hid (k.trans h)
      by_cases t0 : revTB rv = true
      · rw [t0]
        by_cases t1 : ltS r rv = true
        · rw [t1] at LE
          by_cases t2 : n < 1
          · have E : Hid (soundB l = false) := Lib.hid (by rw [SB.out, A1.out, shOk, decide_eq_false (show ¬ 1 ≤ n by omega)]; simp)
            have d2 : decide (n < 1) = true := decide_eq_true t2
            clear t0 t1 t2
            go_wp2_with fail
            go_ret
            exact ⟨ret_bool E.out.symm, G2.out⟩
          · by_cases t3 : 100 < n
            · have E : Hid (soundB l = false) := Lib.hid (by rw [SB.out, A1.out, shOk, decide_eq_false (show ¬ n ≤ 100 by omega)]; simp)
              have d2 : decide (n < 1) = false := decide_eq_false t2
              have d3 : decide (n > 100) = true := decide_eq_true t3
              clear t0 t1 t2 t3
              go_wp2_with fail
              go_ret
              exact ⟨ret_bool E.out.symm, G2.out⟩
            · have E : Hid (soundB l = (ascF rv (l.drop (k + 1)) && decide (z + n + sumW (l.drop (k + 1)) = 100))) := Lib.hid (by rw [SB.out, A1.out, A2.out, shOk, t0, t1, decide_eq_true (show 1 ≤ n by omega), decide_eq_true (show n ≤ 100 by omega), Int.add_assoc]; simp)
              have d2 : decide (n < 1) = false := decide_eq_false t2
              have d3 : decide (n > 100) = false := decide_eq_false t3
              have hz : IntKind.i64.wrap (z + n) = z + n := IntWalk.i64_in _ ⟨by omega, by omega⟩
              have hb1 : 1 ≤ n ∧ n ≤ 100 := by omega
              clear t0 t1 t2 t3
              go_wp2_with fail
              go_roundw
              case rel => exact ⟨k + 1, z + n, rv, by omega, rfl, by omega, by omega, rfl, by go_num, E, G2⟩
              case measure => simp [intOf]; omega
        · have t1 : ltS r rv = false := by simpa using t1
          rw [t1] at LE
          have E : Hid (soundB l = false) := Lib.hid (by rw [SB.out, A1.out, t1]; simp)
          clear t0 t1
          go_wp2_with fail
          go_ret
          exact ⟨ret_bool E.out.symm, G2.out⟩
      · have t0 : revTB rv = false := by simpa using t0
        have E : Hid (soundB l = false) := Lib.hid (by rw [SB.out, A1.out, shOk, t0]; simp)
        rw [t0]
        clear t0
        go_wp2_with fail
        go_ret
        exact ⟨ret_bool E.out.symm, G2.out⟩
    · have E : Hid (soundB l = decide (z = 100)) := Lib.hid (by rw [SB.out, List.drop_eq_nil_of_le (by omega)]; simp [ascF, sumW])
      have d0 : decide ((k : Int) < (l.length : Int)) = false := decide_eq_false (by omega)
      go_wp2_with fail
      go_ret
      exact ⟨ret_bool (by rw [E.out]; rfl), G.out⟩
set_option maxHeartbeats 2000000 in
theorem tagged_any (a : Option Addr) (l : List Tgo) (c : Nat) (w : World) (hl : l.length ≤ 1000000) (h : TgSl w a l) (hok : ∀ s, s ∈ l → s.ok) :
    Calls Try.prog 39 #[.slice a l.length c] w fun e w' => e = .returned (.bool (ascT ⟨#[]⟩ l)) ∧ Grow.G w w' := by
  have HS := Lib.hid h
  have HO := Lib.hid hok
  clear h hok
  obtain ⟨R, hR⟩ : ∃ R, ascT ⟨#[]⟩ l = R := ⟨_, rfl⟩
  rw [hR]
  have HR := Lib.hid hR
  clear hR
  go_enter Try.func39, Try.ntmps39
  go_wp2_with fail
  go_loopw [3, 8] (fun ah i wr => ∃ (k : Nat) (r : ByteArray), k ≤ l.length ∧ ah = .string r ∧ i = .int .i64 k ∧ Hid (R = ascT r (l.drop k)) ∧ Hid (Grow.G w wr)) (fun _ i _ => l.length - (intOf i).toNat)
  case atStart => exact ⟨0, ⟨#[]⟩, by omega, rfl, rfl, Lib.hid (by rw [← HR.out]; rfl), Lib.hid (Grow.G.refl _)⟩
  case round =>
    obtain ⟨k, r, hk, rfl, rfl, SB, G⟩ := hrel
    by_cases hlt : k < l.length
    · obtain ⟨s, hs⟩ : ∃ s, l[k]? = some s := ⟨_, List.getElem?_eq_getElem hlt⟩
      obtain ⟨b, off, rfl, hc⟩ := HS.out.at hs
      obtain ⟨c0, c1⟩ := hc _ G.out
      have hso := HO.out s (List.mem_of_getElem? hs)
      have A1 := Lib.hid (ascT_step r l k s hs)
      obtain ⟨tg, rv⟩ := s
      unfold Tgo.ok at hso
      dsimp only at *
      have RV := Lib.hid (fun w => revision_any rv w (by omega))
      have TG := Lib.hid (fun w => tag_any tg w (by unfold maxLen; omega))
      have LE := le_not tg r
      clear hs hc hso
      have d0 : decide ((k : Int) < (l.length : Int)) = true := decide_eq_true (by omega)
      have hk1 : IntKind.i64.wrap ((k : Int) + 1) = (k : Int) + 1 := IntWalk.i64_in _ ⟨by omega, by omega⟩
      go_wp2_with fail
      refine (TG.out _).mono ?_
      rintro e w1 ⟨rfl, hb⟩
      have G1 : Grow.G wr w1 := Grow.G.trans (Grow.G.alloc (Grow.G.refl _) _) hb
      have c2 := cell_later hb (cell_new (w := wr) (cs := #[Value.string tg, Value.string rv]) (t := 55) (b := wr.heap.size) (k := 0) rfl rfl)
      have c3 := cell_later hb (cell_new (w := wr) (cs := #[Value.string tg, Value.string rv]) (t := 55) (b := wr.heap.size) (k := 1) rfl rfl)
      have G2 := Lib.hid (G.out.trans G1)
      clear hb G1 c0 c1
      by_cases t0 : nameB 8 tg = true
      · rw [t0]
        by_cases t1 : ltS r tg = true
        · rw [t1] at LE
          go_wp2_with fail
          refine (RV.out _).mono ?_
          rintro e w2 ⟨rfl, hb⟩
          have G3 := Lib.hid (G2.out.trans hb)
          have c4 := cell_later hb c2
          clear hb c2 c3
          by_cases t2 : revTB rv = true
          · have E : Hid (R = ascT tg (l.drop (k + 1))) := Lib.hid (by rw [SB.out, A1.out, tagOk, t0, t1, t2]; simp)
            rw [t2]
            clear t0 t1 t2
            go_wp2_with fail
            go_roundw
            case rel => exact ⟨k + 1, tg, by omega, rfl, by go_num, E, G3⟩
            case measure => simp [intOf]; omega
          · have t2 : revTB rv = false := by simpa using t2
            have E : Hid (R = false) := Lib.hid (by rw [SB.out, A1.out, tagOk, t2]; simp)
            rw [t2]
            clear t0 t1 t2
            go_wp2_with fail
            go_ret
            exact ⟨ret_bool E.out.symm, G3.out⟩
        · have t1 : ltS r tg = false := by simpa using t1
          rw [t1] at LE
          have E : Hid (R = false) := Lib.hid (by rw [SB.out, A1.out, t1]; simp)
          clear t0 t1
          go_wp2_with fail
          go_ret
          exact ⟨ret_bool E.out.symm, G2.out⟩
      · have t0 : nameB 8 tg = false := by simpa using t0
        have E : Hid (R = false) := Lib.hid (by rw [SB.out, A1.out, tagOk, t0]; simp)
        rw [t0]
        clear t0
        go_wp2_with fail
        go_ret
        exact ⟨ret_bool E.out.symm, G2.out⟩
    · have E : Hid (R = true) := Lib.hid (by rw [SB.out, List.drop_eq_nil_of_le (by omega)]; rfl)
      have d0 : decide ((k : Int) < (l.length : Int)) = false := decide_eq_false (by omega)
      go_wp2_with fail
      go_ret
      exact ⟨ret_bool E.out.symm, G.out⟩
/-- A table's value. -/
def tabV (a : Option Addr) (n c : Nat) (a' : Option Addr) (n' c' : Nat) : Value := .agg #[.slice a n c, .slice a' n' c']
set_option maxHeartbeats 2000000 in
theorem right_any (a : Option Addr) (l : List Shr) (c : Nat) (a' : Option Addr) (m : List Tgo) (c' : Nat) (w : World) (hl : l.length ≤ 1000000) (hm : m.length ≤ 1000000) (h : ShSl w a l) (h' : TgSl w a' m) (hok : ∀ s, s ∈ l → s.ok) (hok' : ∀ s, s ∈ m → s.ok) :
    Calls Try.prog 29 #[tabV a l.length c a' m.length c'] w fun e w' => e = .returned (.bool (rightB l m)) ∧ Grow.G w w' := by
  have SO := Lib.hid (fun w h => sound_any a l c w hl h hok)
  have TG := Lib.hid (fun w h => tagged_any a' m c' w hm h hok')
  have HS := Lib.hid h
  have HT := Lib.hid h'
  clear h h' hok hok' hl hm
  unfold tabV
  have E : rightB l m = (soundB l && ascT ⟨#[]⟩ m) := rfl
  generalize soundB l = q at *
  generalize ascT ⟨#[]⟩ m = q' at *
  have E := Lib.hid E
  go_enter Try.func29, Try.ntmps29
  go_wp2_with fail
  refine (SO.out _ (HS.out.later (Grow.G.alloc (Grow.G.refl _) _))).mono ?_
  rintro e w1 ⟨rfl, hb⟩
  have G1 : Grow.G w w1 := Grow.G.trans (Grow.G.alloc (Grow.G.refl _) _) hb
  have c0 := cell_later hb (cell_new (w := w) (cs := #[Value.slice a l.length c, Value.slice a' m.length c']) (t := 40) (b := w.heap.size) (k := 1) rfl rfl)
  clear hb
  cases q with
  | false =>
    go_wp2_with fail
    go_ret
    exact ⟨ret_bool (by rw [E.out]; rfl), G1⟩
  | true =>
    go_wp2_with fail
    refine (TG.out _ (HT.out.later G1)).mono ?_
    rintro e w2 ⟨rfl, hb⟩
    go_wp2_with fail
    go_ret
    exact ⟨ret_bool (by rw [E.out]; rfl), G1.trans hb⟩

theorem g0 {a b : World} (h : Chg (fun _ => False) a b) : Grow.G a b := h.toGrow fun _ _ q => q
end Go.Proofs.Ytjhfjjkfnmnkgaa

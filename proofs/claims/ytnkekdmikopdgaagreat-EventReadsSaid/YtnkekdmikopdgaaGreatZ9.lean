/- My own texts Part1, Part2, Part3, Put1, Put2, Put3, laid in one file. -/
import Derived.Test.YtnkekdmikopdgaaGreatZ5
import Derived.Test.YtnkekdmikopdgaaGreatZ2
import Derived.Test.YtnkekdmikopdgaaGreatZ1
import Derived.Test.YtnkekdmikopdgaaGreatZ4
import Derived.Laws.EntriesVeiled

/- The parts of an event: places, forms, what each asks. -/
namespace Go.Proofs.YtnkekdmikopdgaaGreat
set_option maxRecDepth 100000
set_option linter.unusedVariables false
set_option linter.unusedSimpArgs false
set_option linter.unnecessarySimpa false
open Go.RowKit

theorem numberOf_any (g : Nat) (w : World) : Calls Tryz.prog 57 #[.pointer (some ⟨g, 0, none⟩)] w fun e w' => e = .returned (.pointer (some ⟨g, 3, none⟩)) ∧ w = w' := by
 go_enter Tryz.func57, Tryz.ntmps57
 go_wp2
 go_ret
 exact ⟨rfl, rfl⟩
theorem drawOf_any (g : Nat) (w : World) : Calls Tryz.prog 70 #[.pointer (some ⟨g, 0, none⟩)] w fun e w' => e = .returned (.pointer (some ⟨g, 4, none⟩)) ∧ w = w' := by
 go_enter Tryz.func70, Tryz.ntmps70
 go_wp2
 go_ret
 exact ⟨rfl, rfl⟩
theorem nameOf_any (g : Nat) (w : World) : Calls Tryz.prog 67 #[.pointer (some ⟨g, 0, none⟩)] w fun e w' => e = .returned (.pointer (some ⟨g, 1, none⟩)) ∧ w = w' := by
 go_enter Tryz.func67, Tryz.ntmps67
 go_wp2
 go_ret
 exact ⟨rfl, rfl⟩
theorem tagOf_any (g : Nat) (w : World) : Calls Tryz.prog 71 #[.pointer (some ⟨g, 0, none⟩)] w fun e w' => e = .returned (.pointer (some ⟨g, 2, none⟩)) ∧ w = w' := by
 go_enter Tryz.func71, Tryz.ntmps71
 go_wp2
 go_ret
 exact ⟨rfl, rfl⟩
theorem configOf_any (g : Nat) (w : World) : Calls Tryz.prog 60 #[.pointer (some ⟨g, 0, none⟩)] w fun e w' => e = .returned (.pointer (some ⟨g, 5, none⟩)) ∧ w = w' := by
 go_enter Tryz.func60, Tryz.ntmps60
 go_wp2
 go_ret
 exact ⟨rfl, rfl⟩
theorem routeOf_any (g : Nat) (w : World) : Calls Tryz.prog 63 #[.pointer (some ⟨g, 0, none⟩)] w fun e w' => e = .returned (.pointer (some ⟨g, 11, none⟩)) ∧ w = w' := by
 go_enter Tryz.func63, Tryz.ntmps63
 go_wp2
 go_ret
 exact ⟨rfl, rfl⟩
theorem eunless_any (b : Bool) (e : Int) (w : World) :
  Calls Tryz.prog 101 #[.bool b, .int .i64 e] w fun x w' => x = .returned (.int .i64 (unl b e)) ∧ w = w' := by
 cases b
 all_goals
  go_enter Tryz.func101, Tryz.ntmps101
  go_wp2
  go_ret
  exact ⟨rfl, rfl⟩
def kindB (k : Int) : Bool := decide (1 ≤ k ∧ k ≤ 13)
theorem eknown_any (k : Int) (w : World) :
  Calls Tryz.prog 29 #[.int .i64 k] w fun x w' => x = .returned (.bool (kindB k)) ∧ w = w' := by
 have E : Hid (kindB k = decide (1 ≤ k ∧ k ≤ 13)) := Lib.hid rfl
 generalize kindB k = z at *
 go_enter Tryz.func29, Tryz.ntmps29
 go_wp2
 all_goals
  go_ret
  refine ⟨ret_bool ?_, rfl⟩
  rw [E.out]
  simp
  try omega
theorem number1_any (n lo hi : Int) (l h : Nat) (w : World) (hl : Blk w l #[.int .i64 lo] 3) (hh : Blk w h #[.int .i64 hi] 3) :
  Calls Tryz.prog 100 #[.int .i64 n, .pointer (some ⟨l, 0, none⟩), .pointer (some ⟨h, 0, none⟩)] w fun x w' => x = .returned (.int .i64 (inE n lo hi)) ∧ w = w' := by
 have c1 := hl.cell 0
 have c2 := hh.cell 0
 simp at c1 c2
 clear hl hh
 have E : Hid (inE n lo hi = if lo ≤ n ∧ n ≤ hi then 0 else 2) := Lib.hid rfl
 generalize inE n lo hi = z at *
 have U := Lib.hid (fun b w => eunless_any b 2 w)
 go_enter Tryz.func100, Tryz.ntmps100
 by_cases h1 : lo ≤ n
 ·
  by_cases h2 : n ≤ hi
  ·
   go_wp2_with fail
   refine (U.out true _).mono ?_
   rintro e wx ⟨rfl, rfl⟩
   go_wp2
   go_ret
   exact ⟨ret_i64 (by rw [E.out, if_pos ⟨h1, h2⟩]; rfl), rfl⟩
  ·
   go_wp2_with fail
   refine (U.out false _).mono ?_
   rintro e wx ⟨rfl, rfl⟩
   go_wp2
   go_ret
   exact ⟨ret_i64 (by rw [E.out, if_neg (by omega)]; rfl), rfl⟩
 ·
  go_wp2_with fail
  refine (U.out false _).mono ?_
  rintro e wx ⟨rfl, rfl⟩
  go_wp2
  go_ret
  exact ⟨ret_i64 (by rw [E.out, if_neg (by omega)]; rfl), rfl⟩
theorem tagOrNone_any (s : ByteArray) (w : World) (hs : s.size ≤ maxLen) :
  Calls Tryz.prog 72 #[.string s] w fun e w' => e = .returned (.bool (strE s || nameB 8 s)) ∧ Below w.heap.size w w' := by
 have C := Lib.hid (fun w => tag_any s w hs)
 by_cases h : strE s = true
 ·
  have h1 : s.toList.isEmpty = true := h
  go_enter Tryz.func72, Tryz.ntmps72
  go_wp2_with fail
  go_ret
  exact ⟨ret_bool (by rw [h]; rfl), Below.refl _ _⟩
 ·
  have h1 : s.toList.isEmpty = false := by simpa [strE] using h
  go_enter Tryz.func72, Tryz.ntmps72
  go_wp2_with fail
  refine (C.out _).mono ?_
  rintro e w1 ⟨rfl, hb1⟩
  go_wp2_with fail
  go_ret
  exact ⟨ret_bool (by rw [show strE s = false from h1]; rfl), hb1⟩
theorem revision_any (s : ByteArray) (w : World) (hs : s.size ≤ 281474976710655) :
  Calls Tryz.prog 73 #[.string s] w fun e w' => e = .returned (.bool (revB s)) ∧ Below w.heap.size w w' := by
 have C := Lib.hid (fun w => split_b s w hs)
 generalize revB s = z at *
 go_enter Tryz.func73, Tryz.ntmps73
 go_wp2_with fail
 refine (C.out _).mono ?_
 rintro e w1 ⟨⟨c, n, rfl⟩, hb1⟩
 go_wp2_with fail
 go_ret
 exact ⟨rfl, hb1⟩

abbrev ptr (b : Nat) : Value := .pointer (some ⟨b, 0, none⟩)
/-- A part whose place is AT, whose form is f0, f1, f2: where the two lie. -/
def PartV (w : World) (F1 F2 F3 F4 AT : FuncId) (ta tb : TypeId) (f0 f1 f2 : Value) (a b : Nat) (v : Value) : Prop :=
 v = .agg #[.func (.func F1) #[] #[ptr a], .func (.func F2) #[] #[ptr b, ptr a], .func (.func F3) #[] #[ptr b, ptr a], .func (.func F4) #[] #[ptr b, ptr a]] ∧ Blk w a #[.func (.func AT) #[] #[]] ta ∧ Blk w b #[f0, f1, f2] tb
/-- A form of numbers. -/
def NumF (w : World) (lo hi : Int) (l h : Nat) : Prop := Blk w l #[.int .i64 lo] 3 ∧ Blk w h #[.int .i64 hi] 3
/-- A form of texts. -/
abbrev TxtF (w : World) (M : FuncId) (m : Nat) : Prop := Blk w m #[.func (.func M) #[] #[]] 81
def IntPart (w : World) (AT : FuncId) (lo hi : Int) (v : Value) : Prop :=
 ∃ a b l h, PartV w 82 83 84 85 AT 98 102 (.func (.func 100) #[] #[ptr l, ptr h]) (.func (.func 102) #[] #[]) (.func (.func 103) #[] #[]) a b v ∧ NumF w lo hi l h
def TxtPart (w : World) (AT M : FuncId) (v : Value) : Prop :=
 ∃ a b m, PartV w 105 106 107 108 AT 122 126 (.func (.func 109) #[] #[ptr m]) (.func (.func 110) #[] #[]) (.func (.func 111) #[] #[]) a b v ∧ TxtF w M m
def CfgPart (w : World) (v : Value) : Prop :=
 ∃ a b, PartV w 86 87 88 89 60 105 110 (.func (.func 90) #[] #[]) (.func (.func 91) #[] #[]) (.func (.func 92) #[] #[]) a b v
def RtPart (w : World) (v : Value) : Prop :=
 ∃ a b, PartV w 93 94 95 96 63 113 118 (.func (.func 97) #[] #[]) (.func (.func 98) #[] #[]) (.func (.func 99) #[] #[]) a b v
def IsPart (w : World) : PT → Value → Prop
 | .n lo hi, v => IntPart w 57 lo hi v
 | .d lo hi, v => IntPart w 70 lo hi v
 | .nm false, v => TxtPart w 67 69 v
 | .nm true, v => TxtPart w 67 73 v
 | .tg, v => TxtPart w 71 72 v
 | .c, v => CfgPart w v
 | .r, v => RtPart w v
theorem PartV.book {w w' : World} {F1 F2 F3 F4 AT : FuncId} {ta tb : TypeId} {f0 f1 f2 : Value} {a b : Nat} {v : Value} {n : Nat} (h : PartV w F1 F2 F3 F4 AT ta tb f0 f1 f2 a b v) (k : Iter.Book n w w') : PartV w' F1 F2 F3 F4 AT ta tb f0 f1 f2 a b v :=
 ⟨h.1, h.2.1.book k, h.2.2.book k⟩
theorem IsPart.book {w w' : World} {p : PT} {v : Value} {n : Nat} (h : IsPart w p v) (k : Iter.Book n w w') : IsPart w' p v := by
 match p, h with
 | .n lo hi, ⟨a, b, l, m, hp, h1, h2⟩ => exact ⟨a, b, l, m, hp.book k, h1.book k, h2.book k⟩
 | .d lo hi, ⟨a, b, l, m, hp, h1, h2⟩ => exact ⟨a, b, l, m, hp.book k, h1.book k, h2.book k⟩
 | .nm false, ⟨a, b, m, hp, h1⟩ => exact ⟨a, b, m, hp.book k, Blk.book h1 k⟩
 | .nm true, ⟨a, b, m, hp, h1⟩ => exact ⟨a, b, m, hp.book k, Blk.book h1 k⟩
 | .tg, ⟨a, b, m, hp, h1⟩ => exact ⟨a, b, m, hp.book k, Blk.book h1 k⟩
 | .c, ⟨a, b, hp⟩ => exact ⟨a, b, hp.book k⟩
 | .r, ⟨a, b, hp⟩ => exact ⟨a, b, hp.book k⟩

theorem number_new (lo hi : Int) (w : World) : Calls Tryz.prog 65 #[.int .i64 lo, .int .i64 hi] w fun e w' => ∃ l h, e = .returned (.agg #[.func (.func 100) #[] #[ptr l, ptr h], .func (.func 102) #[] #[], .func (.func 103) #[] #[]]) ∧ NumF w' lo hi l h ∧ (w.heap.size ≤ l ∧ w.heap.size ≤ h) ∧ Grow.G w w' := by
 go_enter Tryz.func65, Tryz.ntmps65
 go_wp2
 refine bodyPost_ret (v := .agg #[.func (.func 100) #[] #[ptr w.heap.size, ptr (w.heap.size + 1)], .func (.func 102) #[] #[], .func (.func 103) #[] #[]]) (by simp [results, Tryz.results65, go_sem]) rfl ⟨w.heap.size, w.heap.size + 1, rfl, ⟨?_, ?_⟩, ⟨Nat.le_refl _, Nat.le_succ _⟩, ?_⟩
 ·
  exact ((Blk.new w _ _).alloc _).alloc _
 ·
  have := (Blk.new (w.alloc (.cells #[.int .i64 lo] 3)) #[.int .i64 hi] 3).alloc (.cells #[.func (.func 100) #[] #[ptr w.heap.size, ptr (w.heap.size + 1)], .func (.func 102) #[] #[], .func (.func 103) #[] #[]] 102)
  rwa [World.size_alloc] at this
 ·
  (repeat (first | with_reducible exact Grow.G.refl _ | with_reducible exact Below.refl _ _ | with_reducible refine Grow.G.alloc ?_ _ | with_reducible refine Grow.G.trans ?_ hb1 | ((with_reducible refine Below.setCell ?_ ?_ _); rotate_left; (focus (first | omega | (simp; done) | (simp; omega)))) | with_reducible assumption | with_reducible refine Grow.G.trans ?_ (by with_reducible assumption)))
theorem version_new (w : World) : Calls Tryz.prog 58 #[] w fun e w' => ∃ l h, e = .returned (.agg #[.func (.func 100) #[] #[ptr l, ptr h], .func (.func 102) #[] #[], .func (.func 103) #[] #[]]) ∧ NumF w' 0 2147483647 l h ∧ Grow.G w w' := by
 go_enter Tryz.func58, Tryz.ntmps58
 go_wp2_with fail
 refine (number_new 0 2147483647 _).mono ?_
 rintro e wn1 ⟨l, h, rfl, ⟨hf1, hf2⟩, ⟨hl1, hl2⟩, hb1⟩
 simp at hl1 hl2
 have n1 : l ≠ w.heap.size := by omega
 have n2 : h ≠ w.heap.size := by omega
 have HF := Lib.hid (And.intro hf1 hf2)
 clear hf1 hf2
 have B0 := Lib.hid ((Blk.new w _ _).grow hb1)
 have KB1 := Lib.hid (Evo.later hb1)
 have hxwn1c := (bcell hb1).1
 have hxwn1f := (bcell hb1).2.1
 have hxwn1z := (bcell hb1).2.2
 (try (have hlewn1_1 : w.heap.size ≤ wn1.heap.size := (by first | omega | (have hh := hxwn1z; (try simp at hh); omega))))
 (try (have hlwn1_1_0 : w.heap.size < wn1.heap.size := (by first | omega | (have hh := hxwn1z; (try simp at hh); omega))))
 (try (have hlwn1_1_1 : w.heap.size + 1 < wn1.heap.size := (by first | omega | (have hh := hxwn1z; (try simp at hh); omega))))
 (try (have hlwn1_1_2 : w.heap.size + 1 + 1 < wn1.heap.size := (by first | omega | (have hh := hxwn1z; (try simp at hh); omega))))
 go_wp2_with fail
 have B1 := ((B0.out.set 0 (.func (.func 100) #[] #[ptr l, ptr h])).set 1 (.func (.func 102) #[] #[])).set 2 (.func (.func 103) #[] #[])
 refine bodyPost_ret (v := .agg #[.func (.func 100) #[] #[ptr l, ptr h], .func (.func 102) #[] #[], .func (.func 103) #[] #[]]) (by simp [results, Tryz.results58, go_sem, B1.cell]) rfl ⟨l, h, rfl, ⟨?_, ?_⟩, ?_⟩
 ·
  exact ((HF.out.1.other n1 _ _).other n1 _ _).other n1 _ _
 ·
  exact ((HF.out.2.other n2 _ _).other n2 _ _).other n2 _ _
 ·
  (repeat (first | with_reducible exact Grow.G.refl _ | with_reducible exact Below.refl _ _ | with_reducible refine Grow.G.alloc ?_ _ | with_reducible refine Grow.G.trans ?_ hb2 | with_reducible refine Grow.G.trans ?_ hb1 | ((with_reducible refine Below.setCell ?_ ?_ _); rotate_left; (focus (first | omega | (simp; done) | (simp; omega)))) | with_reducible assumption | with_reducible refine Grow.G.trans ?_ (by with_reducible assumption)))
theorem text_new (M : FuncId) (w : World) : Calls Tryz.prog 68 #[.func (.func M) #[] #[]] w fun e w' => ∃ m, e = .returned (.agg #[.func (.func 109) #[] #[ptr m], .func (.func 110) #[] #[], .func (.func 111) #[] #[]]) ∧ TxtF w' M m ∧ Grow.G w w' := by
 go_enter Tryz.func68, Tryz.ntmps68
 go_wp2
 refine bodyPost_ret (v := .agg #[.func (.func 109) #[] #[ptr w.heap.size], .func (.func 110) #[] #[], .func (.func 111) #[] #[]]) (by simp [results, Tryz.results68, go_sem]) rfl ⟨w.heap.size, rfl, ?_, ?_⟩
 ·
  exact (Blk.new w _ _).alloc _
 ·
  (repeat (first | with_reducible exact Grow.G.refl _ | with_reducible exact Below.refl _ _ | with_reducible refine Grow.G.alloc ?_ _ | with_reducible refine Grow.G.trans ?_ hb1 | ((with_reducible refine Below.setCell ?_ ?_ _); rotate_left; (focus (first | omega | (simp; done) | (simp; omega)))) | with_reducible assumption | with_reducible refine Grow.G.trans ?_ (by with_reducible assumption)))
theorem config_new (w : World) : Calls Tryz.prog 61 #[] w fun e w' => e = .returned (.agg #[.func (.func 90) #[] #[], .func (.func 91) #[] #[], .func (.func 92) #[] #[]]) ∧ Grow.G w w' := by
 go_enter Tryz.func61, Tryz.ntmps61
 go_wp2
 refine bodyPost_ret (v := .agg #[.func (.func 90) #[] #[], .func (.func 91) #[] #[], .func (.func 92) #[] #[]]) (by simp [results, Tryz.results61, go_sem]) rfl ⟨rfl, ?_⟩
 (repeat (first | with_reducible exact Grow.G.refl _ | with_reducible exact Below.refl _ _ | with_reducible refine Grow.G.alloc ?_ _ | with_reducible refine Grow.G.trans ?_ hb1 | ((with_reducible refine Below.setCell ?_ ?_ _); rotate_left; (focus (first | omega | (simp; done) | (simp; omega)))) | with_reducible assumption | with_reducible refine Grow.G.trans ?_ (by with_reducible assumption)))
theorem route_new (w : World) : Calls Tryz.prog 64 #[] w fun e w' => e = .returned (.agg #[.func (.func 97) #[] #[], .func (.func 98) #[] #[], .func (.func 99) #[] #[]]) ∧ Grow.G w w' := by
 go_enter Tryz.func64, Tryz.ntmps64
 go_wp2
 refine bodyPost_ret (v := .agg #[.func (.func 97) #[] #[], .func (.func 98) #[] #[], .func (.func 99) #[] #[]]) (by simp [results, Tryz.results64, go_sem]) rfl ⟨rfl, ?_⟩
 (repeat (first | with_reducible exact Grow.G.refl _ | with_reducible exact Below.refl _ _ | with_reducible refine Grow.G.alloc ?_ _ | with_reducible refine Grow.G.trans ?_ hb1 | ((with_reducible refine Below.setCell ?_ ?_ _); rotate_left; (focus (first | omega | (simp; done) | (simp; omega)))) | with_reducible assumption | with_reducible refine Grow.G.trans ?_ (by with_reducible assumption)))
set_option maxHeartbeats 1000000 in
theorem hasint_new (AT : FuncId) (F0 F1 F2 : FuncId) (c0 : Array Value) (w : World) : Calls Tryz.prog 56 #[.func (.func AT) #[] #[], .agg #[.func (.func F0) #[] c0, .func (.func F1) #[] #[], .func (.func F2) #[] #[]]] w fun e w' => ∃ a b v, e = .returned v ∧ PartV w' 82 83 84 85 AT 98 102 (.func (.func F0) #[] c0) (.func (.func F1) #[] #[]) (.func (.func F2) #[] #[]) a b v ∧ Grow.G w w' := by
 go_enter Tryz.func56, Tryz.ntmps56
 go_wp2
 refine bodyPost_ret (v := .agg #[.func (.func 82) #[] #[ptr w.heap.size], .func (.func 83) #[] #[ptr (w.heap.size + 1), ptr w.heap.size], .func (.func 84) #[] #[ptr (w.heap.size + 1), ptr w.heap.size], .func (.func 85) #[] #[ptr (w.heap.size + 1), ptr w.heap.size]]) (by simp [results, Tryz.results56, go_sem]) rfl ⟨w.heap.size, w.heap.size + 1, _, rfl, ⟨rfl, ?_, ?_⟩, ?_⟩
 ·
  exact ((Blk.new w _ _).alloc _).alloc _
 ·
  have := (Blk.new (w.alloc (.cells #[.func (.func AT) #[] #[]] 98)) #[.func (.func F0) #[] c0, .func (.func F1) #[] #[], .func (.func F2) #[] #[]] 102)
  rw [World.size_alloc] at this
  exact this.alloc _
 ·
  (repeat (first | with_reducible exact Grow.G.refl _ | with_reducible exact Below.refl _ _ | with_reducible refine Grow.G.alloc ?_ _ | with_reducible refine Grow.G.trans ?_ hb1 | ((with_reducible refine Below.setCell ?_ ?_ _); rotate_left; (focus (first | omega | (simp; done) | (simp; omega)))) | with_reducible assumption | with_reducible refine Grow.G.trans ?_ (by with_reducible assumption)))
set_option maxHeartbeats 1000000 in
theorem hasstring_new (AT : FuncId) (F0 F1 F2 : FuncId) (c0 : Array Value) (w : World) : Calls Tryz.prog 66 #[.func (.func AT) #[] #[], .agg #[.func (.func F0) #[] c0, .func (.func F1) #[] #[], .func (.func F2) #[] #[]]] w fun e w' => ∃ a b v, e = .returned v ∧ PartV w' 105 106 107 108 AT 122 126 (.func (.func F0) #[] c0) (.func (.func F1) #[] #[]) (.func (.func F2) #[] #[]) a b v ∧ Grow.G w w' := by
 go_enter Tryz.func66, Tryz.ntmps66
 go_wp2
 refine bodyPost_ret (v := .agg #[.func (.func 105) #[] #[ptr w.heap.size], .func (.func 106) #[] #[ptr (w.heap.size + 1), ptr w.heap.size], .func (.func 107) #[] #[ptr (w.heap.size + 1), ptr w.heap.size], .func (.func 108) #[] #[ptr (w.heap.size + 1), ptr w.heap.size]]) (by simp [results, Tryz.results66, go_sem]) rfl ⟨w.heap.size, w.heap.size + 1, _, rfl, ⟨rfl, ?_, ?_⟩, ?_⟩
 ·
  exact ((Blk.new w _ _).alloc _).alloc _
 ·
  have := (Blk.new (w.alloc (.cells #[.func (.func AT) #[] #[]] 122)) #[.func (.func F0) #[] c0, .func (.func F1) #[] #[], .func (.func F2) #[] #[]] 126)
  rw [World.size_alloc] at this
  exact this.alloc _
 ·
  (repeat (first | with_reducible exact Grow.G.refl _ | with_reducible exact Below.refl _ _ | with_reducible refine Grow.G.alloc ?_ _ | with_reducible refine Grow.G.trans ?_ hb1 | ((with_reducible refine Below.setCell ?_ ?_ _); rotate_left; (focus (first | omega | (simp; done) | (simp; omega)))) | with_reducible assumption | with_reducible refine Grow.G.trans ?_ (by with_reducible assumption)))
set_option maxHeartbeats 1000000 in
theorem hasConfig_new (AT : FuncId) (F0 F1 F2 : FuncId) (c0 : Array Value) (w : World) : Calls Tryz.prog 59 #[.func (.func AT) #[] #[], .agg #[.func (.func F0) #[] c0, .func (.func F1) #[] #[], .func (.func F2) #[] #[]]] w fun e w' => ∃ a b v, e = .returned v ∧ PartV w' 86 87 88 89 AT 105 110 (.func (.func F0) #[] c0) (.func (.func F1) #[] #[]) (.func (.func F2) #[] #[]) a b v ∧ Grow.G w w' := by
 go_enter Tryz.func59, Tryz.ntmps59
 go_wp2
 refine bodyPost_ret (v := .agg #[.func (.func 86) #[] #[ptr w.heap.size], .func (.func 87) #[] #[ptr (w.heap.size + 1), ptr w.heap.size], .func (.func 88) #[] #[ptr (w.heap.size + 1), ptr w.heap.size], .func (.func 89) #[] #[ptr (w.heap.size + 1), ptr w.heap.size]]) (by simp [results, Tryz.results59, go_sem]) rfl ⟨w.heap.size, w.heap.size + 1, _, rfl, ⟨rfl, ?_, ?_⟩, ?_⟩
 ·
  exact ((Blk.new w _ _).alloc _).alloc _
 ·
  have := (Blk.new (w.alloc (.cells #[.func (.func AT) #[] #[]] 105)) #[.func (.func F0) #[] c0, .func (.func F1) #[] #[], .func (.func F2) #[] #[]] 110)
  rw [World.size_alloc] at this
  exact this.alloc _
 ·
  (repeat (first | with_reducible exact Grow.G.refl _ | with_reducible exact Below.refl _ _ | with_reducible refine Grow.G.alloc ?_ _ | with_reducible refine Grow.G.trans ?_ hb1 | ((with_reducible refine Below.setCell ?_ ?_ _); rotate_left; (focus (first | omega | (simp; done) | (simp; omega)))) | with_reducible assumption | with_reducible refine Grow.G.trans ?_ (by with_reducible assumption)))
set_option maxHeartbeats 1000000 in
theorem hasRoute_new (AT : FuncId) (F0 F1 F2 : FuncId) (c0 : Array Value) (w : World) : Calls Tryz.prog 62 #[.func (.func AT) #[] #[], .agg #[.func (.func F0) #[] c0, .func (.func F1) #[] #[], .func (.func F2) #[] #[]]] w fun e w' => ∃ a b v, e = .returned v ∧ PartV w' 93 94 95 96 AT 113 118 (.func (.func F0) #[] c0) (.func (.func F1) #[] #[]) (.func (.func F2) #[] #[]) a b v ∧ Grow.G w w' := by
 go_enter Tryz.func62, Tryz.ntmps62
 go_wp2
 refine bodyPost_ret (v := .agg #[.func (.func 93) #[] #[ptr w.heap.size], .func (.func 94) #[] #[ptr (w.heap.size + 1), ptr w.heap.size], .func (.func 95) #[] #[ptr (w.heap.size + 1), ptr w.heap.size], .func (.func 96) #[] #[ptr (w.heap.size + 1), ptr w.heap.size]]) (by simp [results, Tryz.results62, go_sem]) rfl ⟨w.heap.size, w.heap.size + 1, _, rfl, ⟨rfl, ?_, ?_⟩, ?_⟩
 ·
  exact ((Blk.new w _ _).alloc _).alloc _
 ·
  have := (Blk.new (w.alloc (.cells #[.func (.func AT) #[] #[]] 113)) #[.func (.func F0) #[] c0, .func (.func F1) #[] #[], .func (.func F2) #[] #[]] 118)
  rw [World.size_alloc] at this
  exact this.alloc _
 ·
  (repeat (first | with_reducible exact Grow.G.refl _ | with_reducible exact Below.refl _ _ | with_reducible refine Grow.G.alloc ?_ _ | with_reducible refine Grow.G.trans ?_ hb1 | ((with_reducible refine Below.setCell ?_ ?_ _); rotate_left; (focus (first | omega | (simp; done) | (simp; omega)))) | with_reducible assumption | with_reducible refine Grow.G.trans ?_ (by with_reducible assumption)))

theorem quietG {P : Program} {f : FuncId} {args : Array Value} {w : World} {v : Value} (h : Calls P f args w fun e w' => e = .returned v ∧ w = w') : Calls P f args w fun e w' => e = .returned v ∧ Grow.G w w' :=
 h.mono fun e w' ⟨he, hw⟩ => ⟨he, hw ▸ Grow.G.refl _⟩
theorem number1_q (n lo hi : Int) (l h : Nat) (w : World) (hl : Blk w l #[.int .i64 lo] 3) (hh : Blk w h #[.int .i64 hi] 3) :
  Calls Tryz.prog 100 #[.int .i64 n, ptr l, ptr h] w fun x w' => x = .returned (.int .i64 (inE n lo hi)) ∧ Grow.G w w' := quietG (number1_any n lo hi l h w hl hh)
theorem numberOf_q (g : Nat) (w : World) : Calls Tryz.prog 57 #[ptr g] w fun e w' => e = .returned (.pointer (some ⟨g, 3, none⟩)) ∧ Grow.G w w' := quietG (numberOf_any g w)
theorem drawOf_q (g : Nat) (w : World) : Calls Tryz.prog 70 #[ptr g] w fun e w' => e = .returned (.pointer (some ⟨g, 4, none⟩)) ∧ Grow.G w w' := quietG (drawOf_any g w)
theorem nameOf_q (g : Nat) (w : World) : Calls Tryz.prog 67 #[ptr g] w fun e w' => e = .returned (.pointer (some ⟨g, 1, none⟩)) ∧ Grow.G w w' := quietG (nameOf_any g w)
theorem tagOf_q (g : Nat) (w : World) : Calls Tryz.prog 71 #[ptr g] w fun e w' => e = .returned (.pointer (some ⟨g, 2, none⟩)) ∧ Grow.G w w' := quietG (tagOf_any g w)
theorem configOf_q (g : Nat) (w : World) : Calls Tryz.prog 60 #[ptr g] w fun e w' => e = .returned (.pointer (some ⟨g, 5, none⟩)) ∧ Grow.G w w' := quietG (configOf_any g w)
theorem routeOf_q (g : Nat) (w : World) : Calls Tryz.prog 63 #[ptr g] w fun e w' => e = .returned (.pointer (some ⟨g, 11, none⟩)) ∧ Grow.G w w' := quietG (routeOf_any g w)
theorem evcell {w : World} {g : Nat} {cs : Array Value} {T : TypeId} (h : Blk w g cs T) {i : Nat} {v : Value} (hv : cs[i]? = some v) : w.cell? ⟨g, i, none⟩ = some v := (h.cell i).trans hv
theorem text1_name (s : ByteArray) (m : Nat) (w : World) (hs : s.size ≤ maxLen) (hm : TxtF w 69 m) :
  Calls Tryz.prog 109 #[.string s, ptr m] w fun e w' => e = .returned (.int .i64 (nmdE (nameB 16 s))) ∧ Grow.G w w' := by
 have C := Lib.hid (fun w => name_any s w hs)
 have E : Hid (nmdE (nameB 16 s) = unl (nameB 16 s) 1) := Lib.hid rfl
 have c1 := evcell hm (i := 0) rfl
 generalize (nameB 16 s) = z at *
 generalize nmdE z = y at *
 have U := Lib.hid (fun w => eunless_any z 1 w)
 clear hm
 go_enter Tryz.func109, Tryz.ntmps109
 go_wp2_with fail
 refine (C.out _).mono ?_
 rintro e wn1 ⟨rfl, hb1⟩
 have KB1 := Lib.hid (Evo.later hb1)
 have hxwn1c := (bcell hb1).1
 have hxwn1f := (bcell hb1).2.1
 have hxwn1z := (bcell hb1).2.2
 (try (have hlewn1_1 : w.heap.size ≤ wn1.heap.size := (by first | omega | (have hh := hxwn1z; (try simp at hh); omega))))
 (try (have hlwn1_1_0 : w.heap.size < wn1.heap.size := (by first | omega | (have hh := hxwn1z; (try simp at hh); omega))))
 (try (have hlwn1_1_1 : w.heap.size + 1 < wn1.heap.size := (by first | omega | (have hh := hxwn1z; (try simp at hh); omega))))
 (try (have hlwn1_1_2 : w.heap.size + 1 + 1 < wn1.heap.size := (by first | omega | (have hh := hxwn1z; (try simp at hh); omega))))
 go_wp2_with fail
 refine (U.out _).mono ?_
 rintro e wx ⟨rfl, rfl⟩
 go_wp2_with fail
 go_ret
 exact ⟨ret_i64 E.out.symm, hb1⟩
theorem text1_tag (s : ByteArray) (m : Nat) (w : World) (hs : s.size ≤ maxLen) (hm : TxtF w 72 m) :
  Calls Tryz.prog 109 #[.string s, ptr m] w fun e w' => e = .returned (.int .i64 (nmdE (strE s || nameB 8 s))) ∧ Grow.G w w' := by
 have C := Lib.hid (fun w => tagOrNone_any s w hs)
 have E : Hid (nmdE (strE s || nameB 8 s) = unl (strE s || nameB 8 s) 1) := Lib.hid rfl
 have c1 := evcell hm (i := 0) rfl
 generalize (strE s || nameB 8 s) = z at *
 generalize nmdE z = y at *
 have U := Lib.hid (fun w => eunless_any z 1 w)
 clear hm
 go_enter Tryz.func109, Tryz.ntmps109
 go_wp2_with fail
 refine (C.out _).mono ?_
 rintro e wn1 ⟨rfl, hb1⟩
 have KB1 := Lib.hid (Evo.later hb1)
 have hxwn1c := (bcell hb1).1
 have hxwn1f := (bcell hb1).2.1
 have hxwn1z := (bcell hb1).2.2
 (try (have hlewn1_1 : w.heap.size ≤ wn1.heap.size := (by first | omega | (have hh := hxwn1z; (try simp at hh); omega))))
 (try (have hlwn1_1_0 : w.heap.size < wn1.heap.size := (by first | omega | (have hh := hxwn1z; (try simp at hh); omega))))
 (try (have hlwn1_1_1 : w.heap.size + 1 < wn1.heap.size := (by first | omega | (have hh := hxwn1z; (try simp at hh); omega))))
 (try (have hlwn1_1_2 : w.heap.size + 1 + 1 < wn1.heap.size := (by first | omega | (have hh := hxwn1z; (try simp at hh); omega))))
 go_wp2_with fail
 refine (U.out _).mono ?_
 rintro e wx ⟨rfl, rfl⟩
 go_wp2_with fail
 go_ret
 exact ⟨ret_i64 E.out.symm, hb1⟩
theorem text1_rev (s : ByteArray) (m : Nat) (w : World) (hs : s.size ≤ 281474976710655) (hm : TxtF w 73 m) :
  Calls Tryz.prog 109 #[.string s, ptr m] w fun e w' => e = .returned (.int .i64 (nmdE (revB s))) ∧ Grow.G w w' := by
 have C := Lib.hid (fun w => revision_any s w hs)
 have E : Hid (nmdE (revB s) = unl (revB s) 1) := Lib.hid rfl
 have c1 := evcell hm (i := 0) rfl
 generalize (revB s) = z at *
 generalize nmdE z = y at *
 have U := Lib.hid (fun w => eunless_any z 1 w)
 clear hm
 go_enter Tryz.func109, Tryz.ntmps109
 go_wp2_with fail
 refine (C.out _).mono ?_
 rintro e wn1 ⟨rfl, hb1⟩
 have KB1 := Lib.hid (Evo.later hb1)
 have hxwn1c := (bcell hb1).1
 have hxwn1f := (bcell hb1).2.1
 have hxwn1z := (bcell hb1).2.2
 (try (have hlewn1_1 : w.heap.size ≤ wn1.heap.size := (by first | omega | (have hh := hxwn1z; (try simp at hh); omega))))
 (try (have hlwn1_1_0 : w.heap.size < wn1.heap.size := (by first | omega | (have hh := hxwn1z; (try simp at hh); omega))))
 (try (have hlwn1_1_1 : w.heap.size + 1 < wn1.heap.size := (by first | omega | (have hh := hxwn1z; (try simp at hh); omega))))
 (try (have hlwn1_1_2 : w.heap.size + 1 + 1 < wn1.heap.size := (by first | omega | (have hh := hxwn1z; (try simp at hh); omega))))
 go_wp2_with fail
 refine (U.out _).mono ?_
 rintro e wx ⟨rfl, rfl⟩
 go_wp2_with fail
 go_ret
 exact ⟨ret_i64 E.out.symm, hb1⟩
set_option maxHeartbeats 1000000 in
theorem clr_n (e : EvD) (lo hi : Int) (a : Option Addr) (c : Nat) (A g : Nat) (w : World) (hg : Blk w g (e.cells a c) 28) (ha : Blk w A #[.func (.func 57) #[] #[]] 98) :
  Calls Tryz.prog 82 #[ptr g, ptr A] w fun x w' => (∃ v, x = .returned v) ∧ Blk w' g ((PT.clr e (.n lo hi)).cells a c) 28 ∧ Chg (fun k => k = g) w w' := by
 have HG := Lib.hid hg
 have hgl := hg.lt
 have a0 := evcell ha (i := 0) rfl
 have e0 := evcell hg (i := 3) rfl
 have f0 := hg.free 3
 have al := ha.lt
 clear hg ha
 go_enter Tryz.func82, Tryz.ntmps82
 go_wp2_with fail
 refine (numberOf_any g _).mono ?_
 rintro e wx ⟨rfl, rfl⟩
 go_wp2_with fail
 go_end0
 refine ⟨⟨_, rfl⟩, ?_, ?_⟩
 ·
  exact (HG.out.set 3 (.int .i64 0))
 ·
  exact Chg.setCell (G := fun k => k = g) (Chg.refl _ _) (fun _ => rfl) _ _
set_option maxHeartbeats 1000000 in
theorem clr_d (e : EvD) (lo hi : Int) (a : Option Addr) (c : Nat) (A g : Nat) (w : World) (hg : Blk w g (e.cells a c) 28) (ha : Blk w A #[.func (.func 70) #[] #[]] 98) :
  Calls Tryz.prog 82 #[ptr g, ptr A] w fun x w' => (∃ v, x = .returned v) ∧ Blk w' g ((PT.clr e (.d lo hi)).cells a c) 28 ∧ Chg (fun k => k = g) w w' := by
 have HG := Lib.hid hg
 have hgl := hg.lt
 have a0 := evcell ha (i := 0) rfl
 have e0 := evcell hg (i := 4) rfl
 have f0 := hg.free 4
 have al := ha.lt
 clear hg ha
 go_enter Tryz.func82, Tryz.ntmps82
 go_wp2_with fail
 refine (drawOf_any g _).mono ?_
 rintro e wx ⟨rfl, rfl⟩
 go_wp2_with fail
 go_end0
 refine ⟨⟨_, rfl⟩, ?_, ?_⟩
 ·
  exact (HG.out.set 4 (.int .i64 0))
 ·
  exact Chg.setCell (G := fun k => k = g) (Chg.refl _ _) (fun _ => rfl) _ _
set_option maxHeartbeats 1000000 in
theorem clr_nm (e : EvD) (b : Bool) (a : Option Addr) (c : Nat) (A g : Nat) (w : World) (hg : Blk w g (e.cells a c) 28) (ha : Blk w A #[.func (.func 67) #[] #[]] 122) :
  Calls Tryz.prog 105 #[ptr g, ptr A] w fun x w' => (∃ v, x = .returned v) ∧ Blk w' g ((PT.clr e (.nm b)).cells a c) 28 ∧ Chg (fun k => k = g) w w' := by
 have HG := Lib.hid hg
 have hgl := hg.lt
 have a0 := evcell ha (i := 0) rfl
 have e0 := evcell hg (i := 1) rfl
 have f0 := hg.free 1
 have al := ha.lt
 clear hg ha
 go_enter Tryz.func105, Tryz.ntmps105
 go_wp2_with fail
 refine (nameOf_any g _).mono ?_
 rintro e wx ⟨rfl, rfl⟩
 go_wp2_with fail
 go_end0
 refine ⟨⟨_, rfl⟩, ?_, ?_⟩
 ·
  exact (HG.out.set 1 (.string ⟨#[]⟩))
 ·
  exact Chg.setCell (G := fun k => k = g) (Chg.refl _ _) (fun _ => rfl) _ _
set_option maxHeartbeats 1000000 in
theorem clr_tg (e : EvD) (a : Option Addr) (c : Nat) (A g : Nat) (w : World) (hg : Blk w g (e.cells a c) 28) (ha : Blk w A #[.func (.func 71) #[] #[]] 122) :
  Calls Tryz.prog 105 #[ptr g, ptr A] w fun x w' => (∃ v, x = .returned v) ∧ Blk w' g ((PT.clr e .tg).cells a c) 28 ∧ Chg (fun k => k = g) w w' := by
 have HG := Lib.hid hg
 have hgl := hg.lt
 have a0 := evcell ha (i := 0) rfl
 have e0 := evcell hg (i := 2) rfl
 have f0 := hg.free 2
 have al := ha.lt
 clear hg ha
 go_enter Tryz.func105, Tryz.ntmps105
 go_wp2_with fail
 refine (tagOf_any g _).mono ?_
 rintro e wx ⟨rfl, rfl⟩
 go_wp2_with fail
 go_end0
 refine ⟨⟨_, rfl⟩, ?_, ?_⟩
 ·
  exact (HG.out.set 2 (.string ⟨#[]⟩))
 ·
  exact Chg.setCell (G := fun k => k = g) (Chg.refl _ _) (fun _ => rfl) _ _
set_option maxHeartbeats 1000000 in
theorem clr_c (e : EvD) (a : Option Addr) (c : Nat) (A g : Nat) (w : World) (hg : Blk w g (e.cells a c) 28) (ha : Blk w A #[.func (.func 60) #[] #[]] 105) :
  Calls Tryz.prog 86 #[ptr g, ptr A] w fun x w' => (∃ v, x = .returned v) ∧ Blk w' g ((PT.clr e .c).cells a c) 28 ∧ Chg (fun k => k = g) w w' := by
 have HG := Lib.hid hg
 have hgl := hg.lt
 have a0 := evcell ha (i := 0) rfl
 have e0 := evcell hg (i := 5) rfl ; have e1 := evcell hg (i := 6) rfl ; have e2 := evcell hg (i := 7) rfl ; have e3 := evcell hg (i := 8) rfl ; have e4 := evcell hg (i := 9) rfl ; have e5 := evcell hg (i := 10) rfl
 have f0 := hg.free 5 ; have f1 := hg.free 6 ; have f2 := hg.free 7 ; have f3 := hg.free 8 ; have f4 := hg.free 9 ; have f5 := hg.free 10
 have al := ha.lt
 clear hg ha
 go_enter Tryz.func86, Tryz.ntmps86
 go_wp2_with fail
 obtain ⟨W0, hW⟩ : ∃ W0, W0 = w.alloc (.cells #[.string ⟨#[]⟩, .int .i64 0, .int .i64 0, .int .i64 0, .int .i64 0, .int .i64 0] 23) := ⟨_, rfl⟩
 rw [← hW]
 have hs0 : W0.heap.size = w.heap.size + 1 := by rw [hW]; simp
 have B0 : Blk W0 w.heap.size #[.string ⟨#[]⟩, .int .i64 0, .int .i64 0, .int .i64 0, .int .i64 0, .int .i64 0] 23 := by rw [hW]; exact Blk.new w _ _
 have G0 : Grow.G w W0 := by rw [hW]; exact Grow.G.alloc (Grow.G.refl _) _
 have HG0 := Lib.hid (HG.out.grow G0)
 have A0 := (Chg.grow (G := fun _ => False) G0).cell a0 id
 have KC := Lib.hid (fun (w' : World) (h : Chg (fun k => k = g) W0 w') => (⟨h.cell A0 (fun q => by have q : A = g := q; subst q; have := HG0.out.cell 0; rw [A0] at this; cases this), h.cell (evcell B0 (i := 0) rfl) (fun q => by have q : w.heap.size = g := q; omega), h.cell (evcell B0 (i := 1) rfl) (fun q => by have q : w.heap.size = g := q; omega), h.cell (evcell B0 (i := 2) rfl) (fun q => by have q : w.heap.size = g := q; omega), h.cell (evcell B0 (i := 3) rfl) (fun q => by have q : w.heap.size = g := q; omega), h.cell (evcell B0 (i := 4) rfl) (fun q => by have q : w.heap.size = g := q; omega), h.cell (evcell B0 (i := 5) rfl) (fun q => by have q : w.heap.size = g := q; omega)⟩ : w'.cell? ⟨A, 0, none⟩ = some (.func (.func 60) #[] #[]) ∧ w'.cell? ⟨w.heap.size, 0, none⟩ = some (.string ⟨#[]⟩) ∧ w'.cell? ⟨w.heap.size, 1, none⟩ = some (.int .i64 0) ∧ w'.cell? ⟨w.heap.size, 2, none⟩ = some (.int .i64 0) ∧ w'.cell? ⟨w.heap.size, 3, none⟩ = some (.int .i64 0) ∧ w'.cell? ⟨w.heap.size, 4, none⟩ = some (.int .i64 0) ∧ w'.cell? ⟨w.heap.size, 5, none⟩ = some (.int .i64 0)))
 have EV : Hid (∀ w', Grow.G W0 w' → Blk w' g (e.cells a c) 28) := Lib.hid (fun w' h => HG0.out.grow h)
 clear hW B0 A0 a0 e0 f0 e1 f1 e2 f2 e3 f3 e4 f4 e5 f5
 refine Evo2.start' (ℓ := none) (S := Chg (fun k => k = g)) (E := Grow.G) (by kernel_rfl) ⟨Chg.pre _, by decide +kernel, (by intro c a d v w h; cases d <;> exact h), by decide +kernel⟩ (fun ok => ?_)
 first | (refine Evo2.vl ok 0 KC.out (Chg.refl (fun k => k = g) _) _ _ ?_) | (refine Evo2.va ok 0 _ _ ?_)
 refine Evo2.va ok 1 _ _ ?_
 (refine Evo2.cal ok 2 ?_ 60 ?_ ?_ ?_ ?_; rotate_left 2; (focus (intro w'; go_simp <;> with_reducible rfl)); (focus (intro w' g'; with_reducible exact configOf_q g w')); simp only [Act.put, L0, L1, L2])
 first | (refine Evo2.vl ok 3 KC.out (Chg.refl (fun k => k = g) _) _ _ ?_) | (refine Evo2.va ok 3 _ _ ?_)
 refine Evo2.va ok 4 _ _ ?_
 refine Evo2.all [5] (by decide +kernel) rfl ?_
 intro wp1 gp1 iq hq
 simp only [List.mem_cons, List.mem_nil_iff, or_false] at hq
 have AP1 := Chg.trans (Chg.refl (fun k => k = g) _) (Chg.grow gp1)
 subst hq
 refine Evo2.runs (by rfl) (by rfl) (fun K' hK' => ?_)
 (try obtain ⟨q1, q2, q3, q4, q5, q6, q7⟩ := KC.out wp1 AP1)
 have BG := EV.out _ gp1; have gl := BG.lt; have e0 := evcell BG (i := 5) rfl; have f0 := BG.free 5; have e1 := evcell BG (i := 6) rfl; have f1 := BG.free 6; have e2 := evcell BG (i := 7) rfl; have f2 := BG.free 7; have e3 := evcell BG (i := 8) rfl; have f3 := BG.free 8; have e4 := evcell BG (i := 9) rfl; have f4 := BG.free 9; have e5 := evcell BG (i := 10) rfl; have f5 := BG.free 10; clear BG
 go_simp
 (try (simp only [Evo.after_value, Evo.after_skip]))
 refine hK'.out _ _ ?_
 clear hK'
 simp only [Act.put, L0, L1, L2]
 (try clear gl e0 f0 e1 f1 e2 f2 e3 f3 e4 f4 e5 f5)
 (try clear q1 q2 q3 q4 q5 q6 q7)
 refine ⟨.inr (by (repeat refine Chg.setCell ?_ (fun _ => by first | rfl | (simp; done) | (simp; omega)) _ _); exact Chg.refl _ _), ?_⟩
 refine Evo2.done (by decide +kernel) (fun wz gz => ?_)
 have AZ := Chg.trans (Chg.trans AP1 (by (repeat refine Chg.setCell ?_ (fun _ => by first | rfl | (simp; done) | (simp; omega)) _ _); exact Chg.refl _ _)) (Chg.grow gz)
 have BZ := (((((((EV.out _ gp1).set 5 (.string ⟨#[]⟩)).set 6 (.int .i64 0)).set 7 (.int .i64 0)).set 8 (.int .i64 0)).set 9 (.int .i64 0)).set 10 (.int .i64 0)).grow gz
 go_wp2_with fail
 go_end0
 exact ⟨⟨_, rfl⟩, BZ, Chg.trans (Chg.grow G0) AZ⟩
set_option maxHeartbeats 1000000 in
theorem clr_r (e : EvD) (a : Option Addr) (c : Nat) (A g : Nat) (w : World) (hg : Blk w g (e.cells a c) 28) (ha : Blk w A #[.func (.func 63) #[] #[]] 113) :
  Calls Tryz.prog 93 #[ptr g, ptr A] w fun x w' => (∃ v, x = .returned v) ∧ Blk w' g ((PT.clr e .r).cells none 0) 28 ∧ Chg (fun k => k = g) w w' := by
 have HG := Lib.hid hg
 have hgl := hg.lt
 have a0 := evcell ha (i := 0) rfl
 have e0 := evcell hg (i := 11) rfl ; have e1 := evcell hg (i := 12) rfl ; have e2 := evcell hg (i := 13) rfl ; have e3 := evcell hg (i := 14) rfl
 have f0 := hg.free 11 ; have f1 := hg.free 12 ; have f2 := hg.free 13 ; have f3 := hg.free 14
 have al := ha.lt
 clear hg ha
 go_enter Tryz.func93, Tryz.ntmps93
 go_wp2_with fail
 obtain ⟨W0, hW⟩ : ∃ W0, W0 = w.alloc (.cells #[.string ⟨#[]⟩, .string ⟨#[]⟩, .slice none 0 0, .int .i64 0] 26) := ⟨_, rfl⟩
 rw [← hW]
 have hs0 : W0.heap.size = w.heap.size + 1 := by rw [hW]; simp
 have B0 : Blk W0 w.heap.size #[.string ⟨#[]⟩, .string ⟨#[]⟩, .slice none 0 0, .int .i64 0] 26 := by rw [hW]; exact Blk.new w _ _
 have G0 : Grow.G w W0 := by rw [hW]; exact Grow.G.alloc (Grow.G.refl _) _
 have HG0 := Lib.hid (HG.out.grow G0)
 have A0 := (Chg.grow (G := fun _ => False) G0).cell a0 id
 have KC := Lib.hid (fun (w' : World) (h : Chg (fun k => k = g) W0 w') => (⟨h.cell A0 (fun q => by have q : A = g := q; subst q; have := HG0.out.cell 0; rw [A0] at this; cases this), h.cell (evcell B0 (i := 0) rfl) (fun q => by have q : w.heap.size = g := q; omega), h.cell (evcell B0 (i := 1) rfl) (fun q => by have q : w.heap.size = g := q; omega), h.cell (evcell B0 (i := 2) rfl) (fun q => by have q : w.heap.size = g := q; omega), h.cell (evcell B0 (i := 3) rfl) (fun q => by have q : w.heap.size = g := q; omega)⟩ : w'.cell? ⟨A, 0, none⟩ = some (.func (.func 63) #[] #[]) ∧ w'.cell? ⟨w.heap.size, 0, none⟩ = some (.string ⟨#[]⟩) ∧ w'.cell? ⟨w.heap.size, 1, none⟩ = some (.string ⟨#[]⟩) ∧ w'.cell? ⟨w.heap.size, 2, none⟩ = some (.slice none 0 0) ∧ w'.cell? ⟨w.heap.size, 3, none⟩ = some (.int .i64 0)))
 have EV : Hid (∀ w', Grow.G W0 w' → Blk w' g (e.cells a c) 28) := Lib.hid (fun w' h => HG0.out.grow h)
 clear hW B0 A0 a0 e0 f0 e1 f1 e2 f2 e3 f3
 refine Evo2.start' (ℓ := none) (S := Chg (fun k => k = g)) (E := Grow.G) (by kernel_rfl) ⟨Chg.pre _, by decide +kernel, (by intro c a d v w h; cases d <;> exact h), by decide +kernel⟩ (fun ok => ?_)
 first | (refine Evo2.vl ok 0 KC.out (Chg.refl (fun k => k = g) _) _ _ ?_) | (refine Evo2.va ok 0 _ _ ?_)
 refine Evo2.va ok 1 _ _ ?_
 (refine Evo2.cal ok 2 ?_ 63 ?_ ?_ ?_ ?_; rotate_left 2; (focus (intro w'; go_simp <;> with_reducible rfl)); (focus (intro w' g'; with_reducible exact routeOf_q g w')); simp only [Act.put, L0, L1, L2])
 first | (refine Evo2.vl ok 3 KC.out (Chg.refl (fun k => k = g) _) _ _ ?_) | (refine Evo2.va ok 3 _ _ ?_)
 refine Evo2.va ok 4 _ _ ?_
 refine Evo2.all [5] (by decide +kernel) rfl ?_
 intro wp1 gp1 iq hq
 simp only [List.mem_cons, List.mem_nil_iff, or_false] at hq
 have AP1 := Chg.trans (Chg.refl (fun k => k = g) _) (Chg.grow gp1)
 subst hq
 refine Evo2.runs (by rfl) (by rfl) (fun K' hK' => ?_)
 (try obtain ⟨q1, q2, q3, q4, q5⟩ := KC.out wp1 AP1)
 have BG := EV.out _ gp1; have gl := BG.lt; have e0 := evcell BG (i := 11) rfl; have f0 := BG.free 11; have e1 := evcell BG (i := 12) rfl; have f1 := BG.free 12; have e2 := evcell BG (i := 13) rfl; have f2 := BG.free 13; have e3 := evcell BG (i := 14) rfl; have f3 := BG.free 14; clear BG
 go_simp
 (try (simp only [Evo.after_value, Evo.after_skip]))
 refine hK'.out _ _ ?_
 clear hK'
 simp only [Act.put, L0, L1, L2]
 (try clear gl e0 f0 e1 f1 e2 f2 e3 f3)
 (try clear q1 q2 q3 q4 q5)
 refine ⟨.inr (by (repeat refine Chg.setCell ?_ (fun _ => by first | rfl | (simp; done) | (simp; omega)) _ _); exact Chg.refl _ _), ?_⟩
 refine Evo2.done (by decide +kernel) (fun wz gz => ?_)
 have AZ := Chg.trans (Chg.trans AP1 (by (repeat refine Chg.setCell ?_ (fun _ => by first | rfl | (simp; done) | (simp; omega)) _ _); exact Chg.refl _ _)) (Chg.grow gz)
 have BZ := (((((EV.out _ gp1).set 11 (.string ⟨#[]⟩)).set 12 (.string ⟨#[]⟩)).set 13 (.slice none 0 0)).set 14 (.int .i64 0)).grow gz
 go_wp2_with fail
 go_end0
 exact ⟨⟨_, rfl⟩, BZ, Chg.trans (Chg.grow G0) AZ⟩

set_option maxHeartbeats 1000000 in
theorem put1_any (base : Nat) (v : Value) (zs : List Int) (n : Int) (w : World) (ho : OwnB w base v zs) (hb : base ≤ w.heap.size) (hz : zs.length ≤ 100000) (hn : 0 ≤ n ∧ n < 256) :
  Calls Tryz.prog 43 #[v, .int .i64 n, .int .i64 1] w fun e w' => ∃ v', e = .returned v' ∧ OwnB w' base v' (zs ++ oneB n) ∧ Fr.Fr w w' v v' := by
 obtain ⟨i0, hi, hz0, hz1, hz2⟩ := info_parts infoB
 have HI := Lib.hid hi; have HZ0 := Lib.hid hz0; have HZ1 := Lib.hid hz1; have HZ2 := Lib.hid hz2
 have OW := Lib.hid ho
 have n0 := hn.1
 have n1 := hn.2
 have WR : Hid (IntKind.u8.wrap n = n) := Lib.hid (by rw [IntKind.wrap_u8]; omega)
 clear hi hz0 hz1 hz2 ho hn
 go_enter Tryz.func43, Tryz.ntmps43
 go_wp2_with fail
 go_loopw [0, 7, 9] (fun b _ i wr => (i = .int .i64 0 ∧ Hid (OwnB wr base b zs ∧ Fr.Fr w wr v b)) ∨ (i = .int .i64 1 ∧ Hid (OwnB wr base b (zs ++ oneB n) ∧ Fr.Fr w wr v b))) (fun _ _ i _ => 1 - (intOf i).toNat)
 case atStart => exact .inl ⟨rfl, Lib.hid ⟨OW.out, Fr.Fr.grow (Grow.G.refl _) _⟩⟩
 case round =>
  rcases hrel with ⟨rfl, OI⟩ | ⟨rfl, OI⟩
  ·
   have SB := OI.out.2.g.size
   go_wp2_with (at_builtin; refine Fr.wpList_append_fr _ rfl _ _ 41 rfl base 5 i0 (.int .u8 0) 1 1 Tryz.underlying41 HI.out HZ0.out HZ1.out HZ2.out rfl (by decide) _ _ _ rfl (own_later OI.out.1 ?_) _ 1 1 [_] rfl rfl (news_new _ [_] _ _ ?_) ?_ ?_ ?_ ?_ ?_)
   ·
    (repeat (first | with_reducible exact Grow.G.refl _ | with_reducible exact Below.refl _ _ | with_reducible refine Grow.G.alloc ?_ _ | with_reducible refine Grow.G.trans ?_ hb1 | ((with_reducible refine Below.setCell ?_ ?_ _); rotate_left; (focus (first | omega | (simp; done) | (simp; omega)))) | with_reducible assumption | with_reducible refine Grow.G.trans ?_ (by with_reducible assumption)))
   ·
    first | rfl | (simp; done)
   ·
    exact one1 rfl
   ·
    unfold maxLen; omega
   ·
    omega
   ·
    simp; omega
   ·
    intro v' w1 hown hgr
    have HO := Lib.hid hown
    have HB := Lib.hid (Fr.Fr.trans OI.out.2 (Fr.Fr.trans (Fr.Fr.grow (show Grow.G wr _ by (repeat (first | with_reducible exact Grow.G.refl _ | with_reducible exact Below.refl _ _ | with_reducible refine Grow.G.alloc ?_ _ | with_reducible refine Grow.G.trans ?_ hb1 | ((with_reducible refine Below.setCell ?_ ?_ _); rotate_left; (focus (first | omega | (simp; done) | (simp; omega)))) | with_reducible assumption | with_reducible refine Grow.G.trans ?_ (by with_reducible assumption)))) u0) hgr))
    clear hown hgr
    go_wp2_with fail
    go_roundw
    case rel => exact .inr ⟨rfl, Lib.hid ⟨own_fin (zs := zs ++ [n]) HO.out (by simp) (by simp [WR.out]) (Nat.le_refl _) (by simp [oneB]; omega), HB.out⟩⟩
    case measure => simp [intOf]
  ·
   go_wp2_with fail
   go_ret
   exact ⟨_, rfl, OI.out.1, OI.out.2⟩
set_option maxHeartbeats 2000000 in
theorem put4_any (base : Nat) (v : Value) (zs : List Int) (n : Int) (w : World) (ho : OwnB w base v zs) (hb : base ≤ w.heap.size) (hz : zs.length ≤ 100000) (hn : 0 ≤ n ∧ n ≤ 2147483647) :
  Calls Tryz.prog 43 #[v, .int .i64 n, .int .i64 4] w fun e w' => ∃ v', e = .returned v' ∧ OwnB w' base v' (zs ++ fourB n) ∧ Fr.Fr w w' v v' := by
 obtain ⟨i0, hi, hz0, hz1, hz2⟩ := info_parts infoB
 have HI := Lib.hid hi; have HZ0 := Lib.hid hz0; have HZ1 := Lib.hid hz1; have HZ2 := Lib.hid hz2
 have OW := Lib.hid ho
 have n0 := hn.1
 have n1 := hn.2
 have W0 : Hid (IntKind.u8.wrap (n / 16777216) = n / 16777216 % 256) := Lib.hid (by rw [IntKind.wrap_u8])
 have W1 : Hid (IntKind.u8.wrap (n / 65536) = n / 65536 % 256) := Lib.hid (by rw [IntKind.wrap_u8])
 have W2 : Hid (IntKind.u8.wrap (n / 256) = n / 256 % 256) := Lib.hid (by rw [IntKind.wrap_u8])
 have W3 : Hid (IntKind.u8.wrap n = n % 256) := Lib.hid (by rw [IntKind.wrap_u8])
 clear hi hz0 hz1 hz2 ho hn
 go_enter Tryz.func43, Tryz.ntmps43
 go_wp2_with fail
 go_loopw [0, 7, 9] (fun b _ i wr => (i = .int .i64 0 ∧ Hid (OwnB wr base b (zs) ∧ Fr.Fr w wr v b)) ∨ (i = .int .i64 1 ∧ Hid (OwnB wr base b (zs ++ [n / 16777216 % 256]) ∧ Fr.Fr w wr v b)) ∨ (i = .int .i64 2 ∧ Hid (OwnB wr base b (zs ++ [n / 16777216 % 256, n / 65536 % 256]) ∧ Fr.Fr w wr v b)) ∨ (i = .int .i64 3 ∧ Hid (OwnB wr base b (zs ++ [n / 16777216 % 256, n / 65536 % 256, n / 256 % 256]) ∧ Fr.Fr w wr v b)) ∨ (i = .int .i64 4 ∧ Hid (OwnB wr base b (zs ++ [n / 16777216 % 256, n / 65536 % 256, n / 256 % 256, n % 256]) ∧ Fr.Fr w wr v b))) (fun _ _ i _ => 4 - (intOf i).toNat)
 case atStart => exact .inl ⟨rfl, Lib.hid ⟨OW.out, Fr.Fr.grow (Grow.G.refl _) _⟩⟩
 case round =>
  rcases hrel with ⟨rfl, OI⟩ | ⟨rfl, OI⟩ | ⟨rfl, OI⟩ | ⟨rfl, OI⟩ | ⟨rfl, OI⟩
  ·
   have SB := OI.out.2.g.size
   go_wp2_with (at_builtin; refine Fr.wpList_append_fr _ rfl _ _ 41 rfl base 5 i0 (.int .u8 0) 1 1 Tryz.underlying41 HI.out HZ0.out HZ1.out HZ2.out rfl (by decide) _ _ _ rfl (own_later OI.out.1 ?_) _ 1 1 [_] rfl rfl (news_new _ [_] _ _ ?_) ?_ ?_ ?_ ?_ ?_)
   ·
    (repeat (first | with_reducible exact Grow.G.refl _ | with_reducible exact Below.refl _ _ | with_reducible refine Grow.G.alloc ?_ _ | with_reducible refine Grow.G.trans ?_ hb1 | ((with_reducible refine Below.setCell ?_ ?_ _); rotate_left; (focus (first | omega | (simp; done) | (simp; omega)))) | with_reducible assumption | with_reducible refine Grow.G.trans ?_ (by with_reducible assumption)))
   ·
    first | rfl | (simp; done)
   ·
    exact one1 rfl
   ·
    unfold maxLen; (try simp); omega
   ·
    (try simp); omega
   ·
    simp; omega
   ·
    intro v' w1 hown hgr
    have HO := Lib.hid hown
    have HB := Lib.hid (Fr.Fr.trans OI.out.2 (Fr.Fr.trans (Fr.Fr.grow (show Grow.G wr _ by (repeat (first | with_reducible exact Grow.G.refl _ | with_reducible exact Below.refl _ _ | with_reducible refine Grow.G.alloc ?_ _ | with_reducible refine Grow.G.trans ?_ hb1 | ((with_reducible refine Below.setCell ?_ ?_ _); rotate_left; (focus (first | omega | (simp; done) | (simp; omega)))) | with_reducible assumption | with_reducible refine Grow.G.trans ?_ (by with_reducible assumption)))) u0) hgr))
    clear hown hgr
    go_wp2_with fail
    go_roundw
    case rel => exact .inr (.inl ⟨rfl, Lib.hid ⟨own_fin (zs := zs ++ [n / 16777216 % 256]) HO.out (by (try simp)) (by simp [W0.out, W1.out, W2.out, W3.out] <;> omega) (Nat.le_refl _) rfl, HB.out⟩⟩)
    case measure => simp [intOf]
  ·
   have SB := OI.out.2.g.size
   go_wp2_with (at_builtin; refine Fr.wpList_append_fr _ rfl _ _ 41 rfl base 5 i0 (.int .u8 0) 1 1 Tryz.underlying41 HI.out HZ0.out HZ1.out HZ2.out rfl (by decide) _ _ _ rfl (own_later OI.out.1 ?_) _ 1 1 [_] rfl rfl (news_new _ [_] _ _ ?_) ?_ ?_ ?_ ?_ ?_)
   ·
    (repeat (first | with_reducible exact Grow.G.refl _ | with_reducible exact Below.refl _ _ | with_reducible refine Grow.G.alloc ?_ _ | with_reducible refine Grow.G.trans ?_ hb1 | ((with_reducible refine Below.setCell ?_ ?_ _); rotate_left; (focus (first | omega | (simp; done) | (simp; omega)))) | with_reducible assumption | with_reducible refine Grow.G.trans ?_ (by with_reducible assumption)))
   ·
    first | rfl | (simp; done)
   ·
    exact one1 rfl
   ·
    unfold maxLen; (try simp); omega
   ·
    (try simp); omega
   ·
    simp; omega
   ·
    intro v' w1 hown hgr
    have HO := Lib.hid hown
    have HB := Lib.hid (Fr.Fr.trans OI.out.2 (Fr.Fr.trans (Fr.Fr.grow (show Grow.G wr _ by (repeat (first | with_reducible exact Grow.G.refl _ | with_reducible exact Below.refl _ _ | with_reducible refine Grow.G.alloc ?_ _ | with_reducible refine Grow.G.trans ?_ hb1 | ((with_reducible refine Below.setCell ?_ ?_ _); rotate_left; (focus (first | omega | (simp; done) | (simp; omega)))) | with_reducible assumption | with_reducible refine Grow.G.trans ?_ (by with_reducible assumption)))) u0) hgr))
    clear hown hgr
    go_wp2_with fail
    go_roundw
    case rel => exact .inr (.inr (.inl ⟨rfl, Lib.hid ⟨own_fin (zs := zs ++ [n / 16777216 % 256, n / 65536 % 256]) HO.out (by (try simp)) (by simp [W0.out, W1.out, W2.out, W3.out]) (Nat.le_refl _) rfl, HB.out⟩⟩))
    case measure => simp [intOf]
  ·
   have SB := OI.out.2.g.size
   go_wp2_with (at_builtin; refine Fr.wpList_append_fr _ rfl _ _ 41 rfl base 5 i0 (.int .u8 0) 1 1 Tryz.underlying41 HI.out HZ0.out HZ1.out HZ2.out rfl (by decide) _ _ _ rfl (own_later OI.out.1 ?_) _ 1 1 [_] rfl rfl (news_new _ [_] _ _ ?_) ?_ ?_ ?_ ?_ ?_)
   ·
    (repeat (first | with_reducible exact Grow.G.refl _ | with_reducible exact Below.refl _ _ | with_reducible refine Grow.G.alloc ?_ _ | with_reducible refine Grow.G.trans ?_ hb1 | ((with_reducible refine Below.setCell ?_ ?_ _); rotate_left; (focus (first | omega | (simp; done) | (simp; omega)))) | with_reducible assumption | with_reducible refine Grow.G.trans ?_ (by with_reducible assumption)))
   ·
    first | rfl | (simp; done)
   ·
    exact one1 rfl
   ·
    unfold maxLen; (try simp); omega
   ·
    (try simp); omega
   ·
    simp; omega
   ·
    intro v' w1 hown hgr
    have HO := Lib.hid hown
    have HB := Lib.hid (Fr.Fr.trans OI.out.2 (Fr.Fr.trans (Fr.Fr.grow (show Grow.G wr _ by (repeat (first | with_reducible exact Grow.G.refl _ | with_reducible exact Below.refl _ _ | with_reducible refine Grow.G.alloc ?_ _ | with_reducible refine Grow.G.trans ?_ hb1 | ((with_reducible refine Below.setCell ?_ ?_ _); rotate_left; (focus (first | omega | (simp; done) | (simp; omega)))) | with_reducible assumption | with_reducible refine Grow.G.trans ?_ (by with_reducible assumption)))) u0) hgr))
    clear hown hgr
    go_wp2_with fail
    go_roundw
    case rel => exact .inr (.inr (.inr (.inl ⟨rfl, Lib.hid ⟨own_fin (zs := zs ++ [n / 16777216 % 256, n / 65536 % 256, n / 256 % 256]) HO.out (by (try simp)) (by simp [W0.out, W1.out, W2.out, W3.out]) (Nat.le_refl _) rfl, HB.out⟩⟩)))
    case measure => simp [intOf]
  ·
   have SB := OI.out.2.g.size
   go_wp2_with (at_builtin; refine Fr.wpList_append_fr _ rfl _ _ 41 rfl base 5 i0 (.int .u8 0) 1 1 Tryz.underlying41 HI.out HZ0.out HZ1.out HZ2.out rfl (by decide) _ _ _ rfl (own_later OI.out.1 ?_) _ 1 1 [_] rfl rfl (news_new _ [_] _ _ ?_) ?_ ?_ ?_ ?_ ?_)
   ·
    (repeat (first | with_reducible exact Grow.G.refl _ | with_reducible exact Below.refl _ _ | with_reducible refine Grow.G.alloc ?_ _ | with_reducible refine Grow.G.trans ?_ hb1 | ((with_reducible refine Below.setCell ?_ ?_ _); rotate_left; (focus (first | omega | (simp; done) | (simp; omega)))) | with_reducible assumption | with_reducible refine Grow.G.trans ?_ (by with_reducible assumption)))
   ·
    first | rfl | (simp; done)
   ·
    exact one1 rfl
   ·
    unfold maxLen; (try simp); omega
   ·
    (try simp); omega
   ·
    simp; omega
   ·
    intro v' w1 hown hgr
    have HO := Lib.hid hown
    have HB := Lib.hid (Fr.Fr.trans OI.out.2 (Fr.Fr.trans (Fr.Fr.grow (show Grow.G wr _ by (repeat (first | with_reducible exact Grow.G.refl _ | with_reducible exact Below.refl _ _ | with_reducible refine Grow.G.alloc ?_ _ | with_reducible refine Grow.G.trans ?_ hb1 | ((with_reducible refine Below.setCell ?_ ?_ _); rotate_left; (focus (first | omega | (simp; done) | (simp; omega)))) | with_reducible assumption | with_reducible refine Grow.G.trans ?_ (by with_reducible assumption)))) u0) hgr))
    clear hown hgr
    go_wp2_with fail
    go_roundw
    case rel => exact .inr (.inr (.inr (.inr (⟨rfl, Lib.hid ⟨own_fin (zs := zs ++ [n / 16777216 % 256, n / 65536 % 256, n / 256 % 256, n % 256]) HO.out (by (try simp)) (by simp [W0.out, W1.out, W2.out, W3.out]) (Nat.le_refl _) rfl, HB.out⟩⟩))))
    case measure => simp [intOf]
  ·
   go_wp2_with fail
   go_ret
   exact ⟨_, rfl, OI.out.1, OI.out.2⟩

/-- The row's block, and all that is new. -/
def RowG (v : Value) (N : Nat) (k : Nat) : Prop := v.ownBlock = some k ∨ N ≤ k
def RowIn (v : Value) (N : Nat) (u : Value) : Prop := ∀ k, u.ownBlock = some k → RowG v N k
theorem RowIn.refl (v : Value) (N : Nat) : RowIn v N v := fun k h => .inl h
theorem fr_chg {a b : World} {u u' v : Value} {N : Nat} (h : Fr.Fr a b u u') (hu : RowIn v N u) : Chg (RowG v N) a b := (Chg.ofFr h).mono fun i _ hi => hu i hi
theorem fr_in {a b : World} {u u' v : Value} {N : Nat} (h : Fr.Fr a b u u') (hu : RowIn v N u) (hN : N ≤ a.heap.size) : RowIn v N u' := fun k hk => by
 rcases h.o with h' | ⟨g, h', hg⟩
 ·
  exact hu k (h' ▸ hk)
 ·
  rw [h'] at hk; cases hk; exact .inr (by omega)
theorem own_blk {w : World} {base : Nat} {v : Value} {zs : List Int} (h : OwnB w base v zs) (hz : 1 ≤ zs.length) : ∃ g, v.ownBlock = some g ∧ base ≤ g := by
 obtain ⟨b, c, rfl, hb⟩ := own_some h hz
 exact ⟨b, rfl, hb⟩
theorem fr_of {w w' : World} {v v' : Value} {N base : Nat} {zs : List Int} (h : Chg (RowG v N) w w') (hv : RowIn v N v') (hN : w.heap.size ≤ N) (ho : OwnB w' base v' zs) (hz : 1 ≤ zs.length) : Fr.Fr w w' v v' := by
 refine ⟨⟨h.os, h.tape, h.output, h.size, fun k hk hn => h.block k hk fun e => ?_⟩, ?_⟩
 ·
  rcases e with e | e
  ·
   exact hn e.symm
  ·
   omega
 ·
  obtain ⟨g, hg, _⟩ := own_blk ho hz
  rcases hv g hg with e | e
  ·
   exact .inl (hg.trans e.symm)
  ·
   exact .inr ⟨g, hg, by omega⟩
theorem row_below {w w' : World} {base N : Nat} {v : Value} {zs : List Int} (ho : OwnB w base v zs) (h : Chg (RowG v N) w w') (hb : base ≤ w.heap.size) (hN : w.heap.size ≤ N) : Below base w w' :=
 h.below hb fun k hk e => by
  rcases e with e | e
  ·
   have := (ho.lt k e).1; omega
  ·
   omega
theorem not_row {w : World} {base N k : Nat} {v : Value} {zs : List Int} (ho : OwnB w base v zs) (hk : w.heap.size ≤ k) (hN : k < N) : ¬ RowG v N k := fun e => by
 rcases e with e | e
 ·
  have := (ho.lt k e).2; omega
 ·
  omega

set_option maxHeartbeats 1000000 in
theorem ptxt_any (base : Nat) (v : Value) (zs : List Int) (s : ByteArray) (w : World) (ho : OwnB w base v zs) (hb : base ≤ w.heap.size) (hz : zs.length ≤ 90000) (hs : s.size ≤ 255) :
  Calls Tryz.prog 110 #[v, .string s] w fun e w' => ∃ v', e = .returned v' ∧ OwnB w' base v' (zs ++ txtB s) ∧ Fr.Fr w w' v v' := by
 obtain ⟨i0, hi, hz0, hz1, hz2⟩ := info_parts infoB
 have HI := Lib.hid hi; have HZ0 := Lib.hid hz0; have HZ1 := Lib.hid hz1; have HZ2 := Lib.hid hz2
 have PB := Lib.hid (put1_any base v zs s.size w ho hb (by omega) (by omega))
 clear hi hz0 hz1 hz2 ho
 go_enter Tryz.func110, Tryz.ntmps110
 go_wp2_with fail
 refine PB.out.mono ?_
 rintro e w1 ⟨v1, rfl, O1, F1⟩
 have HO := Lib.hid O1
 have HB := Lib.hid F1
 have s1 := F1.g.size
 clear O1 F1 PB
 go_wp2_with (at_builtin; refine Fr.wpList_append_string_fr _ rfl _ _ 41 9 rfl base 5 i0 Tryz.underlying41 Tryz.underlying9 HI.out HZ0.out HZ1.out HZ2.out _ _ _ rfl HO.out s rfl ?_ ?_ ?_ ?_)
 ·
  simp [oneB]; unfold maxLen; omega
 ·
  simp [oneB]; omega
 ·
  omega
 ·
  intro v2 w2 hown2 hgr2
  go_wp2_with fail
  go_ret
  refine ⟨_, rfl, ?_, Fr.Fr.trans HB.out hgr2⟩
  exact own_fin (zs := zs ++ oneB s.size ++ Lib.numsOf s) hown2 (by simp [numsOf_len]; omega) (by simp [strCells_nums]) (Nat.le_refl _) (by simp [txtB])
theorem rowlen (zs ys : List Int) : (zs ++ ys).length = zs.length + ys.length := List.length_append
theorem txtB_len (s : ByteArray) : (txtB s).length = s.size + 1 := by unfold txtB oneB; simp only [List.length_append, List.length_singleton, numsOf_len]; omega
theorem oneB_len (n : Int) : (oneB n).length = 1 := rfl
set_option maxHeartbeats 2000000 in
theorem pcfg_any (base : Nat) (v : Value) (zs : List Int) (c : Cfg) (w : World) (ho : OwnB w base v zs) (hb : base ≤ w.heap.size) (hz : zs.length ≤ 80000) (hs : c.nm.size ≤ 255)
  (h1 : 0 ≤ c.im ∧ c.im < 256) (h2 : 0 ≤ c.co ∧ c.co < 256) (h3 : 0 ≤ c.mn ∧ c.mn < 256) (h4 : 0 ≤ c.mx ∧ c.mx < 256) (h5 : 0 ≤ c.gr ∧ c.gr < 256) :
  Calls Tryz.prog 91 #[v, .agg #[.string c.nm, .int .i64 c.im, .int .i64 c.co, .int .i64 c.mn, .int .i64 c.mx, .int .i64 c.gr]] w fun e w' => ∃ v', e = .returned v' ∧ OwnB w' base v' (zs ++ cfgB' c) ∧ Fr.Fr w w' v v' := by
 obtain ⟨nm, im, co, mn, mx, gr⟩ := c
 dsimp only at *
 have H := Lib.hid (And.intro h1 (And.intro h2 (And.intro h3 (And.intro h4 h5))))
 have OW := Lib.hid ho
 clear h1 h2 h3 h4 h5 ho
 go_enter Tryz.func91, Tryz.ntmps91
 go_wp2_with fail
 refine (ptxt_any base v zs nm _ (own_later OW.out (by (repeat (first | with_reducible exact Grow.G.refl _ | with_reducible exact Below.refl _ _ | with_reducible refine Grow.G.alloc ?_ _ | with_reducible refine Grow.G.trans ?_ hb1 | ((with_reducible refine Below.setCell ?_ ?_ _); rotate_left; (focus (first | omega | (simp; done) | (simp; omega)))) | with_reducible assumption | with_reducible refine Grow.G.trans ?_ (by with_reducible assumption))))) (by simp; omega) (by omega) hs).mono ?_
 rintro e w1 ⟨v1, rfl, O1, F1⟩
 have B1 : Blk w1 w.heap.size #[.string nm, .int .i64 im, .int .i64 co, .int .i64 mn, .int .i64 mx, .int .i64 gr] 23 := (F1.keep (by simp) (Fr.own_ne OW.out)).1.trans (Blk.new w _ _)
 have q1 := B1.cell 1; have q2 := B1.cell 2; have q3 := B1.cell 3; have q4 := B1.cell 4; have q5 := B1.cell 5
 simp at q1 q2 q3 q4 q5
 have F0 := Lib.hid (Fr.Fr.trans (Fr.Fr.grow (show Grow.G w _ by (repeat (first | with_reducible exact Grow.G.refl _ | with_reducible exact Below.refl _ _ | with_reducible refine Grow.G.alloc ?_ _ | with_reducible refine Grow.G.trans ?_ hb1 | ((with_reducible refine Below.setCell ?_ ?_ _); rotate_left; (focus (first | omega | (simp; done) | (simp; omega)))) | with_reducible assumption | with_reducible refine Grow.G.trans ?_ (by with_reducible assumption)))) v) F1)
 have O0 := Lib.hid O1
 clear O1 F1 B1
 go_wp2_with fail
 clear q1 q2 q3 q4 q5
 go_loopw [0, 6, 22] (fun b _ i wr => (i = .int .i64 0 ∧ Hid (OwnB wr base b (zs ++ txtB nm) ∧ Fr.Fr w wr v b)) ∨ (i = .int .i64 1 ∧ Hid (OwnB wr base b (zs ++ txtB nm ++ oneB im) ∧ Fr.Fr w wr v b)) ∨ (i = .int .i64 2 ∧ Hid (OwnB wr base b (zs ++ txtB nm ++ oneB im ++ oneB co) ∧ Fr.Fr w wr v b)) ∨ (i = .int .i64 3 ∧ Hid (OwnB wr base b (zs ++ txtB nm ++ oneB im ++ oneB co ++ oneB mn) ∧ Fr.Fr w wr v b)) ∨ (i = .int .i64 4 ∧ Hid (OwnB wr base b (zs ++ txtB nm ++ oneB im ++ oneB co ++ oneB mn ++ oneB mx) ∧ Fr.Fr w wr v b)) ∨ (i = .int .i64 5 ∧ Hid (OwnB wr base b (zs ++ txtB nm ++ oneB im ++ oneB co ++ oneB mn ++ oneB mx ++ oneB gr) ∧ Fr.Fr w wr v b))) (fun _ _ i _ => 5 - (intOf i).toNat)
 case atStart => exact .inl ⟨rfl, Lib.hid ⟨O0.out, F0.out⟩⟩
 case round =>
  rcases hrel with ⟨rfl, OI⟩ | ⟨rfl, OI⟩ | ⟨rfl, OI⟩ | ⟨rfl, OI⟩ | ⟨rfl, OI⟩ | ⟨rfl, OI⟩
  ·
   have ix : ∀ w, (Instr.index 151 (.agg #[.int .i64 im, .int .i64 co, .int .i64 mn, .int .i64 mx, .int .i64 gr]) (.int .i64 0)).run Tryz.prog w = .ok (.int .i64 im) w := fun _ => by kernel_rfl
   go_wp2_with fail
   clear ix
   refine (put1_any base u0 (zs ++ txtB nm) im _ OI.out.1 (Nat.le_trans hb OI.out.2.g.size) (by simp only [rowlen, txtB_len, oneB_len]; omega) H.out.1).mono ?_
   rintro e w2 ⟨v2, rfl, O2, F2⟩
   have HO := Lib.hid (And.intro O2 (Fr.Fr.trans OI.out.2 F2))
   clear O2 F2
   go_wp2_with fail
   go_roundw
   case rel => exact .inr (.inl ⟨rfl, HO⟩)
   case measure => simp [intOf]
  ·
   have ix : ∀ w, (Instr.index 151 (.agg #[.int .i64 im, .int .i64 co, .int .i64 mn, .int .i64 mx, .int .i64 gr]) (.int .i64 1)).run Tryz.prog w = .ok (.int .i64 co) w := fun _ => by kernel_rfl
   go_wp2_with fail
   clear ix
   refine (put1_any base u0 (zs ++ txtB nm ++ oneB im) co _ OI.out.1 (Nat.le_trans hb OI.out.2.g.size) (by simp only [rowlen, txtB_len, oneB_len]; omega) H.out.2.1).mono ?_
   rintro e w2 ⟨v2, rfl, O2, F2⟩
   have HO := Lib.hid (And.intro O2 (Fr.Fr.trans OI.out.2 F2))
   clear O2 F2
   go_wp2_with fail
   go_roundw
   case rel => exact .inr (.inr (.inl ⟨rfl, HO⟩))
   case measure => simp [intOf]
  ·
   have ix : ∀ w, (Instr.index 151 (.agg #[.int .i64 im, .int .i64 co, .int .i64 mn, .int .i64 mx, .int .i64 gr]) (.int .i64 2)).run Tryz.prog w = .ok (.int .i64 mn) w := fun _ => by kernel_rfl
   go_wp2_with fail
   clear ix
   refine (put1_any base u0 (zs ++ txtB nm ++ oneB im ++ oneB co) mn _ OI.out.1 (Nat.le_trans hb OI.out.2.g.size) (by simp only [rowlen, txtB_len, oneB_len]; omega) H.out.2.2.1).mono ?_
   rintro e w2 ⟨v2, rfl, O2, F2⟩
   have HO := Lib.hid (And.intro O2 (Fr.Fr.trans OI.out.2 F2))
   clear O2 F2
   go_wp2_with fail
   go_roundw
   case rel => exact .inr (.inr (.inr (.inl ⟨rfl, HO⟩)))
   case measure => simp [intOf]
  ·
   have ix : ∀ w, (Instr.index 151 (.agg #[.int .i64 im, .int .i64 co, .int .i64 mn, .int .i64 mx, .int .i64 gr]) (.int .i64 3)).run Tryz.prog w = .ok (.int .i64 mx) w := fun _ => by kernel_rfl
   go_wp2_with fail
   clear ix
   refine (put1_any base u0 (zs ++ txtB nm ++ oneB im ++ oneB co ++ oneB mn) mx _ OI.out.1 (Nat.le_trans hb OI.out.2.g.size) (by simp only [rowlen, txtB_len, oneB_len]; omega) H.out.2.2.2.1).mono ?_
   rintro e w2 ⟨v2, rfl, O2, F2⟩
   have HO := Lib.hid (And.intro O2 (Fr.Fr.trans OI.out.2 F2))
   clear O2 F2
   go_wp2_with fail
   go_roundw
   case rel => exact .inr (.inr (.inr (.inr (.inl ⟨rfl, HO⟩))))
   case measure => simp [intOf]
  ·
   have ix : ∀ w, (Instr.index 151 (.agg #[.int .i64 im, .int .i64 co, .int .i64 mn, .int .i64 mx, .int .i64 gr]) (.int .i64 4)).run Tryz.prog w = .ok (.int .i64 gr) w := fun _ => by kernel_rfl
   go_wp2_with fail
   clear ix
   refine (put1_any base u0 (zs ++ txtB nm ++ oneB im ++ oneB co ++ oneB mn ++ oneB mx) gr _ OI.out.1 (Nat.le_trans hb OI.out.2.g.size) (by simp only [rowlen, txtB_len, oneB_len]; omega) H.out.2.2.2.2).mono ?_
   rintro e w2 ⟨v2, rfl, O2, F2⟩
   have HO := Lib.hid (And.intro O2 (Fr.Fr.trans OI.out.2 F2))
   clear O2 F2
   go_wp2_with fail
   go_roundw
   case rel => exact .inr (.inr (.inr (.inr (.inr (⟨rfl, HO⟩)))))
   case measure => simp [intOf]
  ·
   go_wp2_with fail
   go_ret
   refine ⟨_, rfl, ?_, OI.out.2⟩
   have h2 : OwnB wr base u0 (zs ++ cfgB' ⟨nm, im, co, mn, mx, gr⟩) := by
    have := OI.out.1
    unfold cfgB'
    simpa only [List.append_assoc] using this
   exact h2

theorem evc {w : World} {g : Nat} {cs : Array Value} {T : TypeId} (h : Blk w g cs T) {i : Nat} {v : Value} (hv : cs[i]? = some v) : w.cell? ⟨g, i, none⟩ = some v := (h.cell i).trans hv
set_option maxHeartbeats 4000000 in
theorem prt_any (base : Nat) (v : Value) (zs : List Int) (rn rc : ByteArray) (a : Option Addr) (ts : List Tgt) (c : Nat) (rr : Int) (w : World) (ho : OwnB w base v zs) (hb : base ≤ w.heap.size) (hz : zs.length ≤ 1000) (hn : rn.size ≤ 255) (hc : rc.size ≤ 255) (hr : 0 ≤ rr ∧ rr < 256)
  (hl : ts.length ≤ 6) (ht : ∀ w', Below base w w' → TgtSl w' a ts) (hk : ∀ i, i < ts.length → tgtOk (ts.getD i tg0)) :
  Calls Tryz.prog 98 #[v, .agg #[.string rn, .string rc, .slice a ts.length c, .int .i64 rr]] w fun e w' => ∃ v', e = .returned v' ∧ OwnB w' base v' (zs ++ rtB rn rc rr ts) ∧ Fr.Fr w w' v v' := by
 have OW := Lib.hid ho
 have HT := Lib.hid ht
 have HK := Lib.hid hk
 have r0 := hr.1
 have r1 := hr.2
 clear ht hk ho hr
 go_enter Tryz.func98, Tryz.ntmps98
 go_wp2_with fail
 obtain ⟨W0, hW⟩ : ∃ W0, W0 = w.alloc (.cells #[.string rn, .string rc, .slice a ts.length c, .int .i64 rr] 26) := ⟨_, rfl⟩
 rw [← hW]
 have hs0 : W0.heap.size = w.heap.size + 1 := by rw [hW]; simp
 have B0 : Blk W0 w.heap.size #[.string rn, .string rc, .slice a ts.length c, .int .i64 rr] 26 := by rw [hW]; exact Blk.new w _ _
 have G0 : Grow.G w W0 := by rw [hW]; exact Grow.G.alloc (Grow.G.refl _) _
 have OB : Hid (OwnB W0 base v zs) := Lib.hid (own_later OW.out G0)
 have NR : Hid (¬ RowG v (w.heap.size + 1) w.heap.size) := Lib.hid (not_row OW.out (Nat.le_refl _) (Nat.lt_succ_self _))
 have HBL : Hid (∀ w', Chg (RowG v (w.heap.size + 1)) W0 w' → Below base w w') := Lib.hid (fun w' h => row_below OW.out (Chg.trans (Chg.grow G0) h) hb (Nat.le_succ _))
 have hb0 : base ≤ W0.heap.size := by omega
 have KC := Lib.hid (fun (w' : World) (h : Chg (RowG v (w.heap.size + 1)) W0 w') => (⟨h.cell (evc B0 (i := 0) rfl) NR.out, h.cell (evc B0 (i := 1) rfl) NR.out, h.cell (evc B0 (i := 2) rfl) NR.out, h.cell (evc B0 (i := 3) rfl) NR.out⟩ : w'.cell? ⟨w.heap.size, 0, none⟩ = some (.string rn) ∧ w'.cell? ⟨w.heap.size, 1, none⟩ = some (.string rc) ∧ w'.cell? ⟨w.heap.size, 2, none⟩ = some (.slice a ts.length c) ∧ w'.cell? ⟨w.heap.size, 3, none⟩ = some (.int .i64 rr)))
 have RI0 : Hid (RowIn v (w.heap.size + 1) v) := Lib.hid (RowIn.refl _ _)
 clear hW B0
 refine Evo2.start' (ℓ := none) (S := Chg (RowG v (w.heap.size + 1))) (E := Grow.G) (by kernel_rfl) ⟨Chg.pre _, by decide +kernel, (by intro c a d v w h; cases d <;> exact h), by decide +kernel⟩ (fun ok => ?_)
 refine Evo2.va ok 0 _ _ ?_
 refine Evo2.va ok 1 _ _ ?_
 first | (refine Evo2.vl ok 2 KC.out (Chg.refl (RowG v (w.heap.size + 1)) _) _ _ ?_) | (refine Evo2.va ok 2 _ _ ?_)
 refine Evo2.va ok 4 _ _ ?_
 first | (refine Evo2.vl ok 5 KC.out (Chg.refl (RowG v (w.heap.size + 1)) _) _ _ ?_) | (refine Evo2.va ok 5 _ _ ?_)
 refine Evo2.all [3] (by decide +kernel) rfl ?_
 intro wp1 gp1 iq hq
 simp only [List.mem_cons, List.mem_nil_iff, or_false] at hq
 have AP1 := Chg.trans (Chg.refl (RowG v (w.heap.size + 1)) _) (Chg.grow gp1)
 subst hq
 refine Evo2.enters 110 _ (by rfl) (by rfl) (by go_simp; exact ⟨rfl, rfl⟩) ?_
 refine (ptxt_any base v zs rn _ (own_later OB.out gp1) (Nat.le_trans hb0 gp1.size) (by omega) hn).mono ?_
 rintro e wc1 ⟨v1, rfl, O1, F1⟩; have CH1 := fr_chg F1 RI0.out; have R1 := fr_in F1 RI0.out (by have := gp1.size; omega); have S1 := F1.g.size
 refine ⟨_, rfl, .inr CH1, ?_⟩
 have AC1 := Chg.trans AP1 CH1
 simp only [Act.put, L0, L1, L2]
 refine Evo2.all [6] (by decide +kernel) rfl ?_
 intro wp2 gp2 iq hq
 simp only [List.mem_cons, List.mem_nil_iff, or_false] at hq
 have AP2 := Chg.trans AC1 (Chg.grow gp2)
 subst hq
 refine Evo2.enters 110 _ (by rfl) (by rfl) (by go_simp; exact ⟨rfl, rfl⟩) ?_
 refine (ptxt_any base v1 (zs ++ txtB rn) rc _ (own_later O1 gp2) (Nat.le_trans hb0 AP2.size) (by simp only [rowlen, txtB_len]; omega) hc).mono ?_
 rintro e wc2 ⟨v2, rfl, O2, F2⟩; have CH2 := fr_chg F2 R1; have R2 := fr_in F2 R1 (by have := AP2.size; omega)
 refine ⟨_, rfl, .inr CH2, ?_⟩
 have AC2 := Chg.trans AP2 CH2
 simp only [Act.put, L0, L1, L2]
 refine Evo2.va ok 7 _ _ ?_
 refine Evo2.done (by decide +kernel) (fun wz gz => ?_)
 have AZ := Chg.trans AC2 (Chg.grow gz)
 have OZ := Lib.hid (own_later O2 gz)
 have A1 := Lib.hid AZ
 have RI1 := Lib.hid R2
 have KC1 := Lib.hid (fun (w' : World) (h : Chg (RowG v (w.heap.size + 1)) wz w') => (KC.out w' (Chg.trans A1.out h) : w'.cell? ⟨w.heap.size, 0, none⟩ = some (.string rn) ∧ w'.cell? ⟨w.heap.size, 1, none⟩ = some (.string rc) ∧ w'.cell? ⟨w.heap.size, 2, none⟩ = some (.slice a ts.length c) ∧ w'.cell? ⟨w.heap.size, 3, none⟩ = some (.int .i64 rr)))
 have sz := A1.out.size
 clear AZ O1 O2 R1 R2 F1 F2 CH1 CH2 AP1 AP2 AC1 AC2 gp1 gp2 ok
 go_wp2_with fail
 have LB : Hid (0 ≤ (ts.length : Int) ∧ (ts.length : Int) < 256) := Lib.hid (by omega)
 refine Evo2.start' (ℓ := none) (S := Chg (RowG v (w.heap.size + 1))) (E := Grow.G) (by kernel_rfl) ⟨Chg.pre _, by decide +kernel, (by intro c a d v w h; cases d <;> exact h), by decide +kernel⟩ (fun ok => ?_)
 refine Evo2.va ok 0 _ _ ?_
 refine Evo2.va ok 1 _ _ ?_
 first | (refine Evo2.vl ok 2 KC1.out (Chg.refl (RowG v (w.heap.size + 1)) _) _ _ ?_) | (refine Evo2.va ok 2 _ _ ?_)
 refine Evo2.va ok 4 _ _ ?_
 first | (refine Evo2.vl ok 5 KC1.out (Chg.refl (RowG v (w.heap.size + 1)) _) _ _ ?_) | (refine Evo2.va ok 5 _ _ ?_)
 refine Evo2.va ok 6 _ _ ?_
 refine Evo2.all [3] (by decide +kernel) rfl ?_
 intro wp1 gp1 iq hq
 simp only [List.mem_cons, List.mem_nil_iff, or_false] at hq
 have AP1 := Chg.trans (Chg.refl (RowG v (w.heap.size + 1)) _) (Chg.grow gp1)
 subst hq
 refine Evo2.enters 43 _ (by rfl) (by rfl) (by go_simp; exact ⟨rfl, rfl⟩) ?_
 refine (put1_any base v2 (zs ++ txtB rn ++ txtB rc) rr _ (own_later OZ.out gp1) (Nat.le_trans hb0 (Nat.le_trans sz gp1.size)) (by simp only [rowlen, txtB_len]; omega) ⟨r0, r1⟩).mono ?_
 rintro e wc1 ⟨v3, rfl, O1, F1⟩; have CH1 := fr_chg F1 RI1.out; have R1 := fr_in F1 RI1.out (by have := gp1.size; omega)
 refine ⟨_, rfl, .inr CH1, ?_⟩
 have AC1 := Chg.trans AP1 CH1
 simp only [Act.put, L0, L1, L2]
 refine Evo2.all [7] (by decide +kernel) rfl ?_
 intro wp2 gp2 iq hq
 simp only [List.mem_cons, List.mem_nil_iff, or_false] at hq
 have AP2 := Chg.trans AC1 (Chg.grow gp2)
 subst hq
 refine Evo2.enters 43 _ (by rfl) (by rfl) (by go_simp; exact ⟨rfl, rfl⟩) ?_
 refine (put1_any base v3 (zs ++ txtB rn ++ txtB rc ++ oneB rr) ts.length _ (own_later O1 gp2) (Nat.le_trans hb0 (Nat.le_trans sz AP2.size)) (by simp only [rowlen, txtB_len, oneB_len]; omega) LB.out).mono ?_
 rintro e wc2 ⟨v4, rfl, O2, F2⟩; have CH2 := fr_chg F2 R1; have R2 := fr_in F2 R1 (by have := AP2.size; omega)
 refine ⟨_, rfl, .inr CH2, ?_⟩
 have AC2 := Chg.trans AP2 CH2
 simp only [Act.put, L0, L1, L2]
 refine Evo2.va ok 8 _ _ ?_
 refine Evo2.done (by decide +kernel) (fun wz gz => ?_)
 have AZ := Chg.trans AC2 (Chg.grow gz)
 have OZ2 : Hid (OwnB wz base v4 (zs ++ txtB rn ++ txtB rc ++ oneB rr ++ oneB ts.length)) := Lib.hid (own_later O2 gz)
 have A2 := Lib.hid (Chg.trans A1.out AZ)
 have RI2 := Lib.hid R2
 clear AZ O1 O2 R1 R2 F1 F2 CH1 CH2 AP1 AP2 AC1 AC2 gp1 gp2 ok gz KC1 A1 RI1 OZ
 obtain ⟨q1, q2, q3, q4⟩ := KC.out wz A2.out
 go_wp2_with fail
 clear q1 q2 q3 q4
 have PL : Hid ((zs ++ txtB rn ++ txtB rc ++ oneB rr ++ oneB ts.length).length ≤ 2000) := Lib.hid (by simp only [rowlen, txtB_len, oneB_len]; omega)
 go_loopw [0, 6, 25] (fun b _ ii wr => ∃ i : Nat, i ≤ ts.length ∧ ii = .int .i64 i ∧ Hid (OwnB wr base b ((zs ++ txtB rn ++ txtB rc ++ oneB rr ++ oneB ts.length) ++ tgtsB (ts.take i)) ∧ Chg (RowG v (w.heap.size + 1)) W0 wr ∧ RowIn v (w.heap.size + 1) b)) (fun _ _ ii _ => ts.length - (intOf ii).toNat)
 case atStart => exact ⟨0, by omega, rfl, Lib.hid ⟨by have := OZ2.out; rw [show tgtsB (ts.take 0) = [] from rfl, List.append_nil]; exact this, A2.out, RI2.out⟩⟩
 case round =>
  obtain ⟨i, hi, rfl, OI⟩ := hrel
  by_cases hlt : i < ts.length
  ·
   obtain ⟨b, off, rfl, hat⟩ := (HT.out wr (HBL.out wr OI.out.2.1)).at hlt
   have SN := Lib.hid (tgtsB_snoc ts i hlt)
   have TO := HK.out i hlt
   have TL := tgtsB_len (ts.take i) (fun t ht => by
    obtain ⟨j, hj, rfl⟩ := List.getElem_of_mem ht
    have hj' : j < ts.length := by simp at hj; omega
    have := HK.out j hj'
    simpa [List.getD, hj'] using this)
   rw [List.length_take] at TL
   generalize ts.getD i tg0 = t at *
   obtain ⟨rv, tgx, pc⟩ := t
   obtain ⟨t1, t2, t3, t4⟩ := TO
   have ⟨c0, c1, c2⟩ := hat
   simp only at c0 c1 c2 t1 t2 t3 t4
   have TL6 : (tgtsB (ts.take i)).length ≤ 3600 := by omega
   have sr := OI.out.2.1.size
   clear hat TL
   go_wp2_with fail
   obtain ⟨W1, hW1⟩ : ∃ W1, W1 = wr.alloc (.cells #[.string rv, .string tgx, .int .i64 pc] 39) := ⟨_, rfl⟩
   rw [← hW1]
   have hs1 : W1.heap.size = wr.heap.size + 1 := by rw [hW1]; simp
   have B1 : Blk W1 wr.heap.size #[.string rv, .string tgx, .int .i64 pc] 39 := by rw [hW1]; exact Blk.new wr _ _
   have G1 : Grow.G wr W1 := by rw [hW1]; exact Grow.G.alloc (Grow.G.refl _) _
   have O1' : Hid (OwnB W1 base u0 ((zs ++ txtB rn ++ txtB rc ++ oneB rr ++ oneB ts.length) ++ tgtsB (ts.take i))) := Lib.hid (own_later OI.out.1 G1)
   have NR1 : Hid (¬ RowG u0 (wr.heap.size + 1) wr.heap.size) := Lib.hid (not_row OI.out.1 (Nat.le_refl _) (Nat.lt_succ_self _))
   have KT := Lib.hid (fun (w' : World) (h : Chg (RowG u0 (wr.heap.size + 1)) W1 w') => (⟨h.cell (evc B1 (i := 0) rfl) NR1.out, h.cell (evc B1 (i := 1) rfl) NR1.out, h.cell (evc B1 (i := 2) rfl) NR1.out⟩ : w'.cell? ⟨wr.heap.size, 0, none⟩ = some (.string rv) ∧ w'.cell? ⟨wr.heap.size, 1, none⟩ = some (.string tgx) ∧ w'.cell? ⟨wr.heap.size, 2, none⟩ = some (.int .i64 pc)))
   have hb1 : base ≤ W1.heap.size := by omega
   have RJ : Hid (RowIn u0 (wr.heap.size + 1) u0) := Lib.hid (RowIn.refl _ _)
   clear hW1 B1 c0 c1 c2
   refine Evo2.start' (ℓ := none) (S := Chg (RowG u0 (wr.heap.size + 1))) (E := Grow.G) (by kernel_rfl) ⟨Chg.pre _, by decide +kernel, (by intro c a d v w h; cases d <;> exact h), by decide +kernel⟩ (fun ok => ?_)
   refine Evo2.va ok 0 _ _ ?_
   refine Evo2.va ok 1 _ _ ?_
   first | (refine Evo2.vl ok 2 KT.out (Chg.refl (RowG u0 (wr.heap.size + 1)) _) _ _ ?_) | (refine Evo2.va ok 2 _ _ ?_)
   refine Evo2.va ok 4 _ _ ?_
   first | (refine Evo2.vl ok 5 KT.out (Chg.refl (RowG u0 (wr.heap.size + 1)) _) _ _ ?_) | (refine Evo2.va ok 5 _ _ ?_)
   refine Evo2.va ok 7 _ _ ?_
   first | (refine Evo2.vl ok 8 KT.out (Chg.refl (RowG u0 (wr.heap.size + 1)) _) _ _ ?_) | (refine Evo2.va ok 8 _ _ ?_)
   refine Evo2.all [3] (by decide +kernel) rfl ?_
   intro wp1 gp1 iq hq
   simp only [List.mem_cons, List.mem_nil_iff, or_false] at hq
   have AP1 := Chg.trans (Chg.refl (RowG u0 (wr.heap.size + 1)) _) (Chg.grow gp1)
   subst hq
   refine Evo2.enters 110 _ (by rfl) (by rfl) (by go_simp; exact ⟨rfl, rfl⟩) ?_
   refine (ptxt_any base u0 ((zs ++ txtB rn ++ txtB rc ++ oneB rr ++ oneB ts.length) ++ tgtsB (ts.take i)) rv _ (own_later O1'.out gp1) (Nat.le_trans hb1 gp1.size) (by rw [rowlen]; have := PL.out; omega) (by omega)).mono ?_
   rintro e wc1 ⟨v5, rfl, O1, F1⟩; have CH1 := fr_chg F1 RJ.out; have R1 := fr_in F1 RJ.out (by have := gp1.size; omega)
   refine ⟨_, rfl, .inr CH1, ?_⟩
   have AC1 := Chg.trans AP1 CH1
   simp only [Act.put, L0, L1, L2]
   refine Evo2.all [6] (by decide +kernel) rfl ?_
   intro wp2 gp2 iq hq
   simp only [List.mem_cons, List.mem_nil_iff, or_false] at hq
   have AP2 := Chg.trans AC1 (Chg.grow gp2)
   subst hq
   refine Evo2.enters 110 _ (by rfl) (by rfl) (by go_simp; exact ⟨rfl, rfl⟩) ?_
   refine (ptxt_any base v5 (((zs ++ txtB rn ++ txtB rc ++ oneB rr ++ oneB ts.length) ++ tgtsB (ts.take i)) ++ txtB rv) tgx _ (own_later O1 gp2) (Nat.le_trans hb1 AP2.size) (by simp only [rowlen, txtB_len]; have := PL.out; simp only [rowlen, txtB_len] at this; omega) (by omega)).mono ?_
   rintro e wc2 ⟨v6, rfl, O2, F2⟩; have CH2 := fr_chg F2 R1; have R2 := fr_in F2 R1 (by have := AP2.size; omega)
   refine ⟨_, rfl, .inr CH2, ?_⟩
   have AC2 := Chg.trans AP2 CH2
   simp only [Act.put, L0, L1, L2]
   refine Evo2.all [9] (by decide +kernel) rfl ?_
   intro wp3 gp3 iq hq
   simp only [List.mem_cons, List.mem_nil_iff, or_false] at hq
   have AP3 := Chg.trans AC2 (Chg.grow gp3)
   subst hq
   refine Evo2.enters 43 _ (by rfl) (by rfl) (by go_simp; exact ⟨rfl, rfl⟩) ?_
   refine (put1_any base v6 (((zs ++ txtB rn ++ txtB rc ++ oneB rr ++ oneB ts.length) ++ tgtsB (ts.take i)) ++ txtB rv ++ txtB tgx) pc _ (own_later O2 gp3) (Nat.le_trans hb1 AP3.size) (by simp only [rowlen, txtB_len]; have := PL.out; simp only [rowlen, txtB_len] at this; omega) ⟨t3, t4⟩).mono ?_
   rintro e wc3 ⟨v7, rfl, O3, F3⟩; have CH3 := fr_chg F3 R2; have R3 := fr_in F3 R2 (by have := AP3.size; omega)
   refine ⟨_, rfl, .inr CH3, ?_⟩
   have AC3 := Chg.trans AP3 CH3
   simp only [Act.put, L0, L1, L2]
   refine Evo2.va ok 10 _ _ ?_
   refine Evo2.done (by decide +kernel) (fun wz gz => ?_)
   have AZ := Chg.trans AC3 (Chg.grow gz)
   have OZ3 : Hid (OwnB wz base v7 (((zs ++ txtB rn ++ txtB rc ++ oneB rr ++ oneB ts.length) ++ tgtsB (ts.take i)) ++ txtB rv ++ txtB tgx ++ oneB pc)) := Lib.hid (own_later O3 gz)
   have A3 := Lib.hid (((OI.out.2.1.trans (Chg.grow G1)).join AZ (fun k hk e => by
    rcases e with e | e
    ·
     exact OI.out.2.2 k e
    ·
     omega) : Chg (RowG v (w.heap.size + 1)) W0 wz))
   have RI3 : Hid (RowIn v (w.heap.size + 1) v7) := Lib.hid (fun k hk => by
    rcases R3 k hk with e | e
    ·
     exact OI.out.2.2 k e
    ·
     exact .inr (by omega))
   clear AZ O1 O2 O3 R1 R2 R3 F1 F2 F3 CH1 CH2 CH3 AP1 AP2 AP3 AC1 AC2 AC3 gp1 gp2 gp3 ok gz
   go_wp2_with fail
   go_roundw
   case rel => exact ⟨i + 1, by omega, by go_num, Lib.hid ⟨by
    have := OZ3.out
    rw [SN.out]
    simpa only [List.append_assoc, tgtB'] using this, A3.out, RI3.out⟩⟩
   case measure => simp [intOf]; omega
  ·
   obtain rfl : i = ts.length := by omega
   have OI' := OI.out.1
   rw [List.take_length] at OI'
   have OE := Lib.hid OI'
   clear OI'
   go_wp2_with fail
   go_ret
   have h2 : OwnB wr base u0 (zs ++ rtB rn rc rr ts) := by
    have := OE.out
    unfold rtB
    simpa only [List.append_assoc] using this
   refine ⟨_, rfl, h2, fr_of (Chg.trans (Chg.grow G0) OI.out.2.1) OI.out.2.2 (Nat.le_succ _) h2 (by unfold rtB; simp [txtB_len, oneB_len]; omega)⟩
end Go.Proofs.YtnkekdmikopdgaaGreat

/- My own texts Part4, Part5, Part6, Part7, laid in one file. -/
import Derived.Test.YtnkekdmikopdgaaGreatZ9
import Derived.Test.YtnkekdmikopdgaaGreatZ4
import Derived.Test.YtnkekdmikopdgaaGreatZ8

/- The parts of an event: cleared, checked. (By wip/tools/gen_part3.py.) -/
namespace Go.Proofs.YtnkekdmikopdgaaGreat
set_option maxRecDepth 100000
set_option linter.unusedVariables false
set_option linter.unusedSimpArgs false
set_option linter.unnecessarySimpa false
open Go.RowKit

set_option maxHeartbeats 1000000 in
theorem chk_n (e : EvD) (lo hi : Int) (L H : Nat) (a : Option Addr) (c : Nat) (A B g : Nat) (w : World) (hg : Blk w g (e.cells a c) 28) (ha : Blk w A #[.func (.func 57) #[] #[]] 98) (f1 f2 : Value) (hb : Blk w B #[.func (.func 100) #[] #[ptr L, ptr H], f1, f2] 102) (hn : NumF w lo hi L H) :
  Calls Tryz.prog 83 #[ptr g, ptr B, ptr A] w fun x w' => x = .returned (.int .i64 (PT.err e (.n lo hi))) ∧ Grow.G w w' := by
 have KC := Lib.hid (fun (w' : World) (h : Chg (fun _ => False) w w') => (⟨h.cell (evcell ha (i := 0) rfl) id, h.cell (evcell hb (i := 0) rfl) id, h.cell (evcell hg (i := 3) rfl) id⟩ : w'.cell? ⟨A, 0, none⟩ = some (.func (.func 57) #[] #[]) ∧ w'.cell? ⟨B, 0, none⟩ = some (.func (.func 100) #[] #[ptr L, ptr H]) ∧ w'.cell? ⟨g, 3, none⟩ = some (.int .i64 e.n)))
 obtain ⟨hn1, hn2⟩ := hn
 have E : Hid (PT.err e (.n lo hi) = _) := Lib.hid rfl
 go_enter Tryz.func83, Tryz.ntmps83
 go_wp2_with fail
 refine Evo2.start' (ℓ := none) (S := Chg (fun _ => False)) (E := Grow.G) (by kernel_rfl) ⟨Chg.pre _, by decide +kernel, (by intro c a d v w h; cases d <;> exact h), by decide +kernel⟩ (fun ok => ?_)
 refine Evo2.va ok 0 _ _ ?_
 first | (refine Evo2.vl ok 1 KC.out (Chg.refl (fun _ => False) _) _ _ ?_) | (refine Evo2.va ok 1 _ _ ?_)
 first | (refine Evo2.vl ok 2 KC.out (Chg.refl (fun _ => False) _) _ _ ?_) | (refine Evo2.va ok 2 _ _ ?_)
 refine Evo2.va ok 3 _ _ ?_
 (refine Evo2.cal ok 4 ?_ 57 ?_ ?_ ?_ ?_; rotate_left 2; (focus (intro w'; go_simp <;> with_reducible rfl)); (focus (intro w' g'; with_reducible exact numberOf_q g w')); simp only [Act.put, L0, L1, L2])
 refine Evo2.va ok 5 _ _ ?_
 first | (refine Evo2.vl ok 6 KC.out (Chg.refl (fun _ => False) _) _ _ ?_) | (refine Evo2.va ok 6 _ _ ?_)
 (refine Evo2.cal ok 7 ?_ 100 ?_ ?_ ?_ ?_; rotate_left 2; (focus (intro w'; go_simp <;> with_reducible rfl)); (focus (intro w' g'; with_reducible exact number1_q e.n lo hi L H w' (hn1.chg (Chg.trans (Chg.refl (fun _ => False) _) g') id) (hn2.chg (Chg.trans (Chg.refl (fun _ => False) _) g') id))); simp only [Act.put, L0, L1, L2])
 refine Evo2.va ok 8 _ _ ?_
 refine Evo2.done (by decide +kernel) (fun wz gz => ?_)
 have AZ := Chg.trans (Chg.refl (fun _ => False) _) (Chg.grow gz)
 go_wp2_with fail
 go_ret
 exact ⟨rfl, AZ.toGrow (fun _ _ => id)⟩
set_option maxHeartbeats 1000000 in
theorem chk_d (e : EvD) (lo hi : Int) (L H : Nat) (a : Option Addr) (c : Nat) (A B g : Nat) (w : World) (hg : Blk w g (e.cells a c) 28) (ha : Blk w A #[.func (.func 70) #[] #[]] 98) (f1 f2 : Value) (hb : Blk w B #[.func (.func 100) #[] #[ptr L, ptr H], f1, f2] 102) (hn : NumF w lo hi L H) :
  Calls Tryz.prog 83 #[ptr g, ptr B, ptr A] w fun x w' => x = .returned (.int .i64 (PT.err e (.d lo hi))) ∧ Grow.G w w' := by
 have KC := Lib.hid (fun (w' : World) (h : Chg (fun _ => False) w w') => (⟨h.cell (evcell ha (i := 0) rfl) id, h.cell (evcell hb (i := 0) rfl) id, h.cell (evcell hg (i := 4) rfl) id⟩ : w'.cell? ⟨A, 0, none⟩ = some (.func (.func 70) #[] #[]) ∧ w'.cell? ⟨B, 0, none⟩ = some (.func (.func 100) #[] #[ptr L, ptr H]) ∧ w'.cell? ⟨g, 4, none⟩ = some (.int .i64 e.dr)))
 obtain ⟨hn1, hn2⟩ := hn
 have E : Hid (PT.err e (.d lo hi) = _) := Lib.hid rfl
 go_enter Tryz.func83, Tryz.ntmps83
 go_wp2_with fail
 refine Evo2.start' (ℓ := none) (S := Chg (fun _ => False)) (E := Grow.G) (by kernel_rfl) ⟨Chg.pre _, by decide +kernel, (by intro c a d v w h; cases d <;> exact h), by decide +kernel⟩ (fun ok => ?_)
 refine Evo2.va ok 0 _ _ ?_
 first | (refine Evo2.vl ok 1 KC.out (Chg.refl (fun _ => False) _) _ _ ?_) | (refine Evo2.va ok 1 _ _ ?_)
 first | (refine Evo2.vl ok 2 KC.out (Chg.refl (fun _ => False) _) _ _ ?_) | (refine Evo2.va ok 2 _ _ ?_)
 refine Evo2.va ok 3 _ _ ?_
 (refine Evo2.cal ok 4 ?_ 70 ?_ ?_ ?_ ?_; rotate_left 2; (focus (intro w'; go_simp <;> with_reducible rfl)); (focus (intro w' g'; with_reducible exact drawOf_q g w')); simp only [Act.put, L0, L1, L2])
 refine Evo2.va ok 5 _ _ ?_
 first | (refine Evo2.vl ok 6 KC.out (Chg.refl (fun _ => False) _) _ _ ?_) | (refine Evo2.va ok 6 _ _ ?_)
 (refine Evo2.cal ok 7 ?_ 100 ?_ ?_ ?_ ?_; rotate_left 2; (focus (intro w'; go_simp <;> with_reducible rfl)); (focus (intro w' g'; with_reducible exact number1_q e.dr lo hi L H w' (hn1.chg (Chg.trans (Chg.refl (fun _ => False) _) g') id) (hn2.chg (Chg.trans (Chg.refl (fun _ => False) _) g') id))); simp only [Act.put, L0, L1, L2])
 refine Evo2.va ok 8 _ _ ?_
 refine Evo2.done (by decide +kernel) (fun wz gz => ?_)
 have AZ := Chg.trans (Chg.refl (fun _ => False) _) (Chg.grow gz)
 go_wp2_with fail
 go_ret
 exact ⟨rfl, AZ.toGrow (fun _ _ => id)⟩
set_option maxHeartbeats 1000000 in
theorem chk_nm_name (e : EvD) (M : Nat) (a : Option Addr) (c : Nat) (A B g : Nat) (w : World) (hg : Blk w g (e.cells a c) 28) (ha : Blk w A #[.func (.func 67) #[] #[]] 122) (f1 f2 : Value) (hb : Blk w B #[.func (.func 109) #[] #[ptr M], f1, f2] 126) (hn : TxtF w 69 M) (hs : e.nm.size ≤ maxLen) :
  Calls Tryz.prog 106 #[ptr g, ptr B, ptr A] w fun x w' => x = .returned (.int .i64 (PT.err e (.nm false))) ∧ Grow.G w w' := by
 have KC := Lib.hid (fun (w' : World) (h : Chg (fun _ => False) w w') => (⟨h.cell (evcell ha (i := 0) rfl) id, h.cell (evcell hb (i := 0) rfl) id, h.cell (evcell hg (i := 1) rfl) id⟩ : w'.cell? ⟨A, 0, none⟩ = some (.func (.func 67) #[] #[]) ∧ w'.cell? ⟨B, 0, none⟩ = some (.func (.func 109) #[] #[ptr M]) ∧ w'.cell? ⟨g, 1, none⟩ = some (.string e.nm)))
 have hn1 := hn
 have E : Hid (PT.err e (.nm false) = _) := Lib.hid rfl
 go_enter Tryz.func106, Tryz.ntmps106
 go_wp2_with fail
 refine Evo2.start' (ℓ := none) (S := Chg (fun _ => False)) (E := Grow.G) (by kernel_rfl) ⟨Chg.pre _, by decide +kernel, (by intro c a d v w h; cases d <;> exact h), by decide +kernel⟩ (fun ok => ?_)
 refine Evo2.va ok 0 _ _ ?_
 first | (refine Evo2.vl ok 1 KC.out (Chg.refl (fun _ => False) _) _ _ ?_) | (refine Evo2.va ok 1 _ _ ?_)
 first | (refine Evo2.vl ok 2 KC.out (Chg.refl (fun _ => False) _) _ _ ?_) | (refine Evo2.va ok 2 _ _ ?_)
 refine Evo2.va ok 3 _ _ ?_
 (refine Evo2.cal ok 4 ?_ 67 ?_ ?_ ?_ ?_; rotate_left 2; (focus (intro w'; go_simp <;> with_reducible rfl)); (focus (intro w' g'; with_reducible exact nameOf_q g w')); simp only [Act.put, L0, L1, L2])
 refine Evo2.va ok 5 _ _ ?_
 first | (refine Evo2.vl ok 6 KC.out (Chg.refl (fun _ => False) _) _ _ ?_) | (refine Evo2.va ok 6 _ _ ?_)
 (refine Evo2.cal ok 7 ?_ 109 ?_ ?_ ?_ ?_; rotate_left 2; (focus (intro w'; go_simp <;> with_reducible rfl)); (focus (intro w' g'; with_reducible exact text1_name e.nm M w' hs (Blk.chg hn1 (Chg.trans (Chg.refl (fun _ => False) _) g') id))); simp only [Act.put, L0, L1, L2])
 refine Evo2.va ok 8 _ _ ?_
 refine Evo2.done (by decide +kernel) (fun wz gz => ?_)
 have AZ := Chg.trans (Chg.refl (fun _ => False) _) (Chg.grow gz)
 go_wp2_with fail
 go_ret
 exact ⟨rfl, AZ.toGrow (fun _ _ => id)⟩
set_option maxHeartbeats 1000000 in
theorem chk_nm_rev (e : EvD) (M : Nat) (a : Option Addr) (c : Nat) (A B g : Nat) (w : World) (hg : Blk w g (e.cells a c) 28) (ha : Blk w A #[.func (.func 67) #[] #[]] 122) (f1 f2 : Value) (hb : Blk w B #[.func (.func 109) #[] #[ptr M], f1, f2] 126) (hn : TxtF w 73 M) (hs : e.nm.size ≤ 281474976710655) :
  Calls Tryz.prog 106 #[ptr g, ptr B, ptr A] w fun x w' => x = .returned (.int .i64 (PT.err e (.nm true))) ∧ Grow.G w w' := by
 have KC := Lib.hid (fun (w' : World) (h : Chg (fun _ => False) w w') => (⟨h.cell (evcell ha (i := 0) rfl) id, h.cell (evcell hb (i := 0) rfl) id, h.cell (evcell hg (i := 1) rfl) id⟩ : w'.cell? ⟨A, 0, none⟩ = some (.func (.func 67) #[] #[]) ∧ w'.cell? ⟨B, 0, none⟩ = some (.func (.func 109) #[] #[ptr M]) ∧ w'.cell? ⟨g, 1, none⟩ = some (.string e.nm)))
 have hn1 := hn
 have E : Hid (PT.err e (.nm true) = _) := Lib.hid rfl
 go_enter Tryz.func106, Tryz.ntmps106
 go_wp2_with fail
 refine Evo2.start' (ℓ := none) (S := Chg (fun _ => False)) (E := Grow.G) (by kernel_rfl) ⟨Chg.pre _, by decide +kernel, (by intro c a d v w h; cases d <;> exact h), by decide +kernel⟩ (fun ok => ?_)
 refine Evo2.va ok 0 _ _ ?_
 first | (refine Evo2.vl ok 1 KC.out (Chg.refl (fun _ => False) _) _ _ ?_) | (refine Evo2.va ok 1 _ _ ?_)
 first | (refine Evo2.vl ok 2 KC.out (Chg.refl (fun _ => False) _) _ _ ?_) | (refine Evo2.va ok 2 _ _ ?_)
 refine Evo2.va ok 3 _ _ ?_
 (refine Evo2.cal ok 4 ?_ 67 ?_ ?_ ?_ ?_; rotate_left 2; (focus (intro w'; go_simp <;> with_reducible rfl)); (focus (intro w' g'; with_reducible exact nameOf_q g w')); simp only [Act.put, L0, L1, L2])
 refine Evo2.va ok 5 _ _ ?_
 first | (refine Evo2.vl ok 6 KC.out (Chg.refl (fun _ => False) _) _ _ ?_) | (refine Evo2.va ok 6 _ _ ?_)
 (refine Evo2.cal ok 7 ?_ 109 ?_ ?_ ?_ ?_; rotate_left 2; (focus (intro w'; go_simp <;> with_reducible rfl)); (focus (intro w' g'; with_reducible exact text1_rev e.nm M w' hs (Blk.chg hn1 (Chg.trans (Chg.refl (fun _ => False) _) g') id))); simp only [Act.put, L0, L1, L2])
 refine Evo2.va ok 8 _ _ ?_
 refine Evo2.done (by decide +kernel) (fun wz gz => ?_)
 have AZ := Chg.trans (Chg.refl (fun _ => False) _) (Chg.grow gz)
 go_wp2_with fail
 go_ret
 exact ⟨rfl, AZ.toGrow (fun _ _ => id)⟩
set_option maxHeartbeats 1000000 in
theorem chk_tg (e : EvD) (M : Nat) (a : Option Addr) (c : Nat) (A B g : Nat) (w : World) (hg : Blk w g (e.cells a c) 28) (ha : Blk w A #[.func (.func 71) #[] #[]] 122) (f1 f2 : Value) (hb : Blk w B #[.func (.func 109) #[] #[ptr M], f1, f2] 126) (hn : TxtF w 72 M) (hs : e.tg.size ≤ maxLen) :
  Calls Tryz.prog 106 #[ptr g, ptr B, ptr A] w fun x w' => x = .returned (.int .i64 (PT.err e .tg)) ∧ Grow.G w w' := by
 have KC := Lib.hid (fun (w' : World) (h : Chg (fun _ => False) w w') => (⟨h.cell (evcell ha (i := 0) rfl) id, h.cell (evcell hb (i := 0) rfl) id, h.cell (evcell hg (i := 2) rfl) id⟩ : w'.cell? ⟨A, 0, none⟩ = some (.func (.func 71) #[] #[]) ∧ w'.cell? ⟨B, 0, none⟩ = some (.func (.func 109) #[] #[ptr M]) ∧ w'.cell? ⟨g, 2, none⟩ = some (.string e.tg)))
 have hn1 := hn
 have E : Hid (PT.err e .tg = _) := Lib.hid rfl
 go_enter Tryz.func106, Tryz.ntmps106
 go_wp2_with fail
 refine Evo2.start' (ℓ := none) (S := Chg (fun _ => False)) (E := Grow.G) (by kernel_rfl) ⟨Chg.pre _, by decide +kernel, (by intro c a d v w h; cases d <;> exact h), by decide +kernel⟩ (fun ok => ?_)
 refine Evo2.va ok 0 _ _ ?_
 first | (refine Evo2.vl ok 1 KC.out (Chg.refl (fun _ => False) _) _ _ ?_) | (refine Evo2.va ok 1 _ _ ?_)
 first | (refine Evo2.vl ok 2 KC.out (Chg.refl (fun _ => False) _) _ _ ?_) | (refine Evo2.va ok 2 _ _ ?_)
 refine Evo2.va ok 3 _ _ ?_
 (refine Evo2.cal ok 4 ?_ 71 ?_ ?_ ?_ ?_; rotate_left 2; (focus (intro w'; go_simp <;> with_reducible rfl)); (focus (intro w' g'; with_reducible exact tagOf_q g w')); simp only [Act.put, L0, L1, L2])
 refine Evo2.va ok 5 _ _ ?_
 first | (refine Evo2.vl ok 6 KC.out (Chg.refl (fun _ => False) _) _ _ ?_) | (refine Evo2.va ok 6 _ _ ?_)
 (refine Evo2.cal ok 7 ?_ 109 ?_ ?_ ?_ ?_; rotate_left 2; (focus (intro w'; go_simp <;> with_reducible rfl)); (focus (intro w' g'; with_reducible exact text1_tag e.tg M w' hs (Blk.chg hn1 (Chg.trans (Chg.refl (fun _ => False) _) g') id))); simp only [Act.put, L0, L1, L2])
 refine Evo2.va ok 8 _ _ ?_
 refine Evo2.done (by decide +kernel) (fun wz gz => ?_)
 have AZ := Chg.trans (Chg.refl (fun _ => False) _) (Chg.grow gz)
 go_wp2_with fail
 go_ret
 exact ⟨rfl, AZ.toGrow (fun _ _ => id)⟩
set_option maxHeartbeats 1000000 in
theorem chk_c (e : EvD) (a : Option Addr) (c : Nat) (A B g : Nat) (w : World) (hg : Blk w g (e.cells a c) 28) (ha : Blk w A #[.func (.func 60) #[] #[]] 105) (f1 f2 : Value) (hb : Blk w B #[.func (.func 90) #[] #[], f1, f2] 110) (hs : e.c.nm.size ≤ maxLen) :
  Calls Tryz.prog 87 #[ptr g, ptr B, ptr A] w fun x w' => x = .returned (.int .i64 (PT.err e .c)) ∧ Grow.G w w' := by
 have KC := Lib.hid (fun (w' : World) (h : Chg (fun _ => False) w w') => (⟨h.cell (evcell ha (i := 0) rfl) id, h.cell (evcell hb (i := 0) rfl) id, h.cell (evcell hg (i := 5) rfl) id, h.cell (evcell hg (i := 6) rfl) id, h.cell (evcell hg (i := 7) rfl) id, h.cell (evcell hg (i := 8) rfl) id, h.cell (evcell hg (i := 9) rfl) id, h.cell (evcell hg (i := 10) rfl) id⟩ : w'.cell? ⟨A, 0, none⟩ = some (.func (.func 60) #[] #[]) ∧ w'.cell? ⟨B, 0, none⟩ = some (.func (.func 90) #[] #[]) ∧ w'.cell? ⟨g, 5, none⟩ = some (.string e.c.nm) ∧ w'.cell? ⟨g, 6, none⟩ = some (.int .i64 e.c.im) ∧ w'.cell? ⟨g, 7, none⟩ = some (.int .i64 e.c.co) ∧ w'.cell? ⟨g, 8, none⟩ = some (.int .i64 e.c.mn) ∧ w'.cell? ⟨g, 9, none⟩ = some (.int .i64 e.c.mx) ∧ w'.cell? ⟨g, 10, none⟩ = some (.int .i64 e.c.gr)))
 have E : Hid (PT.err e .c = _) := Lib.hid rfl
 go_enter Tryz.func87, Tryz.ntmps87
 go_wp2_with fail
 refine Evo2.start' (ℓ := none) (S := Chg (fun _ => False)) (E := Grow.G) (by kernel_rfl) ⟨Chg.pre _, by decide +kernel, (by intro c a d v w h; cases d <;> exact h), by decide +kernel⟩ (fun ok => ?_)
 refine Evo2.va ok 0 _ _ ?_
 first | (refine Evo2.vl ok 1 KC.out (Chg.refl (fun _ => False) _) _ _ ?_) | (refine Evo2.va ok 1 _ _ ?_)
 first | (refine Evo2.vl ok 2 KC.out (Chg.refl (fun _ => False) _) _ _ ?_) | (refine Evo2.va ok 2 _ _ ?_)
 refine Evo2.va ok 3 _ _ ?_
 (refine Evo2.cal ok 4 ?_ 60 ?_ ?_ ?_ ?_; rotate_left 2; (focus (intro w'; go_simp <;> with_reducible rfl)); (focus (intro w' g'; with_reducible exact configOf_q g w')); simp only [Act.put, L0, L1, L2])
 refine Evo2.va ok 5 _ _ ?_
 first | (refine Evo2.vl ok 6 KC.out (Chg.refl (fun _ => False) _) _ _ ?_) | (refine Evo2.va ok 6 _ _ ?_)
 (refine Evo2.cal ok 7 ?_ 90 ?_ ?_ ?_ ?_; rotate_left 2; (focus (intro w'; go_simp <;> with_reducible rfl)); (focus (intro w' g'; with_reducible exact config_at e.c.nm e.c.im e.c.co e.c.mn e.c.mx e.c.gr w' hs)); simp only [Act.put, L0, L1, L2])
 refine Evo2.va ok 8 _ _ ?_
 refine Evo2.done (by decide +kernel) (fun wz gz => ?_)
 have AZ := Chg.trans (Chg.refl (fun _ => False) _) (Chg.grow gz)
 go_wp2_with fail
 go_ret
 exact ⟨rfl, AZ.toGrow (fun _ _ => id)⟩
set_option maxHeartbeats 1000000 in
theorem chk_r (e : EvD) (a : Option Addr) (c : Nat) (A B g : Nat) (w : World) (hg : Blk w g (e.cells a c) 28) (ha : Blk w A #[.func (.func 63) #[] #[]] 113) (f1 f2 : Value) (hb : Blk w B #[.func (.func 97) #[] #[], f1, f2] 118) (hs : e.rn.size ≤ 1000) (hs2 : e.rc.size ≤ 1000) (hs3 : e.ts.length ≤ 1000) (ht : TgtSl w a e.ts) (hk : ∀ i, i < e.ts.length → (e.ts.getD i tg0).ok) :
  Calls Tryz.prog 94 #[ptr g, ptr B, ptr A] w fun x w' => x = .returned (.int .i64 (PT.err e .r)) ∧ Grow.G w w' := by
 have KC := Lib.hid (fun (w' : World) (h : Chg (fun _ => False) w w') => (⟨h.cell (evcell ha (i := 0) rfl) id, h.cell (evcell hb (i := 0) rfl) id, h.cell (evcell hg (i := 11) rfl) id, h.cell (evcell hg (i := 12) rfl) id, h.cell (evcell hg (i := 13) rfl) id, h.cell (evcell hg (i := 14) rfl) id⟩ : w'.cell? ⟨A, 0, none⟩ = some (.func (.func 63) #[] #[]) ∧ w'.cell? ⟨B, 0, none⟩ = some (.func (.func 97) #[] #[]) ∧ w'.cell? ⟨g, 11, none⟩ = some (.string e.rn) ∧ w'.cell? ⟨g, 12, none⟩ = some (.string e.rc) ∧ w'.cell? ⟨g, 13, none⟩ = some (.slice a e.ts.length c) ∧ w'.cell? ⟨g, 14, none⟩ = some (.int .i64 e.rr)))
 have E : Hid (PT.err e .r = _) := Lib.hid rfl
 go_enter Tryz.func94, Tryz.ntmps94
 go_wp2_with fail
 refine Evo2.start' (ℓ := none) (S := Chg (fun _ => False)) (E := Grow.G) (by kernel_rfl) ⟨Chg.pre _, by decide +kernel, (by intro c a d v w h; cases d <;> exact h), by decide +kernel⟩ (fun ok => ?_)
 refine Evo2.va ok 0 _ _ ?_
 first | (refine Evo2.vl ok 1 KC.out (Chg.refl (fun _ => False) _) _ _ ?_) | (refine Evo2.va ok 1 _ _ ?_)
 first | (refine Evo2.vl ok 2 KC.out (Chg.refl (fun _ => False) _) _ _ ?_) | (refine Evo2.va ok 2 _ _ ?_)
 refine Evo2.va ok 3 _ _ ?_
 (refine Evo2.cal ok 4 ?_ 63 ?_ ?_ ?_ ?_; rotate_left 2; (focus (intro w'; go_simp <;> with_reducible rfl)); (focus (intro w' g'; with_reducible exact routeOf_q g w')); simp only [Act.put, L0, L1, L2])
 refine Evo2.va ok 5 _ _ ?_
 first | (refine Evo2.vl ok 6 KC.out (Chg.refl (fun _ => False) _) _ _ ?_) | (refine Evo2.va ok 6 _ _ ?_)
 (refine Evo2.cal ok 7 ?_ 97 ?_ ?_ ?_ ?_; rotate_left 2; (focus (intro w'; go_simp <;> with_reducible rfl)); (focus (intro w' g'; with_reducible exact route_at e.rn e.rc a e.ts e.ts.length c e.rr w' (routeE e.rn e.rc e.ts e.rr) rfl hs hs2 hs3 (ht.later (Chg.toGrow (Chg.trans (Chg.refl (fun _ => False) _) g') (fun _ _ => id))) hk rfl)); simp only [Act.put, L0, L1, L2])
 refine Evo2.va ok 8 _ _ ?_
 refine Evo2.done (by decide +kernel) (fun wz gz => ?_)
 have AZ := Chg.trans (Chg.refl (fun _ => False) _) (Chg.grow gz)
 go_wp2_with fail
 go_ret
 exact ⟨rfl, AZ.toGrow (fun _ _ => id)⟩

theorem own_apart {w : World} {base g : Nat} {v : Value} {zs : List Int} {cs : Array Value} {T : TypeId} (ho : OwnB w base v zs) (hz : 1 ≤ zs.length) (hb : Blk w g cs T) (hx : ∀ z, cs[0]? ≠ some (.int .u8 z)) : ¬ v.ownBlock = some g := fun e => by
 match zs, hz with
 | z0 :: zr, _ =>
  have h1 := ho.cells (g := g) e 0 (.int .u8 z0) rfl
  have e2 : (⟨g, 0, none⟩ : Addr).add 0 = ⟨g, 0, none⟩ := by simp [Addr.add]
  rw [e2, hb.cell 0] at h1
  exact hx z0 h1
theorem num2_any (base : Nat) (v : Value) (zs : List Int) (n : Int) (w : World) (ho : OwnB w base v zs) (hb : base ≤ w.heap.size) (hz : zs.length ≤ 100000) (hn : 0 ≤ n ∧ n ≤ 2147483647) :
  Calls Tryz.prog 102 #[v, .int .i64 n] w fun e w' => ∃ v', e = .returned v' ∧ OwnB w' base v' (zs ++ fourB n) ∧ Fr.Fr w w' v v' := by
 have P := Lib.hid (put4_any base v zs n w ho hb hz hn)
 clear ho
 go_enter Tryz.func102, Tryz.ntmps102
 go_wp2_with fail
 refine P.out.mono ?_
 rintro e w1 ⟨v1, rfl, h⟩
 have H := Lib.hid h
 clear h
 go_wp2_with fail
 go_ret
 exact ⟨_, rfl, H.out.1, H.out.2⟩
set_option maxHeartbeats 1000000 in
theorem wrt_n (base : Nat) (v : Value) (zs : List Int) (e : EvD) (lo hi : Int) (a : Option Addr) (c : Nat) (A B g : Nat) (w : World) (hg : Blk w g (e.cells a c) 28) (ha : Blk w A #[.func (.func 57) #[] #[]] 98) (F0 F2 : FuncId) (c0 c2 : Array Value) (hbb : Blk w B #[.func (.func F0) #[] c0, .func (.func 102) #[] #[], .func (.func F2) #[] c2] 102)
  (ho : OwnB w base v zs) (hb : base ≤ w.heap.size) (hz : 1 ≤ zs.length ∧ zs.length ≤ 1000) (hn : 0 ≤ e.n ∧ e.n ≤ 2147483647) :
  Calls Tryz.prog 84 #[v, ptr g, ptr B, ptr A] w fun x w' => ∃ v', x = .returned v' ∧ OwnB w' base v' (zs ++ PT.byt e (.n lo hi)) ∧ Fr.Fr w w' v v' := by
 have NG : ¬ v.ownBlock = some g := own_apart ho hz.1 hg (by intro z; simp [EvD.cells])
 have NA : ¬ v.ownBlock = some A := own_apart ho hz.1 ha (by intro z; simp)
 have NB : ¬ v.ownBlock = some B := own_apart ho hz.1 hbb (by intro z; simp)
 have KC := Lib.hid (fun (w' : World) (h : Chg (fun k => v.ownBlock = some k) w w') => (⟨h.cell (evcell ha (i := 0) rfl) NA, h.cell (evcell hbb (i := 1) rfl) NB, h.cell (evcell hg (i := 3) rfl) NG⟩ : w'.cell? ⟨A, 0, none⟩ = some (.func (.func 57) #[] #[]) ∧ w'.cell? ⟨B, 1, none⟩ = some (.func (.func 102) #[] #[]) ∧ w'.cell? ⟨g, 3, none⟩ = some (.int .i64 e.n)))
 have OB := Lib.hid ho
 have hz1 := hz.2
 have HN := Lib.hid hn
 clear hg ha hbb ho hz NG NA NB hn
 go_enter Tryz.func84, Tryz.ntmps84
 go_wp2_with fail
 refine Evo2.start' (ℓ := none) (S := Chg (fun k => v.ownBlock = some k)) (E := Grow.G) (by kernel_rfl) ⟨Chg.pre _, by decide +kernel, (by intro c a d v w h; cases d <;> exact h), by decide +kernel⟩ (fun ok => ?_)
 refine Evo2.va ok 0 _ _ ?_
 first | (refine Evo2.vl ok 1 KC.out (Chg.refl (fun k => v.ownBlock = some k) _) _ _ ?_) | (refine Evo2.va ok 1 _ _ ?_)
 refine Evo2.va ok 2 _ _ ?_
 first | (refine Evo2.vl ok 3 KC.out (Chg.refl (fun k => v.ownBlock = some k) _) _ _ ?_) | (refine Evo2.va ok 3 _ _ ?_)
 refine Evo2.va ok 4 _ _ ?_
 (refine Evo2.cal ok 5 ?_ 57 ?_ ?_ ?_ ?_; rotate_left 2; (focus (intro w'; go_simp <;> with_reducible rfl)); (focus (intro w' g'; with_reducible exact numberOf_q g w')); simp only [Act.put, L0, L1, L2])
 refine Evo2.va ok 6 _ _ ?_
 first | (refine Evo2.vl ok 7 KC.out (Chg.refl (fun k => v.ownBlock = some k) _) _ _ ?_) | (refine Evo2.va ok 7 _ _ ?_)
 refine Evo2.all [8] (by decide +kernel) rfl ?_
 intro wp1 gp1 iq hq
 simp only [List.mem_cons, List.mem_nil_iff, or_false] at hq
 have AP1 := Chg.trans (Chg.refl (fun k => v.ownBlock = some k) _) (Chg.grow gp1)
 subst hq
 refine Evo2.enters 102 _ (by rfl) (by rfl) (by go_simp; exact ⟨rfl, rfl⟩) ?_
 refine (num2_any base v zs e.n _ (own_later OB.out gp1) (Nat.le_trans hb gp1.size) (by omega) HN.out).mono ?_
 rintro x wc1 ⟨v1, rfl, O1, F1⟩; have CH1 := Chg.ofFr F1
 refine ⟨_, rfl, .inr CH1, ?_⟩
 have AC1 := Chg.trans AP1 CH1
 simp only [Act.put, L0, L1, L2]
 refine Evo2.va ok 9 _ _ ?_
 refine Evo2.done (by decide +kernel) (fun wz gz => ?_)
 have AZ := Chg.trans AC1 (Chg.grow gz)
 have OZ : Hid (OwnB wz base v1 (zs ++ PT.byt e (.n lo hi))) := Lib.hid (own_later O1 gz)
 have FZ := Lib.hid (Fr.Fr.trans (Fr.Fr.grow gp1 v) (Fr.Fr.trans F1 (Fr.Fr.grow gz v1)))
 clear AZ O1 F1 CH1 gp1 gz AP1 AC1 ok
 go_wp2_with fail
 go_ret
 exact ⟨_, rfl, OZ.out, FZ.out⟩
set_option maxHeartbeats 1000000 in
theorem wrt_d (base : Nat) (v : Value) (zs : List Int) (e : EvD) (lo hi : Int) (a : Option Addr) (c : Nat) (A B g : Nat) (w : World) (hg : Blk w g (e.cells a c) 28) (ha : Blk w A #[.func (.func 70) #[] #[]] 98) (F0 F2 : FuncId) (c0 c2 : Array Value) (hbb : Blk w B #[.func (.func F0) #[] c0, .func (.func 102) #[] #[], .func (.func F2) #[] c2] 102)
  (ho : OwnB w base v zs) (hb : base ≤ w.heap.size) (hz : 1 ≤ zs.length ∧ zs.length ≤ 1000) (hn : 0 ≤ e.dr ∧ e.dr ≤ 2147483647) :
  Calls Tryz.prog 84 #[v, ptr g, ptr B, ptr A] w fun x w' => ∃ v', x = .returned v' ∧ OwnB w' base v' (zs ++ PT.byt e (.d lo hi)) ∧ Fr.Fr w w' v v' := by
 have NG : ¬ v.ownBlock = some g := own_apart ho hz.1 hg (by intro z; simp [EvD.cells])
 have NA : ¬ v.ownBlock = some A := own_apart ho hz.1 ha (by intro z; simp)
 have NB : ¬ v.ownBlock = some B := own_apart ho hz.1 hbb (by intro z; simp)
 have KC := Lib.hid (fun (w' : World) (h : Chg (fun k => v.ownBlock = some k) w w') => (⟨h.cell (evcell ha (i := 0) rfl) NA, h.cell (evcell hbb (i := 1) rfl) NB, h.cell (evcell hg (i := 4) rfl) NG⟩ : w'.cell? ⟨A, 0, none⟩ = some (.func (.func 70) #[] #[]) ∧ w'.cell? ⟨B, 1, none⟩ = some (.func (.func 102) #[] #[]) ∧ w'.cell? ⟨g, 4, none⟩ = some (.int .i64 e.dr)))
 have OB := Lib.hid ho
 have hz1 := hz.2
 have HN := Lib.hid hn
 clear hg ha hbb ho hz NG NA NB hn
 go_enter Tryz.func84, Tryz.ntmps84
 go_wp2_with fail
 refine Evo2.start' (ℓ := none) (S := Chg (fun k => v.ownBlock = some k)) (E := Grow.G) (by kernel_rfl) ⟨Chg.pre _, by decide +kernel, (by intro c a d v w h; cases d <;> exact h), by decide +kernel⟩ (fun ok => ?_)
 refine Evo2.va ok 0 _ _ ?_
 first | (refine Evo2.vl ok 1 KC.out (Chg.refl (fun k => v.ownBlock = some k) _) _ _ ?_) | (refine Evo2.va ok 1 _ _ ?_)
 refine Evo2.va ok 2 _ _ ?_
 first | (refine Evo2.vl ok 3 KC.out (Chg.refl (fun k => v.ownBlock = some k) _) _ _ ?_) | (refine Evo2.va ok 3 _ _ ?_)
 refine Evo2.va ok 4 _ _ ?_
 (refine Evo2.cal ok 5 ?_ 70 ?_ ?_ ?_ ?_; rotate_left 2; (focus (intro w'; go_simp <;> with_reducible rfl)); (focus (intro w' g'; with_reducible exact drawOf_q g w')); simp only [Act.put, L0, L1, L2])
 refine Evo2.va ok 6 _ _ ?_
 first | (refine Evo2.vl ok 7 KC.out (Chg.refl (fun k => v.ownBlock = some k) _) _ _ ?_) | (refine Evo2.va ok 7 _ _ ?_)
 refine Evo2.all [8] (by decide +kernel) rfl ?_
 intro wp1 gp1 iq hq
 simp only [List.mem_cons, List.mem_nil_iff, or_false] at hq
 have AP1 := Chg.trans (Chg.refl (fun k => v.ownBlock = some k) _) (Chg.grow gp1)
 subst hq
 refine Evo2.enters 102 _ (by rfl) (by rfl) (by go_simp; exact ⟨rfl, rfl⟩) ?_
 refine (num2_any base v zs e.dr _ (own_later OB.out gp1) (Nat.le_trans hb gp1.size) (by omega) HN.out).mono ?_
 rintro x wc1 ⟨v1, rfl, O1, F1⟩; have CH1 := Chg.ofFr F1
 refine ⟨_, rfl, .inr CH1, ?_⟩
 have AC1 := Chg.trans AP1 CH1
 simp only [Act.put, L0, L1, L2]
 refine Evo2.va ok 9 _ _ ?_
 refine Evo2.done (by decide +kernel) (fun wz gz => ?_)
 have AZ := Chg.trans AC1 (Chg.grow gz)
 have OZ : Hid (OwnB wz base v1 (zs ++ PT.byt e (.d lo hi))) := Lib.hid (own_later O1 gz)
 have FZ := Lib.hid (Fr.Fr.trans (Fr.Fr.grow gp1 v) (Fr.Fr.trans F1 (Fr.Fr.grow gz v1)))
 clear AZ O1 F1 CH1 gp1 gz AP1 AC1 ok
 go_wp2_with fail
 go_ret
 exact ⟨_, rfl, OZ.out, FZ.out⟩
set_option maxHeartbeats 1000000 in
theorem wrt_nm (base : Nat) (v : Value) (zs : List Int) (e : EvD) (b : Bool) (a : Option Addr) (c : Nat) (A B g : Nat) (w : World) (hg : Blk w g (e.cells a c) 28) (ha : Blk w A #[.func (.func 67) #[] #[]] 122) (F0 F2 : FuncId) (c0 c2 : Array Value) (hbb : Blk w B #[.func (.func F0) #[] c0, .func (.func 110) #[] #[], .func (.func F2) #[] c2] 126)
  (ho : OwnB w base v zs) (hb : base ≤ w.heap.size) (hz : 1 ≤ zs.length ∧ zs.length ≤ 1000) (hn : e.nm.size ≤ 255) :
  Calls Tryz.prog 107 #[v, ptr g, ptr B, ptr A] w fun x w' => ∃ v', x = .returned v' ∧ OwnB w' base v' (zs ++ PT.byt e (.nm b)) ∧ Fr.Fr w w' v v' := by
 have NG : ¬ v.ownBlock = some g := own_apart ho hz.1 hg (by intro z; simp [EvD.cells])
 have NA : ¬ v.ownBlock = some A := own_apart ho hz.1 ha (by intro z; simp)
 have NB : ¬ v.ownBlock = some B := own_apart ho hz.1 hbb (by intro z; simp)
 have KC := Lib.hid (fun (w' : World) (h : Chg (fun k => v.ownBlock = some k) w w') => (⟨h.cell (evcell ha (i := 0) rfl) NA, h.cell (evcell hbb (i := 1) rfl) NB, h.cell (evcell hg (i := 1) rfl) NG⟩ : w'.cell? ⟨A, 0, none⟩ = some (.func (.func 67) #[] #[]) ∧ w'.cell? ⟨B, 1, none⟩ = some (.func (.func 110) #[] #[]) ∧ w'.cell? ⟨g, 1, none⟩ = some (.string e.nm)))
 have OB := Lib.hid ho
 have hz1 := hz.2
 have HN := Lib.hid hn
 clear hg ha hbb ho hz NG NA NB hn
 go_enter Tryz.func107, Tryz.ntmps107
 go_wp2_with fail
 refine Evo2.start' (ℓ := none) (S := Chg (fun k => v.ownBlock = some k)) (E := Grow.G) (by kernel_rfl) ⟨Chg.pre _, by decide +kernel, (by intro c a d v w h; cases d <;> exact h), by decide +kernel⟩ (fun ok => ?_)
 refine Evo2.va ok 0 _ _ ?_
 first | (refine Evo2.vl ok 1 KC.out (Chg.refl (fun k => v.ownBlock = some k) _) _ _ ?_) | (refine Evo2.va ok 1 _ _ ?_)
 refine Evo2.va ok 2 _ _ ?_
 first | (refine Evo2.vl ok 3 KC.out (Chg.refl (fun k => v.ownBlock = some k) _) _ _ ?_) | (refine Evo2.va ok 3 _ _ ?_)
 refine Evo2.va ok 4 _ _ ?_
 (refine Evo2.cal ok 5 ?_ 67 ?_ ?_ ?_ ?_; rotate_left 2; (focus (intro w'; go_simp <;> with_reducible rfl)); (focus (intro w' g'; with_reducible exact nameOf_q g w')); simp only [Act.put, L0, L1, L2])
 refine Evo2.va ok 6 _ _ ?_
 first | (refine Evo2.vl ok 7 KC.out (Chg.refl (fun k => v.ownBlock = some k) _) _ _ ?_) | (refine Evo2.va ok 7 _ _ ?_)
 refine Evo2.all [8] (by decide +kernel) rfl ?_
 intro wp1 gp1 iq hq
 simp only [List.mem_cons, List.mem_nil_iff, or_false] at hq
 have AP1 := Chg.trans (Chg.refl (fun k => v.ownBlock = some k) _) (Chg.grow gp1)
 subst hq
 refine Evo2.enters 110 _ (by rfl) (by rfl) (by go_simp; exact ⟨rfl, rfl⟩) ?_
 refine (ptxt_any base v zs e.nm _ (own_later OB.out gp1) (Nat.le_trans hb gp1.size) (by omega) HN.out).mono ?_
 rintro x wc1 ⟨v1, rfl, O1, F1⟩; have CH1 := Chg.ofFr F1
 refine ⟨_, rfl, .inr CH1, ?_⟩
 have AC1 := Chg.trans AP1 CH1
 simp only [Act.put, L0, L1, L2]
 refine Evo2.va ok 9 _ _ ?_
 refine Evo2.done (by decide +kernel) (fun wz gz => ?_)
 have AZ := Chg.trans AC1 (Chg.grow gz)
 have OZ : Hid (OwnB wz base v1 (zs ++ PT.byt e (.nm b))) := Lib.hid (own_later O1 gz)
 have FZ := Lib.hid (Fr.Fr.trans (Fr.Fr.grow gp1 v) (Fr.Fr.trans F1 (Fr.Fr.grow gz v1)))
 clear AZ O1 F1 CH1 gp1 gz AP1 AC1 ok
 go_wp2_with fail
 go_ret
 exact ⟨_, rfl, OZ.out, FZ.out⟩
set_option maxHeartbeats 1000000 in
theorem wrt_tg (base : Nat) (v : Value) (zs : List Int) (e : EvD) (a : Option Addr) (c : Nat) (A B g : Nat) (w : World) (hg : Blk w g (e.cells a c) 28) (ha : Blk w A #[.func (.func 71) #[] #[]] 122) (F0 F2 : FuncId) (c0 c2 : Array Value) (hbb : Blk w B #[.func (.func F0) #[] c0, .func (.func 110) #[] #[], .func (.func F2) #[] c2] 126)
  (ho : OwnB w base v zs) (hb : base ≤ w.heap.size) (hz : 1 ≤ zs.length ∧ zs.length ≤ 1000) (hn : e.tg.size ≤ 255) :
  Calls Tryz.prog 107 #[v, ptr g, ptr B, ptr A] w fun x w' => ∃ v', x = .returned v' ∧ OwnB w' base v' (zs ++ PT.byt e .tg) ∧ Fr.Fr w w' v v' := by
 have NG : ¬ v.ownBlock = some g := own_apart ho hz.1 hg (by intro z; simp [EvD.cells])
 have NA : ¬ v.ownBlock = some A := own_apart ho hz.1 ha (by intro z; simp)
 have NB : ¬ v.ownBlock = some B := own_apart ho hz.1 hbb (by intro z; simp)
 have KC := Lib.hid (fun (w' : World) (h : Chg (fun k => v.ownBlock = some k) w w') => (⟨h.cell (evcell ha (i := 0) rfl) NA, h.cell (evcell hbb (i := 1) rfl) NB, h.cell (evcell hg (i := 2) rfl) NG⟩ : w'.cell? ⟨A, 0, none⟩ = some (.func (.func 71) #[] #[]) ∧ w'.cell? ⟨B, 1, none⟩ = some (.func (.func 110) #[] #[]) ∧ w'.cell? ⟨g, 2, none⟩ = some (.string e.tg)))
 have OB := Lib.hid ho
 have hz1 := hz.2
 have HN := Lib.hid hn
 clear hg ha hbb ho hz NG NA NB hn
 go_enter Tryz.func107, Tryz.ntmps107
 go_wp2_with fail
 refine Evo2.start' (ℓ := none) (S := Chg (fun k => v.ownBlock = some k)) (E := Grow.G) (by kernel_rfl) ⟨Chg.pre _, by decide +kernel, (by intro c a d v w h; cases d <;> exact h), by decide +kernel⟩ (fun ok => ?_)
 refine Evo2.va ok 0 _ _ ?_
 first | (refine Evo2.vl ok 1 KC.out (Chg.refl (fun k => v.ownBlock = some k) _) _ _ ?_) | (refine Evo2.va ok 1 _ _ ?_)
 refine Evo2.va ok 2 _ _ ?_
 first | (refine Evo2.vl ok 3 KC.out (Chg.refl (fun k => v.ownBlock = some k) _) _ _ ?_) | (refine Evo2.va ok 3 _ _ ?_)
 refine Evo2.va ok 4 _ _ ?_
 (refine Evo2.cal ok 5 ?_ 71 ?_ ?_ ?_ ?_; rotate_left 2; (focus (intro w'; go_simp <;> with_reducible rfl)); (focus (intro w' g'; with_reducible exact tagOf_q g w')); simp only [Act.put, L0, L1, L2])
 refine Evo2.va ok 6 _ _ ?_
 first | (refine Evo2.vl ok 7 KC.out (Chg.refl (fun k => v.ownBlock = some k) _) _ _ ?_) | (refine Evo2.va ok 7 _ _ ?_)
 refine Evo2.all [8] (by decide +kernel) rfl ?_
 intro wp1 gp1 iq hq
 simp only [List.mem_cons, List.mem_nil_iff, or_false] at hq
 have AP1 := Chg.trans (Chg.refl (fun k => v.ownBlock = some k) _) (Chg.grow gp1)
 subst hq
 refine Evo2.enters 110 _ (by rfl) (by rfl) (by go_simp; exact ⟨rfl, rfl⟩) ?_
 refine (ptxt_any base v zs e.tg _ (own_later OB.out gp1) (Nat.le_trans hb gp1.size) (by omega) HN.out).mono ?_
 rintro x wc1 ⟨v1, rfl, O1, F1⟩; have CH1 := Chg.ofFr F1
 refine ⟨_, rfl, .inr CH1, ?_⟩
 have AC1 := Chg.trans AP1 CH1
 simp only [Act.put, L0, L1, L2]
 refine Evo2.va ok 9 _ _ ?_
 refine Evo2.done (by decide +kernel) (fun wz gz => ?_)
 have AZ := Chg.trans AC1 (Chg.grow gz)
 have OZ : Hid (OwnB wz base v1 (zs ++ PT.byt e .tg)) := Lib.hid (own_later O1 gz)
 have FZ := Lib.hid (Fr.Fr.trans (Fr.Fr.grow gp1 v) (Fr.Fr.trans F1 (Fr.Fr.grow gz v1)))
 clear AZ O1 F1 CH1 gp1 gz AP1 AC1 ok
 go_wp2_with fail
 go_ret
 exact ⟨_, rfl, OZ.out, FZ.out⟩
set_option maxHeartbeats 1000000 in
theorem wrt_c (base : Nat) (v : Value) (zs : List Int) (e : EvD) (a : Option Addr) (c : Nat) (A B g : Nat) (w : World) (hg : Blk w g (e.cells a c) 28) (ha : Blk w A #[.func (.func 60) #[] #[]] 105) (F0 F2 : FuncId) (c0 c2 : Array Value) (hbb : Blk w B #[.func (.func F0) #[] c0, .func (.func 91) #[] #[], .func (.func F2) #[] c2] 110)
  (ho : OwnB w base v zs) (hb : base ≤ w.heap.size) (hz : 1 ≤ zs.length ∧ zs.length ≤ 1000) (hn : e.c.nm.size ≤ 255) (h1 : 0 ≤ e.c.im ∧ e.c.im < 256) (h2 : 0 ≤ e.c.co ∧ e.c.co < 256) (h3 : 0 ≤ e.c.mn ∧ e.c.mn < 256) (h4 : 0 ≤ e.c.mx ∧ e.c.mx < 256) (h5 : 0 ≤ e.c.gr ∧ e.c.gr < 256) :
  Calls Tryz.prog 88 #[v, ptr g, ptr B, ptr A] w fun x w' => ∃ v', x = .returned v' ∧ OwnB w' base v' (zs ++ PT.byt e .c) ∧ Fr.Fr w w' v v' := by
 have NG : ¬ v.ownBlock = some g := own_apart ho hz.1 hg (by intro z; simp [EvD.cells])
 have NA : ¬ v.ownBlock = some A := own_apart ho hz.1 ha (by intro z; simp)
 have NB : ¬ v.ownBlock = some B := own_apart ho hz.1 hbb (by intro z; simp)
 have KC := Lib.hid (fun (w' : World) (h : Chg (fun k => v.ownBlock = some k) w w') => (⟨h.cell (evcell ha (i := 0) rfl) NA, h.cell (evcell hbb (i := 1) rfl) NB, h.cell (evcell hg (i := 5) rfl) NG, h.cell (evcell hg (i := 6) rfl) NG, h.cell (evcell hg (i := 7) rfl) NG, h.cell (evcell hg (i := 8) rfl) NG, h.cell (evcell hg (i := 9) rfl) NG, h.cell (evcell hg (i := 10) rfl) NG⟩ : w'.cell? ⟨A, 0, none⟩ = some (.func (.func 60) #[] #[]) ∧ w'.cell? ⟨B, 1, none⟩ = some (.func (.func 91) #[] #[]) ∧ w'.cell? ⟨g, 5, none⟩ = some (.string e.c.nm) ∧ w'.cell? ⟨g, 6, none⟩ = some (.int .i64 e.c.im) ∧ w'.cell? ⟨g, 7, none⟩ = some (.int .i64 e.c.co) ∧ w'.cell? ⟨g, 8, none⟩ = some (.int .i64 e.c.mn) ∧ w'.cell? ⟨g, 9, none⟩ = some (.int .i64 e.c.mx) ∧ w'.cell? ⟨g, 10, none⟩ = some (.int .i64 e.c.gr)))
 have OB := Lib.hid ho
 have hz1 := hz.2
 have HN := Lib.hid hn
 have H1 := Lib.hid h1
 have H2 := Lib.hid h2
 have H3 := Lib.hid h3
 have H4 := Lib.hid h4
 have H5 := Lib.hid h5
 clear hg ha hbb ho hz NG NA NB hn h1 h2 h3 h4 h5
 go_enter Tryz.func88, Tryz.ntmps88
 go_wp2_with fail
 refine Evo2.start' (ℓ := none) (S := Chg (fun k => v.ownBlock = some k)) (E := Grow.G) (by kernel_rfl) ⟨Chg.pre _, by decide +kernel, (by intro c a d v w h; cases d <;> exact h), by decide +kernel⟩ (fun ok => ?_)
 refine Evo2.va ok 0 _ _ ?_
 first | (refine Evo2.vl ok 1 KC.out (Chg.refl (fun k => v.ownBlock = some k) _) _ _ ?_) | (refine Evo2.va ok 1 _ _ ?_)
 refine Evo2.va ok 2 _ _ ?_
 first | (refine Evo2.vl ok 3 KC.out (Chg.refl (fun k => v.ownBlock = some k) _) _ _ ?_) | (refine Evo2.va ok 3 _ _ ?_)
 refine Evo2.va ok 4 _ _ ?_
 (refine Evo2.cal ok 5 ?_ 60 ?_ ?_ ?_ ?_; rotate_left 2; (focus (intro w'; go_simp <;> with_reducible rfl)); (focus (intro w' g'; with_reducible exact configOf_q g w')); simp only [Act.put, L0, L1, L2])
 refine Evo2.va ok 6 _ _ ?_
 first | (refine Evo2.vl ok 7 KC.out (Chg.refl (fun k => v.ownBlock = some k) _) _ _ ?_) | (refine Evo2.va ok 7 _ _ ?_)
 refine Evo2.all [8] (by decide +kernel) rfl ?_
 intro wp1 gp1 iq hq
 simp only [List.mem_cons, List.mem_nil_iff, or_false] at hq
 have AP1 := Chg.trans (Chg.refl (fun k => v.ownBlock = some k) _) (Chg.grow gp1)
 subst hq
 refine Evo2.enters 91 _ (by rfl) (by rfl) (by go_simp; exact ⟨rfl, rfl⟩) ?_
 refine (pcfg_any base v zs e.c _ (own_later OB.out gp1) (Nat.le_trans hb gp1.size) (by omega) HN.out H1.out H2.out H3.out H4.out H5.out).mono ?_
 rintro x wc1 ⟨v1, rfl, O1, F1⟩; have CH1 := Chg.ofFr F1
 refine ⟨_, rfl, .inr CH1, ?_⟩
 have AC1 := Chg.trans AP1 CH1
 simp only [Act.put, L0, L1, L2]
 refine Evo2.va ok 9 _ _ ?_
 refine Evo2.done (by decide +kernel) (fun wz gz => ?_)
 have AZ := Chg.trans AC1 (Chg.grow gz)
 have OZ : Hid (OwnB wz base v1 (zs ++ PT.byt e .c)) := Lib.hid (own_later O1 gz)
 have FZ := Lib.hid (Fr.Fr.trans (Fr.Fr.grow gp1 v) (Fr.Fr.trans F1 (Fr.Fr.grow gz v1)))
 clear AZ O1 F1 CH1 gp1 gz AP1 AC1 ok
 go_wp2_with fail
 go_ret
 exact ⟨_, rfl, OZ.out, FZ.out⟩
set_option maxHeartbeats 1000000 in
theorem wrt_r (base : Nat) (v : Value) (zs : List Int) (e : EvD) (a : Option Addr) (c : Nat) (A B g : Nat) (w : World) (hg : Blk w g (e.cells a c) 28) (ha : Blk w A #[.func (.func 63) #[] #[]] 113) (F0 F2 : FuncId) (c0 c2 : Array Value) (hbb : Blk w B #[.func (.func F0) #[] c0, .func (.func 98) #[] #[], .func (.func F2) #[] c2] 118)
  (ho : OwnB w base v zs) (hb : base ≤ w.heap.size) (hz : 1 ≤ zs.length ∧ zs.length ≤ 1000) (h1 : e.rn.size ≤ 255) (h2 : e.rc.size ≤ 255) (h3 : 0 ≤ e.rr ∧ e.rr < 256) (h4 : e.ts.length ≤ 6) (h5 : ∀ w', Below base w w' → TgtSl w' a e.ts) (h6 : ∀ i, i < e.ts.length → tgtOk (e.ts.getD i tg0)) :
  Calls Tryz.prog 95 #[v, ptr g, ptr B, ptr A] w fun x w' => ∃ v', x = .returned v' ∧ OwnB w' base v' (zs ++ PT.byt e .r) ∧ Fr.Fr w w' v v' := by
 have NG : ¬ v.ownBlock = some g := own_apart ho hz.1 hg (by intro z; simp [EvD.cells])
 have NA : ¬ v.ownBlock = some A := own_apart ho hz.1 ha (by intro z; simp)
 have NB : ¬ v.ownBlock = some B := own_apart ho hz.1 hbb (by intro z; simp)
 have KC := Lib.hid (fun (w' : World) (h : Chg (fun k => v.ownBlock = some k) w w') => (⟨h.cell (evcell ha (i := 0) rfl) NA, h.cell (evcell hbb (i := 1) rfl) NB, h.cell (evcell hg (i := 11) rfl) NG, h.cell (evcell hg (i := 12) rfl) NG, h.cell (evcell hg (i := 13) rfl) NG, h.cell (evcell hg (i := 14) rfl) NG⟩ : w'.cell? ⟨A, 0, none⟩ = some (.func (.func 63) #[] #[]) ∧ w'.cell? ⟨B, 1, none⟩ = some (.func (.func 98) #[] #[]) ∧ w'.cell? ⟨g, 11, none⟩ = some (.string e.rn) ∧ w'.cell? ⟨g, 12, none⟩ = some (.string e.rc) ∧ w'.cell? ⟨g, 13, none⟩ = some (.slice a e.ts.length c) ∧ w'.cell? ⟨g, 14, none⟩ = some (.int .i64 e.rr)))
 have OB := Lib.hid ho
 have hz1 := hz.2
 have H1 := Lib.hid h1
 have H2 := Lib.hid h2
 have H3 := Lib.hid h3
 have H5 := Lib.hid h5
 have H6 := Lib.hid h6
 clear hg ha hbb ho hz NG NA NB h1 h2 h3 h5 h6
 go_enter Tryz.func95, Tryz.ntmps95
 go_wp2_with fail
 refine Evo2.start' (ℓ := none) (S := Chg (fun k => v.ownBlock = some k)) (E := Grow.G) (by kernel_rfl) ⟨Chg.pre _, by decide +kernel, (by intro c a d v w h; cases d <;> exact h), by decide +kernel⟩ (fun ok => ?_)
 refine Evo2.va ok 0 _ _ ?_
 first | (refine Evo2.vl ok 1 KC.out (Chg.refl (fun k => v.ownBlock = some k) _) _ _ ?_) | (refine Evo2.va ok 1 _ _ ?_)
 refine Evo2.va ok 2 _ _ ?_
 first | (refine Evo2.vl ok 3 KC.out (Chg.refl (fun k => v.ownBlock = some k) _) _ _ ?_) | (refine Evo2.va ok 3 _ _ ?_)
 refine Evo2.va ok 4 _ _ ?_
 (refine Evo2.cal ok 5 ?_ 63 ?_ ?_ ?_ ?_; rotate_left 2; (focus (intro w'; go_simp <;> with_reducible rfl)); (focus (intro w' g'; with_reducible exact routeOf_q g w')); simp only [Act.put, L0, L1, L2])
 refine Evo2.va ok 6 _ _ ?_
 first | (refine Evo2.vl ok 7 KC.out (Chg.refl (fun k => v.ownBlock = some k) _) _ _ ?_) | (refine Evo2.va ok 7 _ _ ?_)
 refine Evo2.all [8] (by decide +kernel) rfl ?_
 intro wp1 gp1 iq hq
 simp only [List.mem_cons, List.mem_nil_iff, or_false] at hq
 have AP1 := Chg.trans (Chg.refl (fun k => v.ownBlock = some k) _) (Chg.grow gp1)
 subst hq
 refine Evo2.enters 98 _ (by rfl) (by rfl) (by go_simp; exact ⟨rfl, rfl⟩) ?_
 refine (prt_any base v zs e.rn e.rc a e.ts c e.rr _ (own_later OB.out gp1) (Nat.le_trans hb gp1.size) (by omega) H1.out H2.out H3.out h4 (fun w' hw => H5.out w' (Below.trans (Below.mono gp1 hb) hw)) H6.out).mono ?_
 rintro x wc1 ⟨v1, rfl, O1, F1⟩; have CH1 := Chg.ofFr F1
 refine ⟨_, rfl, .inr CH1, ?_⟩
 have AC1 := Chg.trans AP1 CH1
 simp only [Act.put, L0, L1, L2]
 refine Evo2.va ok 9 _ _ ?_
 refine Evo2.done (by decide +kernel) (fun wz gz => ?_)
 have AZ := Chg.trans AC1 (Chg.grow gz)
 have OZ : Hid (OwnB wz base v1 (zs ++ PT.byt e .r)) := Lib.hid (own_later O1 gz)
 have FZ := Lib.hid (Fr.Fr.trans (Fr.Fr.grow gp1 v) (Fr.Fr.trans F1 (Fr.Fr.grow gz v1)))
 clear AZ O1 F1 CH1 gp1 gz AP1 AC1 ok
 go_wp2_with fail
 go_ret
 exact ⟨_, rfl, OZ.out, FZ.out⟩

/-- An event that is being read: its box, its targets elsewhere. -/
def EvR (w : World) (g rb : Nat) (e : EvD) : Prop := ∃ a c, Blk w g (e.cells a c) 28 ∧ TgtSl w a e.ts ∧ ∀ b off, a = some ⟨b, off, none⟩ → g < b ∧ rb < b
theorem blk_apart {w : World} {g h : Nat} {cs ds : Array Value} {T U : TypeId} (k : Blk w g cs T) (l : Blk w h ds U) (hne : cs[0]? ≠ ds[0]?) : g ≠ h := fun e => by
 subst e
 exact hne ((k.cell 0).symm.trans (l.cell 0))
theorem num3_any (rb sb : Nat) (s : LS) (w : World) (hr : RdAt w rb sb s) (hne : sb ≠ rb) (hbt : Bts s.1) :
  Calls Tryz.prog 103 #[ptr rb] w fun e w' => e = .returned (.int .i64 (Lnum 4 s).1) ∧ RdAt w' rb sb (Lnum 4 s).2 ∧ Chg (fun k => k = rb) w w' := by
 have P := Lib.hid (rdnum_any rb sb s 4 w hr hne (by decide) hbt)
 clear hr hbt
 generalize Lnum 4 s = y at *
 obtain ⟨y1, y2⟩ := y
 dsimp only at *
 go_enter Tryz.func103, Tryz.ntmps103
 go_wp2_with fail
 refine P.out.mono ?_
 rintro e w1 ⟨rfl, h⟩
 have H := Lib.hid h
 clear h
 go_wp2_with fail
 go_ret
 exact ⟨rfl, H.out.1, H.out.2⟩
theorem rdcfg_at (rb sb : Nat) (s : LS) (w : World) (hr : RdAt w rb sb s) (hne : sb ≠ rb) (hsb : sb < w.heap.size) (hbt : Bts s.1) :
  Calls Tryz.prog 92 #[ptr rb] w fun e w' => e = .returned (.agg #[.string (Lcfg s).1.nm, .int .i64 (Lcfg s).1.im, .int .i64 (Lcfg s).1.co, .int .i64 (Lcfg s).1.mn, .int .i64 (Lcfg s).1.mx, .int .i64 (Lcfg s).1.gr]) ∧ RdAt w' rb sb (Lcfg s).2 ∧ Chg (fun k => k = rb) w w' := rdcfg_any rb sb s w hr hne hsb hbt
set_option maxHeartbeats 1000000 in
theorem rd_n (rb sb : Nat) (s : LS) (e : EvD) (lo hi : Int) (A B g : Nat) (w : World) (hg : EvR w g rb e) (ha : Blk w A #[.func (.func 57) #[] #[]] 98) (F0 F1 : FuncId) (c0 c1 : Array Value) (hbb : Blk w B #[.func (.func F0) #[] c0, .func (.func F1) #[] c1, .func (.func 103) #[] #[]] 102)
  (hr : RdAt w rb sb s) (hne : sb ≠ rb) (hsb : sb < w.heap.size) (hsg : sb ≠ g) (hbt : Bts s.1) :
  Calls Tryz.prog 85 #[ptr rb, ptr g, ptr B, ptr A] w fun x w' => (∃ v, x = .returned v) ∧ EvR w' g rb (PT.lr e (.n lo hi) s).1 ∧ RdAt w' rb sb (PT.lr e (.n lo hi) s).2 ∧ Chg (fun k => k = rb ∨ k = g) w w' := by
 obtain ⟨a, c, hg, ht, htb⟩ := hg
 have HR := Lib.hid hr
 have hrl := hr.lt
 obtain ⟨ra, rc, hrb, _⟩ := hr
 have NA : A ≠ rb := blk_apart ha hrb (by simp)
 have NB : B ≠ rb := blk_apart hbb hrb (by simp)
 have NG : g ≠ rb := blk_apart hg hrb (by simp [EvD.cells])
 have gl := hg.lt
 have KC := Lib.hid (fun (w' : World) (h : Chg (fun k => k = rb) w w') => (⟨h.cell (evcell ha (i := 0) rfl) NA, h.cell (evcell hbb (i := 2) rfl) NB⟩ : w'.cell? ⟨A, 0, none⟩ = some (.func (.func 57) #[] #[]) ∧ w'.cell? ⟨B, 2, none⟩ = some (.func (.func 103) #[] #[])))
 have HG := Lib.hid hg
 have HT := Lib.hid (And.intro ht htb)
 clear hg ha hbb hrb ht htb NA NB
 go_enter Tryz.func85, Tryz.ntmps85
 go_wp2_with fail
 refine Evo2.start' (ℓ := some 8) (S := Chg (fun k => k = rb)) (E := Grow.G) (by kernel_rfl) ⟨Chg.pre _, by decide +kernel, (by intro c a d v w h; cases d <;> exact h), by decide +kernel⟩ (fun ok => ?_)
 first | (refine Evo2.vl ok 0 KC.out (Chg.refl (fun k => k = rb) _) _ _ ?_) | (refine Evo2.va ok 0 _ _ ?_)
 refine Evo2.va ok 1 _ _ ?_
 (refine Evo2.cal ok 2 ?_ 57 ?_ ?_ ?_ ?_; rotate_left 2; (focus (intro w'; go_simp <;> with_reducible rfl)); (focus (intro w' g'; with_reducible exact numberOf_q g w')); simp only [Act.put, L0, L1, L2])
 refine Evo2.va ok 3 _ _ ?_
 first | (refine Evo2.vl ok 4 KC.out (Chg.refl (fun k => k = rb) _) _ _ ?_) | (refine Evo2.va ok 4 _ _ ?_)
 refine Evo2.va ok 5 _ _ ?_
 refine Evo2.all [6] (by decide +kernel) rfl ?_
 intro wp1 gp1 iq hq
 simp only [List.mem_cons, List.mem_nil_iff, or_false] at hq
 have AP1 := Chg.trans (Chg.refl (fun k => k = rb) _) (Chg.grow gp1)
 subst hq
 refine Evo2.enters 103 _ (by rfl) (by rfl) (by go_simp; exact ⟨rfl, rfl⟩) ?_
 refine (num3_any rb sb s _ (HR.out.grow gp1) hne hbt).mono ?_
 rintro x wc1 ⟨rfl, r1, CH1⟩
 refine ⟨_, rfl, .inr CH1, ?_⟩
 have AC1 := Chg.trans AP1 CH1
 simp only [Act.put, L0, L1, L2]
 refine Evo2.va ok 7 _ _ ?_
 refine Evo2.all [8] (by decide +kernel) rfl ?_
 intro wp2 gp2 iq hq
 simp only [List.mem_cons, List.mem_nil_iff, or_false] at hq
 have AP2 := Chg.trans AC1 (Chg.grow gp2)
 subst hq
 refine Evo2.runs (by rfl) (by rfl) (fun K' hK' => ?_)
 (try obtain ⟨q1, q2⟩ := KC.out wp2 AP2)
 have BQ := HG.out.chg AP2 NG; have gl2 := BQ.lt; have e0 := evcell BQ (i := 3) rfl; have f0 := BQ.free 3
 go_simp
 (try (simp only [Evo.after_value, Evo.after_skip]))
 refine hK'.out _ _ ?_
 clear hK'
 simp only [Act.put, L0, L1, L2]
 (try clear gl2 e0 f0)
 (try clear q1 q2)
 refine ⟨.inl (by first | rfl | trivial), ?_⟩
 refine Evo2.done (by decide +kernel) (fun wz gz => ?_)
 have BZ := (BQ.set 3 (.int .i64 (Lnum 4 s).1)).grow gz
 have CS : Chg (fun k => k = g) wp2 _ := (Chg.setCell (G := fun k => k = g) (Chg.refl _ _) (fun _ => rfl) 3 (.int .i64 (Lnum 4 s).1))
 have RZ := ((r1.grow gp2).chg CS (fun q => by have q : rb = g := q; omega) (fun q => by have q : sb = g := q; omega)).grow gz
 have TZ := ((((HT.out.1.later gp1).chg CH1 (fun b off hb q => by have q : b = rb := q; have := (HT.out.2 b off hb).2; omega)).later gp2).chg CS (fun b off hb q => by have q : b = g := q; have := (HT.out.2 b off hb).1; omega)).later gz
 have TB := HT.out.2
 have CZ := Chg.join (AP2.mono (G' := fun k => k = rb ∨ k = g) (fun _ _ h => .inl h)) (Chg.trans CS (Chg.grow gz)) (fun _ _ h => .inr h)
 have RES := Lib.hid (And.intro BZ (And.intro TZ (And.intro RZ CZ)))
 have TB := Lib.hid TB
 clear BQ BZ TZ RZ CZ CS gz gp1 gp2 AP1 AP2 CH1 AC1 r1 ok
 go_wp2_with fail
 go_end0
 exact ⟨⟨_, rfl⟩, ⟨_, _, RES.out.1, RES.out.2.1, TB.out⟩, RES.out.2.2.1, RES.out.2.2.2⟩
set_option maxHeartbeats 1000000 in
theorem rd_d (rb sb : Nat) (s : LS) (e : EvD) (lo hi : Int) (A B g : Nat) (w : World) (hg : EvR w g rb e) (ha : Blk w A #[.func (.func 70) #[] #[]] 98) (F0 F1 : FuncId) (c0 c1 : Array Value) (hbb : Blk w B #[.func (.func F0) #[] c0, .func (.func F1) #[] c1, .func (.func 103) #[] #[]] 102)
  (hr : RdAt w rb sb s) (hne : sb ≠ rb) (hsb : sb < w.heap.size) (hsg : sb ≠ g) (hbt : Bts s.1) :
  Calls Tryz.prog 85 #[ptr rb, ptr g, ptr B, ptr A] w fun x w' => (∃ v, x = .returned v) ∧ EvR w' g rb (PT.lr e (.d lo hi) s).1 ∧ RdAt w' rb sb (PT.lr e (.d lo hi) s).2 ∧ Chg (fun k => k = rb ∨ k = g) w w' := by
 obtain ⟨a, c, hg, ht, htb⟩ := hg
 have HR := Lib.hid hr
 have hrl := hr.lt
 obtain ⟨ra, rc, hrb, _⟩ := hr
 have NA : A ≠ rb := blk_apart ha hrb (by simp)
 have NB : B ≠ rb := blk_apart hbb hrb (by simp)
 have NG : g ≠ rb := blk_apart hg hrb (by simp [EvD.cells])
 have gl := hg.lt
 have KC := Lib.hid (fun (w' : World) (h : Chg (fun k => k = rb) w w') => (⟨h.cell (evcell ha (i := 0) rfl) NA, h.cell (evcell hbb (i := 2) rfl) NB⟩ : w'.cell? ⟨A, 0, none⟩ = some (.func (.func 70) #[] #[]) ∧ w'.cell? ⟨B, 2, none⟩ = some (.func (.func 103) #[] #[])))
 have HG := Lib.hid hg
 have HT := Lib.hid (And.intro ht htb)
 clear hg ha hbb hrb ht htb NA NB
 go_enter Tryz.func85, Tryz.ntmps85
 go_wp2_with fail
 refine Evo2.start' (ℓ := some 8) (S := Chg (fun k => k = rb)) (E := Grow.G) (by kernel_rfl) ⟨Chg.pre _, by decide +kernel, (by intro c a d v w h; cases d <;> exact h), by decide +kernel⟩ (fun ok => ?_)
 first | (refine Evo2.vl ok 0 KC.out (Chg.refl (fun k => k = rb) _) _ _ ?_) | (refine Evo2.va ok 0 _ _ ?_)
 refine Evo2.va ok 1 _ _ ?_
 (refine Evo2.cal ok 2 ?_ 70 ?_ ?_ ?_ ?_; rotate_left 2; (focus (intro w'; go_simp <;> with_reducible rfl)); (focus (intro w' g'; with_reducible exact drawOf_q g w')); simp only [Act.put, L0, L1, L2])
 refine Evo2.va ok 3 _ _ ?_
 first | (refine Evo2.vl ok 4 KC.out (Chg.refl (fun k => k = rb) _) _ _ ?_) | (refine Evo2.va ok 4 _ _ ?_)
 refine Evo2.va ok 5 _ _ ?_
 refine Evo2.all [6] (by decide +kernel) rfl ?_
 intro wp1 gp1 iq hq
 simp only [List.mem_cons, List.mem_nil_iff, or_false] at hq
 have AP1 := Chg.trans (Chg.refl (fun k => k = rb) _) (Chg.grow gp1)
 subst hq
 refine Evo2.enters 103 _ (by rfl) (by rfl) (by go_simp; exact ⟨rfl, rfl⟩) ?_
 refine (num3_any rb sb s _ (HR.out.grow gp1) hne hbt).mono ?_
 rintro x wc1 ⟨rfl, r1, CH1⟩
 refine ⟨_, rfl, .inr CH1, ?_⟩
 have AC1 := Chg.trans AP1 CH1
 simp only [Act.put, L0, L1, L2]
 refine Evo2.va ok 7 _ _ ?_
 refine Evo2.all [8] (by decide +kernel) rfl ?_
 intro wp2 gp2 iq hq
 simp only [List.mem_cons, List.mem_nil_iff, or_false] at hq
 have AP2 := Chg.trans AC1 (Chg.grow gp2)
 subst hq
 refine Evo2.runs (by rfl) (by rfl) (fun K' hK' => ?_)
 (try obtain ⟨q1, q2⟩ := KC.out wp2 AP2)
 have BQ := HG.out.chg AP2 NG; have gl2 := BQ.lt; have e0 := evcell BQ (i := 4) rfl; have f0 := BQ.free 4
 go_simp
 (try (simp only [Evo.after_value, Evo.after_skip]))
 refine hK'.out _ _ ?_
 clear hK'
 simp only [Act.put, L0, L1, L2]
 (try clear gl2 e0 f0)
 (try clear q1 q2)
 refine ⟨.inl (by first | rfl | trivial), ?_⟩
 refine Evo2.done (by decide +kernel) (fun wz gz => ?_)
 have BZ := (BQ.set 4 (.int .i64 (Lnum 4 s).1)).grow gz
 have CS : Chg (fun k => k = g) wp2 _ := (Chg.setCell (G := fun k => k = g) (Chg.refl _ _) (fun _ => rfl) 4 (.int .i64 (Lnum 4 s).1))
 have RZ := ((r1.grow gp2).chg CS (fun q => by have q : rb = g := q; omega) (fun q => by have q : sb = g := q; omega)).grow gz
 have TZ := ((((HT.out.1.later gp1).chg CH1 (fun b off hb q => by have q : b = rb := q; have := (HT.out.2 b off hb).2; omega)).later gp2).chg CS (fun b off hb q => by have q : b = g := q; have := (HT.out.2 b off hb).1; omega)).later gz
 have TB := HT.out.2
 have CZ := Chg.join (AP2.mono (G' := fun k => k = rb ∨ k = g) (fun _ _ h => .inl h)) (Chg.trans CS (Chg.grow gz)) (fun _ _ h => .inr h)
 have RES := Lib.hid (And.intro BZ (And.intro TZ (And.intro RZ CZ)))
 have TB := Lib.hid TB
 clear BQ BZ TZ RZ CZ CS gz gp1 gp2 AP1 AP2 CH1 AC1 r1 ok
 go_wp2_with fail
 go_end0
 exact ⟨⟨_, rfl⟩, ⟨_, _, RES.out.1, RES.out.2.1, TB.out⟩, RES.out.2.2.1, RES.out.2.2.2⟩
set_option maxHeartbeats 1000000 in
theorem rd_nm (rb sb : Nat) (s : LS) (e : EvD) (b : Bool) (A B g : Nat) (w : World) (hg : EvR w g rb e) (ha : Blk w A #[.func (.func 67) #[] #[]] 122) (F0 F1 : FuncId) (c0 c1 : Array Value) (hbb : Blk w B #[.func (.func F0) #[] c0, .func (.func F1) #[] c1, .func (.func 111) #[] #[]] 126)
  (hr : RdAt w rb sb s) (hne : sb ≠ rb) (hsb : sb < w.heap.size) (hsg : sb ≠ g) (hbt : Bts s.1) :
  Calls Tryz.prog 108 #[ptr rb, ptr g, ptr B, ptr A] w fun x w' => (∃ v, x = .returned v) ∧ EvR w' g rb (PT.lr e (.nm b) s).1 ∧ RdAt w' rb sb (PT.lr e (.nm b) s).2 ∧ Chg (fun k => k = rb ∨ k = g) w w' := by
 obtain ⟨a, c, hg, ht, htb⟩ := hg
 have HR := Lib.hid hr
 have hrl := hr.lt
 obtain ⟨ra, rc, hrb, _⟩ := hr
 have NA : A ≠ rb := blk_apart ha hrb (by simp)
 have NB : B ≠ rb := blk_apart hbb hrb (by simp)
 have NG : g ≠ rb := blk_apart hg hrb (by simp [EvD.cells])
 have gl := hg.lt
 have KC := Lib.hid (fun (w' : World) (h : Chg (fun k => k = rb) w w') => (⟨h.cell (evcell ha (i := 0) rfl) NA, h.cell (evcell hbb (i := 2) rfl) NB⟩ : w'.cell? ⟨A, 0, none⟩ = some (.func (.func 67) #[] #[]) ∧ w'.cell? ⟨B, 2, none⟩ = some (.func (.func 111) #[] #[])))
 have HG := Lib.hid hg
 have HT := Lib.hid (And.intro ht htb)
 clear hg ha hbb hrb ht htb NA NB
 go_enter Tryz.func108, Tryz.ntmps108
 go_wp2_with fail
 refine Evo2.start' (ℓ := some 8) (S := Chg (fun k => k = rb)) (E := Grow.G) (by kernel_rfl) ⟨Chg.pre _, by decide +kernel, (by intro c a d v w h; cases d <;> exact h), by decide +kernel⟩ (fun ok => ?_)
 first | (refine Evo2.vl ok 0 KC.out (Chg.refl (fun k => k = rb) _) _ _ ?_) | (refine Evo2.va ok 0 _ _ ?_)
 refine Evo2.va ok 1 _ _ ?_
 (refine Evo2.cal ok 2 ?_ 67 ?_ ?_ ?_ ?_; rotate_left 2; (focus (intro w'; go_simp <;> with_reducible rfl)); (focus (intro w' g'; with_reducible exact nameOf_q g w')); simp only [Act.put, L0, L1, L2])
 refine Evo2.va ok 3 _ _ ?_
 first | (refine Evo2.vl ok 4 KC.out (Chg.refl (fun k => k = rb) _) _ _ ?_) | (refine Evo2.va ok 4 _ _ ?_)
 refine Evo2.va ok 5 _ _ ?_
 refine Evo2.all [6] (by decide +kernel) rfl ?_
 intro wp1 gp1 iq hq
 simp only [List.mem_cons, List.mem_nil_iff, or_false] at hq
 have AP1 := Chg.trans (Chg.refl (fun k => k = rb) _) (Chg.grow gp1)
 subst hq
 refine Evo2.enters 111 _ (by rfl) (by rfl) (by go_simp; exact ⟨rfl, rfl⟩) ?_
 refine (rdtxt_any rb sb s _ (HR.out.grow gp1) hne hbt).mono ?_
 rintro x wc1 ⟨rfl, r1, CH1⟩
 refine ⟨_, rfl, .inr CH1, ?_⟩
 have AC1 := Chg.trans AP1 CH1
 simp only [Act.put, L0, L1, L2]
 refine Evo2.va ok 7 _ _ ?_
 refine Evo2.all [8] (by decide +kernel) rfl ?_
 intro wp2 gp2 iq hq
 simp only [List.mem_cons, List.mem_nil_iff, or_false] at hq
 have AP2 := Chg.trans AC1 (Chg.grow gp2)
 subst hq
 refine Evo2.runs (by rfl) (by rfl) (fun K' hK' => ?_)
 (try obtain ⟨q1, q2⟩ := KC.out wp2 AP2)
 have BQ := HG.out.chg AP2 NG; have gl2 := BQ.lt; have e0 := evcell BQ (i := 1) rfl; have f0 := BQ.free 1
 go_simp
 (try (simp only [Evo.after_value, Evo.after_skip]))
 refine hK'.out _ _ ?_
 clear hK'
 simp only [Act.put, L0, L1, L2]
 (try clear gl2 e0 f0)
 (try clear q1 q2)
 refine ⟨.inl (by first | rfl | trivial), ?_⟩
 refine Evo2.done (by decide +kernel) (fun wz gz => ?_)
 have BZ := (BQ.set 1 (.string (Ltxt s).1)).grow gz
 have CS : Chg (fun k => k = g) wp2 _ := (Chg.setCell (G := fun k => k = g) (Chg.refl _ _) (fun _ => rfl) 1 (.string (Ltxt s).1))
 have RZ := ((r1.grow gp2).chg CS (fun q => by have q : rb = g := q; omega) (fun q => by have q : sb = g := q; omega)).grow gz
 have TZ := ((((HT.out.1.later gp1).chg CH1 (fun b off hb q => by have q : b = rb := q; have := (HT.out.2 b off hb).2; omega)).later gp2).chg CS (fun b off hb q => by have q : b = g := q; have := (HT.out.2 b off hb).1; omega)).later gz
 have TB := HT.out.2
 have CZ := Chg.join (AP2.mono (G' := fun k => k = rb ∨ k = g) (fun _ _ h => .inl h)) (Chg.trans CS (Chg.grow gz)) (fun _ _ h => .inr h)
 have RES := Lib.hid (And.intro BZ (And.intro TZ (And.intro RZ CZ)))
 have TB := Lib.hid TB
 clear BQ BZ TZ RZ CZ CS gz gp1 gp2 AP1 AP2 CH1 AC1 r1 ok
 go_wp2_with fail
 go_end0
 exact ⟨⟨_, rfl⟩, ⟨_, _, RES.out.1, RES.out.2.1, TB.out⟩, RES.out.2.2.1, RES.out.2.2.2⟩
set_option maxHeartbeats 1000000 in
theorem rd_tg (rb sb : Nat) (s : LS) (e : EvD) (A B g : Nat) (w : World) (hg : EvR w g rb e) (ha : Blk w A #[.func (.func 71) #[] #[]] 122) (F0 F1 : FuncId) (c0 c1 : Array Value) (hbb : Blk w B #[.func (.func F0) #[] c0, .func (.func F1) #[] c1, .func (.func 111) #[] #[]] 126)
  (hr : RdAt w rb sb s) (hne : sb ≠ rb) (hsb : sb < w.heap.size) (hsg : sb ≠ g) (hbt : Bts s.1) :
  Calls Tryz.prog 108 #[ptr rb, ptr g, ptr B, ptr A] w fun x w' => (∃ v, x = .returned v) ∧ EvR w' g rb (PT.lr e .tg s).1 ∧ RdAt w' rb sb (PT.lr e .tg s).2 ∧ Chg (fun k => k = rb ∨ k = g) w w' := by
 obtain ⟨a, c, hg, ht, htb⟩ := hg
 have HR := Lib.hid hr
 have hrl := hr.lt
 obtain ⟨ra, rc, hrb, _⟩ := hr
 have NA : A ≠ rb := blk_apart ha hrb (by simp)
 have NB : B ≠ rb := blk_apart hbb hrb (by simp)
 have NG : g ≠ rb := blk_apart hg hrb (by simp [EvD.cells])
 have gl := hg.lt
 have KC := Lib.hid (fun (w' : World) (h : Chg (fun k => k = rb) w w') => (⟨h.cell (evcell ha (i := 0) rfl) NA, h.cell (evcell hbb (i := 2) rfl) NB⟩ : w'.cell? ⟨A, 0, none⟩ = some (.func (.func 71) #[] #[]) ∧ w'.cell? ⟨B, 2, none⟩ = some (.func (.func 111) #[] #[])))
 have HG := Lib.hid hg
 have HT := Lib.hid (And.intro ht htb)
 clear hg ha hbb hrb ht htb NA NB
 go_enter Tryz.func108, Tryz.ntmps108
 go_wp2_with fail
 refine Evo2.start' (ℓ := some 8) (S := Chg (fun k => k = rb)) (E := Grow.G) (by kernel_rfl) ⟨Chg.pre _, by decide +kernel, (by intro c a d v w h; cases d <;> exact h), by decide +kernel⟩ (fun ok => ?_)
 first | (refine Evo2.vl ok 0 KC.out (Chg.refl (fun k => k = rb) _) _ _ ?_) | (refine Evo2.va ok 0 _ _ ?_)
 refine Evo2.va ok 1 _ _ ?_
 (refine Evo2.cal ok 2 ?_ 71 ?_ ?_ ?_ ?_; rotate_left 2; (focus (intro w'; go_simp <;> with_reducible rfl)); (focus (intro w' g'; with_reducible exact tagOf_q g w')); simp only [Act.put, L0, L1, L2])
 refine Evo2.va ok 3 _ _ ?_
 first | (refine Evo2.vl ok 4 KC.out (Chg.refl (fun k => k = rb) _) _ _ ?_) | (refine Evo2.va ok 4 _ _ ?_)
 refine Evo2.va ok 5 _ _ ?_
 refine Evo2.all [6] (by decide +kernel) rfl ?_
 intro wp1 gp1 iq hq
 simp only [List.mem_cons, List.mem_nil_iff, or_false] at hq
 have AP1 := Chg.trans (Chg.refl (fun k => k = rb) _) (Chg.grow gp1)
 subst hq
 refine Evo2.enters 111 _ (by rfl) (by rfl) (by go_simp; exact ⟨rfl, rfl⟩) ?_
 refine (rdtxt_any rb sb s _ (HR.out.grow gp1) hne hbt).mono ?_
 rintro x wc1 ⟨rfl, r1, CH1⟩
 refine ⟨_, rfl, .inr CH1, ?_⟩
 have AC1 := Chg.trans AP1 CH1
 simp only [Act.put, L0, L1, L2]
 refine Evo2.va ok 7 _ _ ?_
 refine Evo2.all [8] (by decide +kernel) rfl ?_
 intro wp2 gp2 iq hq
 simp only [List.mem_cons, List.mem_nil_iff, or_false] at hq
 have AP2 := Chg.trans AC1 (Chg.grow gp2)
 subst hq
 refine Evo2.runs (by rfl) (by rfl) (fun K' hK' => ?_)
 (try obtain ⟨q1, q2⟩ := KC.out wp2 AP2)
 have BQ := HG.out.chg AP2 NG; have gl2 := BQ.lt; have e0 := evcell BQ (i := 2) rfl; have f0 := BQ.free 2
 go_simp
 (try (simp only [Evo.after_value, Evo.after_skip]))
 refine hK'.out _ _ ?_
 clear hK'
 simp only [Act.put, L0, L1, L2]
 (try clear gl2 e0 f0)
 (try clear q1 q2)
 refine ⟨.inl (by first | rfl | trivial), ?_⟩
 refine Evo2.done (by decide +kernel) (fun wz gz => ?_)
 have BZ := (BQ.set 2 (.string (Ltxt s).1)).grow gz
 have CS : Chg (fun k => k = g) wp2 _ := (Chg.setCell (G := fun k => k = g) (Chg.refl _ _) (fun _ => rfl) 2 (.string (Ltxt s).1))
 have RZ := ((r1.grow gp2).chg CS (fun q => by have q : rb = g := q; omega) (fun q => by have q : sb = g := q; omega)).grow gz
 have TZ := ((((HT.out.1.later gp1).chg CH1 (fun b off hb q => by have q : b = rb := q; have := (HT.out.2 b off hb).2; omega)).later gp2).chg CS (fun b off hb q => by have q : b = g := q; have := (HT.out.2 b off hb).1; omega)).later gz
 have TB := HT.out.2
 have CZ := Chg.join (AP2.mono (G' := fun k => k = rb ∨ k = g) (fun _ _ h => .inl h)) (Chg.trans CS (Chg.grow gz)) (fun _ _ h => .inr h)
 have RES := Lib.hid (And.intro BZ (And.intro TZ (And.intro RZ CZ)))
 have TB := Lib.hid TB
 clear BQ BZ TZ RZ CZ CS gz gp1 gp2 AP1 AP2 CH1 AC1 r1 ok
 go_wp2_with fail
 go_end0
 exact ⟨⟨_, rfl⟩, ⟨_, _, RES.out.1, RES.out.2.1, TB.out⟩, RES.out.2.2.1, RES.out.2.2.2⟩
set_option maxHeartbeats 1000000 in
theorem rd_c (rb sb : Nat) (s : LS) (e : EvD) (A B g : Nat) (w : World) (hg : EvR w g rb e) (ha : Blk w A #[.func (.func 60) #[] #[]] 105) (F0 F1 : FuncId) (c0 c1 : Array Value) (hbb : Blk w B #[.func (.func F0) #[] c0, .func (.func F1) #[] c1, .func (.func 92) #[] #[]] 110)
  (hr : RdAt w rb sb s) (hne : sb ≠ rb) (hsb : sb < w.heap.size) (hsg : sb ≠ g) (hbt : Bts s.1) :
  Calls Tryz.prog 89 #[ptr rb, ptr g, ptr B, ptr A] w fun x w' => (∃ v, x = .returned v) ∧ EvR w' g rb (PT.lr e .c s).1 ∧ RdAt w' rb sb (PT.lr e .c s).2 ∧ Chg (fun k => k = rb ∨ k = g) w w' := by
 obtain ⟨a, c, hg, ht, htb⟩ := hg
 have HR := Lib.hid hr
 have hrl := hr.lt
 obtain ⟨ra, rc, hrb, _⟩ := hr
 have NA : A ≠ rb := blk_apart ha hrb (by simp)
 have NB : B ≠ rb := blk_apart hbb hrb (by simp)
 have NG : g ≠ rb := blk_apart hg hrb (by simp [EvD.cells])
 have gl := hg.lt
 have KC := Lib.hid (fun (w' : World) (h : Chg (fun k => k = rb) w w') => (⟨h.cell (evcell ha (i := 0) rfl) NA, h.cell (evcell hbb (i := 2) rfl) NB⟩ : w'.cell? ⟨A, 0, none⟩ = some (.func (.func 60) #[] #[]) ∧ w'.cell? ⟨B, 2, none⟩ = some (.func (.func 92) #[] #[])))
 have HG := Lib.hid hg
 have HT := Lib.hid (And.intro ht htb)
 clear hg ha hbb hrb ht htb NA NB
 go_enter Tryz.func89, Tryz.ntmps89
 go_wp2_with fail
 refine Evo2.start' (ℓ := some 8) (S := Chg (fun k => k = rb)) (E := Grow.G) (by kernel_rfl) ⟨Chg.pre _, by decide +kernel, (by intro c a d v w h; cases d <;> exact h), by decide +kernel⟩ (fun ok => ?_)
 first | (refine Evo2.vl ok 0 KC.out (Chg.refl (fun k => k = rb) _) _ _ ?_) | (refine Evo2.va ok 0 _ _ ?_)
 refine Evo2.va ok 1 _ _ ?_
 (refine Evo2.cal ok 2 ?_ 60 ?_ ?_ ?_ ?_; rotate_left 2; (focus (intro w'; go_simp <;> with_reducible rfl)); (focus (intro w' g'; with_reducible exact configOf_q g w')); simp only [Act.put, L0, L1, L2])
 refine Evo2.va ok 3 _ _ ?_
 first | (refine Evo2.vl ok 4 KC.out (Chg.refl (fun k => k = rb) _) _ _ ?_) | (refine Evo2.va ok 4 _ _ ?_)
 refine Evo2.va ok 5 _ _ ?_
 refine Evo2.all [6] (by decide +kernel) rfl ?_
 intro wp1 gp1 iq hq
 simp only [List.mem_cons, List.mem_nil_iff, or_false] at hq
 have AP1 := Chg.trans (Chg.refl (fun k => k = rb) _) (Chg.grow gp1)
 subst hq
 refine Evo2.enters 92 _ (by rfl) (by rfl) (by go_simp; exact ⟨rfl, rfl⟩) ?_
 refine (rdcfg_at rb sb s _ (HR.out.grow gp1) hne (Nat.lt_of_lt_of_le hsb gp1.size) hbt).mono ?_
 rintro x wc1 ⟨rfl, r1, CH1⟩
 refine ⟨_, rfl, .inr CH1, ?_⟩
 have AC1 := Chg.trans AP1 CH1
 simp only [Act.put, L0, L1, L2]
 refine Evo2.va ok 7 _ _ ?_
 refine Evo2.all [8] (by decide +kernel) rfl ?_
 intro wp2 gp2 iq hq
 simp only [List.mem_cons, List.mem_nil_iff, or_false] at hq
 have AP2 := Chg.trans AC1 (Chg.grow gp2)
 subst hq
 refine Evo2.runs (by rfl) (by rfl) (fun K' hK' => ?_)
 (try obtain ⟨q1, q2⟩ := KC.out wp2 AP2)
 have BQ := HG.out.chg AP2 NG; have gl2 := BQ.lt; have e0 := evcell BQ (i := 5) rfl; have f0 := BQ.free 5; have e1 := evcell BQ (i := 6) rfl; have f1 := BQ.free 6; have e2 := evcell BQ (i := 7) rfl; have f2 := BQ.free 7; have e3 := evcell BQ (i := 8) rfl; have f3 := BQ.free 8; have e4 := evcell BQ (i := 9) rfl; have f4 := BQ.free 9; have e5 := evcell BQ (i := 10) rfl; have f5 := BQ.free 10
 go_simp
 (try (simp only [Evo.after_value, Evo.after_skip]))
 refine hK'.out _ _ ?_
 clear hK'
 simp only [Act.put, L0, L1, L2]
 (try clear gl2 e0 f0 e1 f1 e2 f2 e3 f3 e4 f4 e5 f5)
 (try clear q1 q2)
 refine ⟨.inl (by first | rfl | trivial), ?_⟩
 refine Evo2.done (by decide +kernel) (fun wz gz => ?_)
 have BZ := ((((((BQ.set 5 (.string (Lcfg s).1.nm)).set 6 (.int .i64 (Lcfg s).1.im)).set 7 (.int .i64 (Lcfg s).1.co)).set 8 (.int .i64 (Lcfg s).1.mn)).set 9 (.int .i64 (Lcfg s).1.mx)).set 10 (.int .i64 (Lcfg s).1.gr)).grow gz
 have CS : Chg (fun k => k = g) wp2 _ := (Chg.setCell (G := fun k => k = g) (Chg.setCell (G := fun k => k = g) (Chg.setCell (G := fun k => k = g) (Chg.setCell (G := fun k => k = g) (Chg.setCell (G := fun k => k = g) (Chg.setCell (G := fun k => k = g) (Chg.refl _ _) (fun _ => rfl) 5 (.string (Lcfg s).1.nm)) (fun _ => rfl) 6 (.int .i64 (Lcfg s).1.im)) (fun _ => rfl) 7 (.int .i64 (Lcfg s).1.co)) (fun _ => rfl) 8 (.int .i64 (Lcfg s).1.mn)) (fun _ => rfl) 9 (.int .i64 (Lcfg s).1.mx)) (fun _ => rfl) 10 (.int .i64 (Lcfg s).1.gr))
 have RZ := ((r1.grow gp2).chg CS (fun q => by have q : rb = g := q; omega) (fun q => by have q : sb = g := q; omega)).grow gz
 have TZ := ((((HT.out.1.later gp1).chg CH1 (fun b off hb q => by have q : b = rb := q; have := (HT.out.2 b off hb).2; omega)).later gp2).chg CS (fun b off hb q => by have q : b = g := q; have := (HT.out.2 b off hb).1; omega)).later gz
 have TB := HT.out.2
 have CZ := Chg.join (AP2.mono (G' := fun k => k = rb ∨ k = g) (fun _ _ h => .inl h)) (Chg.trans CS (Chg.grow gz)) (fun _ _ h => .inr h)
 have RES := Lib.hid (And.intro BZ (And.intro TZ (And.intro RZ CZ)))
 have TB := Lib.hid TB
 clear BQ BZ TZ RZ CZ CS gz gp1 gp2 AP1 AP2 CH1 AC1 r1 ok
 go_wp2_with fail
 go_end0
 exact ⟨⟨_, rfl⟩, ⟨_, _, RES.out.1, RES.out.2.1, TB.out⟩, RES.out.2.2.1, RES.out.2.2.2⟩
set_option maxHeartbeats 1000000 in
theorem rd_r (rb sb : Nat) (s : LS) (e : EvD) (A B g : Nat) (w : World) (hg : EvR w g rb e) (ha : Blk w A #[.func (.func 63) #[] #[]] 113) (F0 F1 : FuncId) (c0 c1 : Array Value) (hbb : Blk w B #[.func (.func F0) #[] c0, .func (.func F1) #[] c1, .func (.func 99) #[] #[]] 118)
  (hr : RdAt w rb sb s) (hne : sb ≠ rb) (hsb : sb < w.heap.size) (hsg : sb ≠ g) (hbt : Bts s.1) :
  Calls Tryz.prog 96 #[ptr rb, ptr g, ptr B, ptr A] w fun x w' => (∃ v, x = .returned v) ∧ EvR w' g rb (PT.lr e .r s).1 ∧ RdAt w' rb sb (PT.lr e .r s).2 ∧ Chg (fun k => k = rb ∨ k = g) w w' := by
 obtain ⟨a, c, hg, ht, htb⟩ := hg
 have HR := Lib.hid hr
 have hrl := hr.lt
 obtain ⟨ra, rc, hrb, _⟩ := hr
 have NA : A ≠ rb := blk_apart ha hrb (by simp)
 have NB : B ≠ rb := blk_apart hbb hrb (by simp)
 have NG : g ≠ rb := blk_apart hg hrb (by simp [EvD.cells])
 have gl := hg.lt
 have KC := Lib.hid (fun (w' : World) (h : Chg (fun k => k = rb) w w') => (⟨h.cell (evcell ha (i := 0) rfl) NA, h.cell (evcell hbb (i := 2) rfl) NB⟩ : w'.cell? ⟨A, 0, none⟩ = some (.func (.func 63) #[] #[]) ∧ w'.cell? ⟨B, 2, none⟩ = some (.func (.func 99) #[] #[])))
 have HG := Lib.hid hg
 have HT := Lib.hid (And.intro ht htb)
 clear hg ha hbb hrb ht htb NA NB
 go_enter Tryz.func96, Tryz.ntmps96
 go_wp2_with fail
 refine Evo2.start' (ℓ := some 8) (S := Chg (fun k => k = rb)) (E := Grow.G) (by kernel_rfl) ⟨Chg.pre _, by decide +kernel, (by intro c a d v w h; cases d <;> exact h), by decide +kernel⟩ (fun ok => ?_)
 first | (refine Evo2.vl ok 0 KC.out (Chg.refl (fun k => k = rb) _) _ _ ?_) | (refine Evo2.va ok 0 _ _ ?_)
 refine Evo2.va ok 1 _ _ ?_
 (refine Evo2.cal ok 2 ?_ 63 ?_ ?_ ?_ ?_; rotate_left 2; (focus (intro w'; go_simp <;> with_reducible rfl)); (focus (intro w' g'; with_reducible exact routeOf_q g w')); simp only [Act.put, L0, L1, L2])
 refine Evo2.va ok 3 _ _ ?_
 first | (refine Evo2.vl ok 4 KC.out (Chg.refl (fun k => k = rb) _) _ _ ?_) | (refine Evo2.va ok 4 _ _ ?_)
 refine Evo2.va ok 5 _ _ ?_
 refine Evo2.all [6] (by decide +kernel) rfl ?_
 intro wp1 gp1 iq hq
 simp only [List.mem_cons, List.mem_nil_iff, or_false] at hq
 have AP1 := Chg.trans (Chg.refl (fun k => k = rb) _) (Chg.grow gp1)
 subst hq
 refine Evo2.enters 99 _ (by rfl) (by rfl) (by go_simp; exact ⟨rfl, rfl⟩) ?_
 refine (rdrt_any rb sb s _ (HR.out.grow gp1) hne (Nat.lt_of_lt_of_le hsb gp1.size) hbt).mono ?_
 rintro x wc1 ⟨a1, c1, rfl, O1, r1, CH1⟩
 refine ⟨_, rfl, .inr CH1, ?_⟩
 have AC1 := Chg.trans AP1 CH1
 simp only [Act.put, L0, L1, L2]
 refine Evo2.va ok 7 _ _ ?_
 refine Evo2.all [8] (by decide +kernel) rfl ?_
 intro wp2 gp2 iq hq
 simp only [List.mem_cons, List.mem_nil_iff, or_false] at hq
 have AP2 := Chg.trans AC1 (Chg.grow gp2)
 subst hq
 refine Evo2.runs (by rfl) (by rfl) (fun K' hK' => ?_)
 (try obtain ⟨q1, q2⟩ := KC.out wp2 AP2)
 have BQ := HG.out.chg AP2 NG; have gl2 := BQ.lt; have e0 := evcell BQ (i := 11) rfl; have f0 := BQ.free 11; have e1 := evcell BQ (i := 12) rfl; have f1 := BQ.free 12; have e2 := evcell BQ (i := 13) rfl; have f2 := BQ.free 13; have e3 := evcell BQ (i := 14) rfl; have f3 := BQ.free 14
 go_simp
 (try (simp only [Evo.after_value, Evo.after_skip]))
 refine hK'.out _ _ ?_
 clear hK'
 simp only [Act.put, L0, L1, L2]
 (try clear gl2 e0 f0 e1 f1 e2 f2 e3 f3)
 (try clear q1 q2)
 refine ⟨.inl (by first | rfl | trivial), ?_⟩
 refine Evo2.done (by decide +kernel) (fun wz gz => ?_)
 have BZ := ((((BQ.set 11 (.string (Lrt s).1.1)).set 12 (.string (Lrt s).1.2.1)).set 13 (.slice a1 (Lrt s).1.2.2.2.length c1)).set 14 (.int .i64 (Lrt s).1.2.2.1)).grow gz
 have CS : Chg (fun k => k = g) wp2 _ := (Chg.setCell (G := fun k => k = g) (Chg.setCell (G := fun k => k = g) (Chg.setCell (G := fun k => k = g) (Chg.setCell (G := fun k => k = g) (Chg.refl _ _) (fun _ => rfl) 11 (.string (Lrt s).1.1)) (fun _ => rfl) 12 (.string (Lrt s).1.2.1)) (fun _ => rfl) 13 (.slice a1 (Lrt s).1.2.2.2.length c1)) (fun _ => rfl) 14 (.int .i64 (Lrt s).1.2.2.1))
 have RZ := ((r1.grow gp2).chg CS (fun q => by have q : rb = g := q; omega) (fun q => by have q : sb = g := q; omega)).grow gz
 have tg := OwnTs.tgts O1
 have TZ := (((tg.1.later gp2).chg CS (fun b off hb q => by have q : b = g := q; have := (tg.2 b off hb).1; have := gp1.size; omega)).later gz)
 have TB : ∀ b off, a1 = some ⟨b, off, none⟩ → g < b ∧ rb < b := fun b off hb => by have := (tg.2 b off hb).1; have := gp1.size; constructor <;> omega
 have CZ := Chg.join (AP2.mono (G' := fun k => k = rb ∨ k = g) (fun _ _ h => .inl h)) (Chg.trans CS (Chg.grow gz)) (fun _ _ h => .inr h)
 have RES := Lib.hid (And.intro BZ (And.intro TZ (And.intro RZ CZ)))
 have TB := Lib.hid TB
 clear BQ BZ TZ RZ CZ CS gz gp1 gp2 AP1 AP2 CH1 AC1 r1 ok
 go_wp2_with fail
 go_end0
 exact ⟨⟨_, rfl⟩, ⟨_, _, RES.out.1, RES.out.2.1, TB.out⟩, RES.out.2.2.1, RES.out.2.2.2⟩

def Ent (F : FuncId) : Prop := ∀ args w, (callFunc F args).run Tryz.prog w = .ok (.enter F args) w
/-- What an event's box needs to be asked. -/
structure EvBd (w : World) (e : EvD) (a : Option Addr) : Prop where
 nm : e.nm.size ≤ 140737488351232
 tg : e.tg.size ≤ 140737488351232
 cn : e.c.nm.size ≤ 140737488351232
 rn : e.rn.size ≤ 1000
 rc : e.rc.size ≤ 1000
 tl : e.ts.length ≤ 1000
 ts : TgtSl w a e.ts
 ok : ∀ i, i < e.ts.length → (e.ts.getD i tg0).ok
def PT.good : PT → Prop
 | .n lo hi => 0 ≤ lo ∧ hi ≤ 2147483647
 | .d lo hi => 0 ≤ lo ∧ hi ≤ 2147483647
 | _ => True
def ClrC (F : FuncId) (a : Nat) (p : PT) (x : Value) : Prop := ∀ (e : EvD) (g : Nat) (aa : Option Addr) (c : Nat) (w : World), IsPart w p x → Blk w g (e.cells aa c) 28 →
 Calls Tryz.prog F #[ptr g, ptr a] w fun y w' => (∃ v, y = .returned v) ∧ (∃ a' c', Blk w' g ((PT.clr e p).cells a' c') 28 ∧ ((a' = aa ∧ (PT.clr e p).ts = e.ts) ∨ (PT.clr e p).ts = [])) ∧ Chg (fun k => k = g) w w'
def ChkC (F : FuncId) (b a : Nat) (p : PT) (x : Value) : Prop := ∀ (e : EvD) (g : Nat) (aa : Option Addr) (c : Nat) (w : World), IsPart w p x → Blk w g (e.cells aa c) 28 → EvBd w e aa →
 Calls Tryz.prog F #[ptr g, ptr b, ptr a] w fun y w' => y = .returned (.int .i64 (PT.err e p)) ∧ Grow.G w w'
def WrtC (F : FuncId) (b a : Nat) (p : PT) (x : Value) : Prop := ∀ (base : Nat) (v : Value) (zs : List Int) (e : EvD) (g : Nat) (aa : Option Addr) (c : Nat) (w : World), IsPart w p x → Blk w g (e.cells aa c) 28 → OwnB w base v zs → base ≤ w.heap.size → (1 ≤ zs.length ∧ zs.length ≤ 1000) → PT.err e p = 0 → p.good →
 (∀ w', Below base w w' → TgtSl w' aa e.ts) →
 Calls Tryz.prog F #[v, ptr g, ptr b, ptr a] w fun y w' => ∃ v', y = .returned v' ∧ OwnB w' base v' (zs ++ PT.byt e p) ∧ Fr.Fr w w' v v'
def RdC (F : FuncId) (b a : Nat) (p : PT) (x : Value) : Prop := ∀ (rb sb : Nat) (s : LS) (e : EvD) (g : Nat) (w : World), IsPart w p x → EvR w g rb e → RdAt w rb sb s → sb ≠ rb → sb < w.heap.size → sb ≠ g → Bts s.1 →
 Calls Tryz.prog F #[ptr rb, ptr g, ptr b, ptr a] w fun y w' => (∃ v, y = .returned v) ∧ EvR w' g rb (PT.lr e p s).1 ∧ RdAt w' rb sb (PT.lr e p s).2 ∧ Chg (fun k => k = rb ∨ k = g) w w'
structure PartFs (p : PT) (x : Value) (F1 F2 F3 F4 : FuncId) (a b : Nat) : Prop where
 e1 : Ent F1
 e2 : Ent F2
 e3 : Ent F3
 e4 : Ent F4
 clr : ClrC F1 a p x
 chk : ChkC F2 b a p x
 wrt : WrtC F3 b a p x
 rd : RdC F4 b a p x
theorem inE_zero {n lo hi : Int} (h : inE n lo hi = 0) : lo ≤ n ∧ n ≤ hi := by
 unfold inE at h
 split at h
 ·
  assumption
 ·
  cases h
theorem route_tgts {e : EvD} (h : PT.err e .r = 0) : e.rn.size ≤ 255 ∧ e.rc.size ≤ 255 ∧ (0 ≤ e.rr ∧ e.rr < 256) ∧ e.ts.length ≤ 6 ∧ ∀ i, i < e.ts.length → tgtOk (e.ts.getD i tg0) := by
 obtain ⟨b1, b2, b3, b4, b5, _, _⟩ := routeE_parts' h
 have s1 := name_size b1
 have s2 := name_size b2
 have s3 := inB_iff.1 b3
 have s4 := inB_iff.1 b4
 refine ⟨by omega, by omega, ⟨by omega, by omega⟩, by omega, fun i hi => ?_⟩
 have := fst0_zero _ b5 i (by simpa using hi)
 rw [getD_map Tgt.err e.ts i tg0 0 hi] at this
 exact tgt_ok_of this
theorem inj_part {A1 A2 A3 A4 B1 B2 B3 B4 : FuncId} {a b a' b' : Nat} (h : (.agg #[.func (.func A1) #[] #[ptr a], .func (.func A2) #[] #[ptr b, ptr a], .func (.func A3) #[] #[ptr b, ptr a], .func (.func A4) #[] #[ptr b, ptr a]] : Value) = .agg #[.func (.func B1) #[] #[ptr a'], .func (.func B2) #[] #[ptr b', ptr a'], .func (.func B3) #[] #[ptr b', ptr a'], .func (.func B4) #[] #[ptr b', ptr a']]) : a = a' ∧ b = b' := by
 simp at h
 omega
theorem fs_n (lo hi : Int) {W : World} {x : Value} (h : IsPart W (.n lo hi) x) : ∃ F1 F2 F3 F4 a b, x = .agg #[.func (.func F1) #[] #[ptr a], .func (.func F2) #[] #[ptr b, ptr a], .func (.func F3) #[] #[ptr b, ptr a], .func (.func F4) #[] #[ptr b, ptr a]] ∧ PartFs (.n lo hi) x F1 F2 F3 F4 a b := by
 obtain ⟨a, b, l, h, ⟨hx, ha, hb⟩, hn⟩ := h
 subst hx
 refine ⟨82, 83, 84, 85, a, b, rfl, ⟨enters_of Tryz.func82 (by kernel_rfl) rfl, enters_of Tryz.func83 (by kernel_rfl) rfl, enters_of Tryz.func84 (by kernel_rfl) rfl, enters_of Tryz.func85 (by kernel_rfl) rfl, ?_, ?_, ?_, ?_⟩⟩
 ·
  intro e g aa c w hp hg
  obtain ⟨a2, b2, l2, h2, ⟨hx2, ha2, hb2⟩, hn2⟩ := hp
  obtain ⟨rfl, rfl⟩ := inj_part hx2
  exact (clr_n e lo hi aa c a g w hg ha2).mono fun y w' ⟨hv, hb, hc⟩ => ⟨hv, ⟨_, _, hb, .inl ⟨rfl, rfl⟩⟩, hc⟩
 ·
  intro e g aa c w hp hg hd
  obtain ⟨a2, b2, l2, h2, ⟨hx2, ha2, hb2⟩, hn2⟩ := hp
  obtain ⟨rfl, rfl⟩ := inj_part hx2
  exact chk_n e lo hi l2 h2 aa c a b g w hg ha2 _ _ hb2 hn2
 ·
  intro base v zs e g aa c w hp hg ho hbs hz he hgd ht
  obtain ⟨a2, b2, l2, h2, ⟨hx2, ha2, hb2⟩, hn2⟩ := hp
  obtain ⟨rfl, rfl⟩ := inj_part hx2
  exact wrt_n base v zs e lo hi aa c a b g w hg ha2 _ _ _ _ hb2 ho hbs hz (by have := inE_zero he; have := hgd; unfold PT.good at this; omega)
 ·
  intro rb sb s e g w hp hg hr hne hsb hsg hbt
  obtain ⟨a2, b2, l2, h2, ⟨hx2, ha2, hb2⟩, hn2⟩ := hp
  obtain ⟨rfl, rfl⟩ := inj_part hx2
  exact rd_n rb sb s e lo hi a b g w hg ha2 _ _ _ _ hb2 hr hne hsb hsg hbt
theorem fs_d (lo hi : Int) {W : World} {x : Value} (h : IsPart W (.d lo hi) x) : ∃ F1 F2 F3 F4 a b, x = .agg #[.func (.func F1) #[] #[ptr a], .func (.func F2) #[] #[ptr b, ptr a], .func (.func F3) #[] #[ptr b, ptr a], .func (.func F4) #[] #[ptr b, ptr a]] ∧ PartFs (.d lo hi) x F1 F2 F3 F4 a b := by
 obtain ⟨a, b, l, h, ⟨hx, ha, hb⟩, hn⟩ := h
 subst hx
 refine ⟨82, 83, 84, 85, a, b, rfl, ⟨enters_of Tryz.func82 (by kernel_rfl) rfl, enters_of Tryz.func83 (by kernel_rfl) rfl, enters_of Tryz.func84 (by kernel_rfl) rfl, enters_of Tryz.func85 (by kernel_rfl) rfl, ?_, ?_, ?_, ?_⟩⟩
 ·
  intro e g aa c w hp hg
  obtain ⟨a2, b2, l2, h2, ⟨hx2, ha2, hb2⟩, hn2⟩ := hp
  obtain ⟨rfl, rfl⟩ := inj_part hx2
  exact (clr_d e lo hi aa c a g w hg ha2).mono fun y w' ⟨hv, hb, hc⟩ => ⟨hv, ⟨_, _, hb, .inl ⟨rfl, rfl⟩⟩, hc⟩
 ·
  intro e g aa c w hp hg hd
  obtain ⟨a2, b2, l2, h2, ⟨hx2, ha2, hb2⟩, hn2⟩ := hp
  obtain ⟨rfl, rfl⟩ := inj_part hx2
  exact chk_d e lo hi l2 h2 aa c a b g w hg ha2 _ _ hb2 hn2
 ·
  intro base v zs e g aa c w hp hg ho hbs hz he hgd ht
  obtain ⟨a2, b2, l2, h2, ⟨hx2, ha2, hb2⟩, hn2⟩ := hp
  obtain ⟨rfl, rfl⟩ := inj_part hx2
  exact wrt_d base v zs e lo hi aa c a b g w hg ha2 _ _ _ _ hb2 ho hbs hz (by have := inE_zero he; have := hgd; unfold PT.good at this; omega)
 ·
  intro rb sb s e g w hp hg hr hne hsb hsg hbt
  obtain ⟨a2, b2, l2, h2, ⟨hx2, ha2, hb2⟩, hn2⟩ := hp
  obtain ⟨rfl, rfl⟩ := inj_part hx2
  exact rd_d rb sb s e lo hi a b g w hg ha2 _ _ _ _ hb2 hr hne hsb hsg hbt
theorem fs_nmf {W : World} {x : Value} (h : IsPart W (.nm false) x) : ∃ F1 F2 F3 F4 a b, x = .agg #[.func (.func F1) #[] #[ptr a], .func (.func F2) #[] #[ptr b, ptr a], .func (.func F3) #[] #[ptr b, ptr a], .func (.func F4) #[] #[ptr b, ptr a]] ∧ PartFs (.nm false) x F1 F2 F3 F4 a b := by
 obtain ⟨a, b, m, ⟨hx, ha, hb⟩, hn⟩ := h
 subst hx
 refine ⟨105, 106, 107, 108, a, b, rfl, ⟨enters_of Tryz.func105 (by kernel_rfl) rfl, enters_of Tryz.func106 (by kernel_rfl) rfl, enters_of Tryz.func107 (by kernel_rfl) rfl, enters_of Tryz.func108 (by kernel_rfl) rfl, ?_, ?_, ?_, ?_⟩⟩
 ·
  intro e g aa c w hp hg
  obtain ⟨a2, b2, m2, ⟨hx2, ha2, hb2⟩, hn2⟩ := hp
  obtain ⟨rfl, rfl⟩ := inj_part hx2
  exact (clr_nm e false aa c a g w hg ha2).mono fun y w' ⟨hv, hb, hc⟩ => ⟨hv, ⟨_, _, hb, .inl ⟨rfl, rfl⟩⟩, hc⟩
 ·
  intro e g aa c w hp hg hd
  obtain ⟨a2, b2, m2, ⟨hx2, ha2, hb2⟩, hn2⟩ := hp
  obtain ⟨rfl, rfl⟩ := inj_part hx2
  exact chk_nm_name e m2 aa c a b g w hg ha2 _ _ hb2 hn2 (by have := hd.nm; unfold maxLen; omega)
 ·
  intro base v zs e g aa c w hp hg ho hbs hz he hgd ht
  obtain ⟨a2, b2, m2, ⟨hx2, ha2, hb2⟩, hn2⟩ := hp
  obtain ⟨rfl, rfl⟩ := inj_part hx2
  exact wrt_nm base v zs e false aa c a b g w hg ha2 _ _ _ _ hb2 ho hbs hz (by have := name_size (nmdE_zero he); omega)
 ·
  intro rb sb s e g w hp hg hr hne hsb hsg hbt
  obtain ⟨a2, b2, m2, ⟨hx2, ha2, hb2⟩, hn2⟩ := hp
  obtain ⟨rfl, rfl⟩ := inj_part hx2
  exact rd_nm rb sb s e false a b g w hg ha2 _ _ _ _ hb2 hr hne hsb hsg hbt
theorem fs_nmt {W : World} {x : Value} (h : IsPart W (.nm true) x) : ∃ F1 F2 F3 F4 a b, x = .agg #[.func (.func F1) #[] #[ptr a], .func (.func F2) #[] #[ptr b, ptr a], .func (.func F3) #[] #[ptr b, ptr a], .func (.func F4) #[] #[ptr b, ptr a]] ∧ PartFs (.nm true) x F1 F2 F3 F4 a b := by
 obtain ⟨a, b, m, ⟨hx, ha, hb⟩, hn⟩ := h
 subst hx
 refine ⟨105, 106, 107, 108, a, b, rfl, ⟨enters_of Tryz.func105 (by kernel_rfl) rfl, enters_of Tryz.func106 (by kernel_rfl) rfl, enters_of Tryz.func107 (by kernel_rfl) rfl, enters_of Tryz.func108 (by kernel_rfl) rfl, ?_, ?_, ?_, ?_⟩⟩
 ·
  intro e g aa c w hp hg
  obtain ⟨a2, b2, m2, ⟨hx2, ha2, hb2⟩, hn2⟩ := hp
  obtain ⟨rfl, rfl⟩ := inj_part hx2
  exact (clr_nm e true aa c a g w hg ha2).mono fun y w' ⟨hv, hb, hc⟩ => ⟨hv, ⟨_, _, hb, .inl ⟨rfl, rfl⟩⟩, hc⟩
 ·
  intro e g aa c w hp hg hd
  obtain ⟨a2, b2, m2, ⟨hx2, ha2, hb2⟩, hn2⟩ := hp
  obtain ⟨rfl, rfl⟩ := inj_part hx2
  exact chk_nm_rev e m2 aa c a b g w hg ha2 _ _ hb2 hn2 (by have := hd.nm; omega)
 ·
  intro base v zs e g aa c w hp hg ho hbs hz he hgd ht
  obtain ⟨a2, b2, m2, ⟨hx2, ha2, hb2⟩, hn2⟩ := hp
  obtain ⟨rfl, rfl⟩ := inj_part hx2
  exact wrt_nm base v zs e true aa c a b g w hg ha2 _ _ _ _ hb2 ho hbs hz (by have := revB_size (nmdE_zero he); omega)
 ·
  intro rb sb s e g w hp hg hr hne hsb hsg hbt
  obtain ⟨a2, b2, m2, ⟨hx2, ha2, hb2⟩, hn2⟩ := hp
  obtain ⟨rfl, rfl⟩ := inj_part hx2
  exact rd_nm rb sb s e true a b g w hg ha2 _ _ _ _ hb2 hr hne hsb hsg hbt
theorem fs_tg {W : World} {x : Value} (h : IsPart W .tg x) : ∃ F1 F2 F3 F4 a b, x = .agg #[.func (.func F1) #[] #[ptr a], .func (.func F2) #[] #[ptr b, ptr a], .func (.func F3) #[] #[ptr b, ptr a], .func (.func F4) #[] #[ptr b, ptr a]] ∧ PartFs .tg x F1 F2 F3 F4 a b := by
 obtain ⟨a, b, m, ⟨hx, ha, hb⟩, hn⟩ := h
 subst hx
 refine ⟨105, 106, 107, 108, a, b, rfl, ⟨enters_of Tryz.func105 (by kernel_rfl) rfl, enters_of Tryz.func106 (by kernel_rfl) rfl, enters_of Tryz.func107 (by kernel_rfl) rfl, enters_of Tryz.func108 (by kernel_rfl) rfl, ?_, ?_, ?_, ?_⟩⟩
 ·
  intro e g aa c w hp hg
  obtain ⟨a2, b2, m2, ⟨hx2, ha2, hb2⟩, hn2⟩ := hp
  obtain ⟨rfl, rfl⟩ := inj_part hx2
  exact (clr_tg e aa c a g w hg ha2).mono fun y w' ⟨hv, hb, hc⟩ => ⟨hv, ⟨_, _, hb, .inl ⟨rfl, rfl⟩⟩, hc⟩
 ·
  intro e g aa c w hp hg hd
  obtain ⟨a2, b2, m2, ⟨hx2, ha2, hb2⟩, hn2⟩ := hp
  obtain ⟨rfl, rfl⟩ := inj_part hx2
  exact chk_tg e m2 aa c a b g w hg ha2 _ _ hb2 hn2 (by have := hd.tg; unfold maxLen; omega)
 ·
  intro base v zs e g aa c w hp hg ho hbs hz he hgd ht
  obtain ⟨a2, b2, m2, ⟨hx2, ha2, hb2⟩, hn2⟩ := hp
  obtain ⟨rfl, rfl⟩ := inj_part hx2
  exact wrt_tg base v zs e aa c a b g w hg ha2 _ _ _ _ hb2 ho hbs hz (by
    have h := nmdE_zero he
    rw [Bool.or_eq_true] at h
    rcases h with h | h
    ·
     have := strE_size h; omega
    ·
     have := name_size h; omega)
 ·
  intro rb sb s e g w hp hg hr hne hsb hsg hbt
  obtain ⟨a2, b2, m2, ⟨hx2, ha2, hb2⟩, hn2⟩ := hp
  obtain ⟨rfl, rfl⟩ := inj_part hx2
  exact rd_tg rb sb s e a b g w hg ha2 _ _ _ _ hb2 hr hne hsb hsg hbt
theorem fs_c {W : World} {x : Value} (h : IsPart W .c x) : ∃ F1 F2 F3 F4 a b, x = .agg #[.func (.func F1) #[] #[ptr a], .func (.func F2) #[] #[ptr b, ptr a], .func (.func F3) #[] #[ptr b, ptr a], .func (.func F4) #[] #[ptr b, ptr a]] ∧ PartFs .c x F1 F2 F3 F4 a b := by
 obtain ⟨a, b, hx, ha, hb⟩ := h
 subst hx
 refine ⟨86, 87, 88, 89, a, b, rfl, ⟨enters_of Tryz.func86 (by kernel_rfl) rfl, enters_of Tryz.func87 (by kernel_rfl) rfl, enters_of Tryz.func88 (by kernel_rfl) rfl, enters_of Tryz.func89 (by kernel_rfl) rfl, ?_, ?_, ?_, ?_⟩⟩
 ·
  intro e g aa c w hp hg
  obtain ⟨a2, b2, hx2, ha2, hb2⟩ := hp
  obtain ⟨rfl, rfl⟩ := inj_part hx2
  exact (clr_c e aa c a g w hg ha2).mono fun y w' ⟨hv, hb, hc⟩ => ⟨hv, ⟨_, _, hb, .inl ⟨rfl, rfl⟩⟩, hc⟩
 ·
  intro e g aa c w hp hg hd
  obtain ⟨a2, b2, hx2, ha2, hb2⟩ := hp
  obtain ⟨rfl, rfl⟩ := inj_part hx2
  exact chk_c e aa c a b g w hg ha2 _ _ hb2 (by have := hd.cn; unfold maxLen; omega)
 ·
  intro base v zs e g aa c w hp hg ho hbs hz he hgd ht
  obtain ⟨a2, b2, hx2, ha2, hb2⟩ := hp
  obtain ⟨rfl, rfl⟩ := inj_part hx2
  exact wrt_c base v zs e aa c a b g w hg ha2 _ _ _ _ hb2 ho hbs hz (by have := name_size (cfgerr_zero he).1; omega) (by have := cfgerr_zero he; omega) (by have := cfgerr_zero he; omega) (by have := cfgerr_zero he; omega) (by have := cfgerr_zero he; omega) (by have := cfgerr_zero he; omega)
 ·
  intro rb sb s e g w hp hg hr hne hsb hsg hbt
  obtain ⟨a2, b2, hx2, ha2, hb2⟩ := hp
  obtain ⟨rfl, rfl⟩ := inj_part hx2
  exact rd_c rb sb s e a b g w hg ha2 _ _ _ _ hb2 hr hne hsb hsg hbt
theorem fs_r {W : World} {x : Value} (h : IsPart W .r x) : ∃ F1 F2 F3 F4 a b, x = .agg #[.func (.func F1) #[] #[ptr a], .func (.func F2) #[] #[ptr b, ptr a], .func (.func F3) #[] #[ptr b, ptr a], .func (.func F4) #[] #[ptr b, ptr a]] ∧ PartFs .r x F1 F2 F3 F4 a b := by
 obtain ⟨a, b, hx, ha, hb⟩ := h
 subst hx
 refine ⟨93, 94, 95, 96, a, b, rfl, ⟨enters_of Tryz.func93 (by kernel_rfl) rfl, enters_of Tryz.func94 (by kernel_rfl) rfl, enters_of Tryz.func95 (by kernel_rfl) rfl, enters_of Tryz.func96 (by kernel_rfl) rfl, ?_, ?_, ?_, ?_⟩⟩
 ·
  intro e g aa c w hp hg
  obtain ⟨a2, b2, hx2, ha2, hb2⟩ := hp
  obtain ⟨rfl, rfl⟩ := inj_part hx2
  exact (clr_r e aa c a g w hg ha2).mono fun y w' ⟨hv, hb, hc⟩ => ⟨hv, ⟨_, _, hb, .inr rfl⟩, hc⟩
 ·
  intro e g aa c w hp hg hd
  obtain ⟨a2, b2, hx2, ha2, hb2⟩ := hp
  obtain ⟨rfl, rfl⟩ := inj_part hx2
  exact chk_r e aa c a b g w hg ha2 _ _ hb2 hd.rn hd.rc hd.tl hd.ts hd.ok
 ·
  intro base v zs e g aa c w hp hg ho hbs hz he hgd ht
  obtain ⟨a2, b2, hx2, ha2, hb2⟩ := hp
  obtain ⟨rfl, rfl⟩ := inj_part hx2
  exact wrt_r base v zs e aa c a b g w hg ha2 _ _ _ _ hb2 ho hbs hz (route_tgts he).1 (route_tgts he).2.1 (route_tgts he).2.2.1 (route_tgts he).2.2.2.1 ht (route_tgts he).2.2.2.2
 ·
  intro rb sb s e g w hp hg hr hne hsb hsg hbt
  obtain ⟨a2, b2, hx2, ha2, hb2⟩ := hp
  obtain ⟨rfl, rfl⟩ := inj_part hx2
  exact rd_r rb sb s e a b g w hg ha2 _ _ _ _ hb2 hr hne hsb hsg hbt
theorem part_fs {W : World} {p : PT} {x : Value} (h : IsPart W p x) : ∃ F1 F2 F3 F4 a b, x = .agg #[.func (.func F1) #[] #[ptr a], .func (.func F2) #[] #[ptr b, ptr a], .func (.func F3) #[] #[ptr b, ptr a], .func (.func F4) #[] #[ptr b, ptr a]] ∧ PartFs p x F1 F2 F3 F4 a b := by
 match p, h with
 | .n lo hi, h => exact fs_n lo hi h
 | .d lo hi, h => exact fs_d lo hi h
 | .nm false, h => exact fs_nmf h
 | .nm true, h => exact fs_nmt h
 | .tg, h => exact fs_tg h
 | .c, h => exact fs_c h
 | .r, h => exact fs_r h
end Go.Proofs.YtnkekdmikopdgaaGreat

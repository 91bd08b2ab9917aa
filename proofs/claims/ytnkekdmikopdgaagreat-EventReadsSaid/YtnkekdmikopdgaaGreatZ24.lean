/- My own texts Take, Take2, Take3, laid in one file. -/
import Derived.Test.YtnkekdmikopdgaaGreatZ5
import Derived.Test.YtnkekdmikopdgaaGreatZ8
import Derived.Test.YtnkekdmikopdgaaGreatZ2

/- What damperref3's taker takes. -/
namespace Go.Proofs.YtnkekdmikopdgaaGreat
set_option maxRecDepth 100000
set_option linter.unusedVariables false
set_option linter.unusedSimpArgs false
set_option linter.unnecessarySimpa false
open Go.RowKit

/-- A taker: what it takes from, how far it is, whether bytes have lacked. -/
def TkAt (w : World) (g : Nat) (a : Option Addr) (c : Nat) (zs : List Int) (s : LS) : Prop := ∃ p : Nat, p ≤ zs.length ∧ s.1 = zs.drop p ∧ Blk w g #[.slice a zs.length c, .int .i64 p, .bool s.2] 88
theorem TkAt.chg {w w' : World} {g : Nat} {a : Option Addr} {c : Nat} {zs : List Int} {s : LS} {G : Nat → Prop} (h : TkAt w g a c zs s) (k : Chg G w w') (hg : ¬ G g) : TkAt w' g a c zs s := by
 obtain ⟨p, h1, h2, h3⟩ := h
 exact ⟨p, h1, h2, h3.chg k hg⟩
theorem TkAt.grow {w w' : World} {g : Nat} {a : Option Addr} {c : Nat} {zs : List Int} {s : LS} (h : TkAt w g a c zs s) (k : Grow.G w w') : TkAt w' g a c zs s := h.chg (Chg.grow (G := fun _ => False) k) id
def Tkd (g sb : Nat) (a : Option Addr) (c : Nat) (zs : List Int) (s : LS) (n : Nat) (w : World) (e : Ending) (w' : World) : Prop :=
 ∃ a' c', e = .returned (.slice a' (Qtk n s).1.length c') ∧ BySl w' sb a' c' (Qtk n s).1 ∧ TkAt w' g a c zs (Qtk n s).2 ∧ Chg (fun k => k = g) w w'
set_option maxHeartbeats 2000000 in
theorem tk_bad (g sb : Nat) (a : Option Addr) (c : Nat) (zs l : List Int) (n : Nat) (w : World) (h : TkAt w g a c zs (l, true)) :
  Calls Tryz.prog 77 #[.pointer (some ⟨g, 0, none⟩), .int .i64 n] w fun e w' => Tkd g sb a c zs (l, true) n w e w' := by
 obtain ⟨p, hp, hl, hb⟩ := h
 dsimp only at hl hb
 have HB := Lib.hid hb
 have e2 := evd hb (i := 2) rfl
 have f2 := hb.free 2
 clear hb
 go_enter Tryz.func77, Tryz.ntmps77
 go_wp2_with fail
 refine Evo2.start' (ℓ := none) (S := Chg (fun _ => False)) (E := Grow.G) (by kernel_rfl) ⟨Chg.pre _, by decide +kernel, (by intro c a d v w h; cases d <;> exact h), by decide +kernel⟩ (fun ok => ?_)
 refine Evo2.va ok 0 _ _ ?_
 refine Evo2.va ok 1 _ _ ?_
 refine Evo2.va ok 2 _ _ ?_
 first | (refine Evo2.val ok 3 ?_ ?_ ?_; rotate_left; (focus (intro w' hg; refine Box.exec_load1 (off := 2) ?_ Tryz.underlying4 rfl (HB.out.chg (Chg.trans (Chg.refl (fun _ => False) _) hg) id) ?_; (all_goals (first | exact ⟨rfl, rfl⟩ | rfl)))); simp only [Act.put, L0, L1, L2]) | (refine Evo2.va ok 3 _ _ ?_)
 refine Evo2.va ok 4 _ _ ?_
 first | (refine Evo2.va ok 5 _ _ ?_) | (refine Evo2.vi ok 5 _ ?_)
 first | (refine Evo2.va ok 6 _ _ ?_) | (refine Evo2.vi ok 6 _ ?_)
 first | (refine Evo2.va ok 7 _ _ ?_) | (refine Evo2.vi ok 7 _ ?_)
 first | (refine Evo2.val ok 8 ?_ ?_ ?_; rotate_left; (focus (intro w' hg; refine Box.exec_load1 (off := 2) ?_ Tryz.underlying4 rfl (HB.out.chg (Chg.trans (Chg.refl (fun _ => False) _) hg) id) ?_; (all_goals (first | exact ⟨rfl, rfl⟩ | rfl)))); simp only [Act.put, L0, L1, L2]) | (refine Evo2.va ok 8 _ _ ?_) | (refine Evo2.vi ok 8 _ ?_)
 first | (refine Evo2.va ok 9 _ _ ?_) | (refine Evo2.vi ok 9 _ ?_)
 first | (refine Evo2.va ok 10 _ _ ?_) | (refine Evo2.vi ok 10 _ ?_)
 first | (refine Evo2.va ok 11 _ _ ?_) | (refine Evo2.vi ok 11 _ ?_)
 first | (refine Evo2.va ok 12 _ _ ?_) | (refine Evo2.vi ok 12 _ ?_)
 first | (refine Evo2.va ok 13 _ _ ?_) | (refine Evo2.vi ok 13 _ ?_)
 first | (refine Evo2.val ok 14 ?_ ?_ ?_; rotate_left; (focus (intro w' hg; refine Box.exec_load1 (off := 2) ?_ Tryz.underlying4 rfl (HB.out.chg (Chg.trans (Chg.refl (fun _ => False) _) hg) id) ?_; (all_goals (first | exact ⟨rfl, rfl⟩ | rfl)))); simp only [Act.put, L0, L1, L2]) | (refine Evo2.va ok 14 _ _ ?_) | (refine Evo2.vi ok 14 _ ?_)
 first | (refine Evo2.va ok 15 _ _ ?_) | (refine Evo2.vi ok 15 _ ?_)
 first | (refine Evo2.va ok 16 _ _ ?_) | (refine Evo2.vi ok 16 _ ?_)
 refine Evo2.va ok 17 _ _ ?_
 refine Evo2.done (by decide +kernel) (fun wz gz => ?_)
 have AZ := Chg.trans (Chg.refl (fun _ => False) _) (Chg.grow gz)
 have HZ := Lib.hid (HB.out.chg AZ id)
 have e2' := evd HZ.out (i := 2) rfl
 have f2' := HZ.out.free 2
 have gz2 := HZ.out.lt
 have HA := Lib.hid AZ
 clear AZ e2 f2 gz ok
 go_wp2_with fail
 go_ret
 have CH : Chg (fun k => k = g) w (wz.setCell ⟨g, 2, none⟩ (.bool true)) := Chg.setCell (G := fun k => k = g) (HA.out.mono (fun _ _ h => h.elim)) (fun _ => rfl) _ _
 refine ⟨none, 0, ?_, ?_, ?_, CH⟩
 ·
  rw [qtk_bad]; rfl
 ·
  rw [qtk_bad]; exact .inl ⟨rfl, rfl, rfl⟩
 ·
  rw [qtk_bad]
  exact ⟨p, hp, hl, HZ.out.set 2 (.bool true)⟩
set_option maxHeartbeats 2000000 in
theorem tk_lack (g sb : Nat) (a : Option Addr) (c : Nat) (zs l : List Int) (n : Nat) (w : World) (h : TkAt w g a c zs (l, false)) (hn : l.length < n) (hn2 : n ≤ 1000) (hz : zs.length ≤ 1000000) :
  Calls Tryz.prog 77 #[.pointer (some ⟨g, 0, none⟩), .int .i64 n] w fun e w' => Tkd g sb a c zs (l, false) n w e w' := by
 obtain ⟨p, hp, hl, hb⟩ := h
 dsimp only at hl hb
 have hlen : zs.length < p + n := by have := congrArg List.length hl; rw [List.length_drop] at this; omega
 have HL := Lib.hid hl
 have HN := Lib.hid hn
 have hgt : (zs.length : Int) < (p : Int) + (n : Int) := by omega
 have wr : IntKind.i64.wrap ((p : Int) + (n : Int)) = (p : Int) + (n : Int) := by rw [IntKind.wrap_i64]; omega
 have HB := Lib.hid hb
 clear hb hl hn
 go_enter Tryz.func77, Tryz.ntmps77
 go_wp2_with fail
 refine Evo2.start' (ℓ := none) (S := Chg (fun _ => False)) (E := Grow.G) (by kernel_rfl) ⟨Chg.pre _, by decide +kernel, (by intro c a d v w h; cases d <;> exact h), by decide +kernel⟩ (fun ok => ?_)
 refine Evo2.va ok 0 _ _ ?_
 refine Evo2.va ok 1 _ _ ?_
 refine Evo2.va ok 2 _ _ ?_
 first | (refine Evo2.val ok 3 ?_ ?_ ?_; rotate_left; (focus (intro w' hg; refine Box.exec_load1 (off := 2) ?_ Tryz.underlying4 rfl (HB.out.chg (Chg.trans (Chg.refl (fun _ => False) _) hg) id) ?_; (all_goals (first | exact ⟨rfl, rfl⟩ | rfl)))); simp only [Act.put, L0, L1, L2]) | (refine Evo2.val ok 3 ?_ ?_ ?_; rotate_left; (focus (intro w' hg; refine Box.exec_load1 (off := 1) ?_ Tryz.underlying3 rfl (HB.out.chg (Chg.trans (Chg.refl (fun _ => False) _) hg) id) ?_; (all_goals (first | exact ⟨rfl, rfl⟩ | rfl)))); simp only [Act.put, L0, L1, L2]) | (refine Evo2.val ok 3 ?_ ?_ ?_; rotate_left; (focus (intro w' hg; refine Box.exec_load1 (off := 0) ?_ Tryz.underlying41 rfl (HB.out.chg (Chg.trans (Chg.refl (fun _ => False) _) hg) id) ?_; (all_goals (first | exact ⟨rfl, rfl⟩ | rfl)))); simp only [Act.put, L0, L1, L2]) | (refine Evo2.va ok 3 _ _ ?_)
 refine Evo2.va ok 4 _ _ ?_
 first | (refine Evo2.va ok 5 _ _ ?_) | (refine Evo2.vi ok 5 _ ?_)
 first | (refine Evo2.va ok 6 _ _ ?_) | (refine Evo2.vi ok 6 _ ?_)
 first | (refine Evo2.va ok 7 _ _ ?_) | (refine Evo2.vi ok 7 _ ?_)
 first | (refine Evo2.val ok 8 ?_ ?_ ?_; rotate_left; (focus (intro w' hg; refine Box.exec_load1 (off := 2) ?_ Tryz.underlying4 rfl (HB.out.chg (Chg.trans (Chg.refl (fun _ => False) _) hg) id) ?_; (all_goals (first | exact ⟨rfl, rfl⟩ | rfl)))); simp only [Act.put, L0, L1, L2]) | (refine Evo2.val ok 8 ?_ ?_ ?_; rotate_left; (focus (intro w' hg; refine Box.exec_load1 (off := 1) ?_ Tryz.underlying3 rfl (HB.out.chg (Chg.trans (Chg.refl (fun _ => False) _) hg) id) ?_; (all_goals (first | exact ⟨rfl, rfl⟩ | rfl)))); simp only [Act.put, L0, L1, L2]) | (refine Evo2.val ok 8 ?_ ?_ ?_; rotate_left; (focus (intro w' hg; refine Box.exec_load1 (off := 0) ?_ Tryz.underlying41 rfl (HB.out.chg (Chg.trans (Chg.refl (fun _ => False) _) hg) id) ?_; (all_goals (first | exact ⟨rfl, rfl⟩ | rfl)))); simp only [Act.put, L0, L1, L2]) | (refine Evo2.va ok 8 _ _ ?_) | (refine Evo2.vi ok 8 _ ?_)
 first | (refine Evo2.va ok 9 _ _ ?_) | (refine Evo2.vi ok 9 _ ?_)
 first | (refine Evo2.va ok 10 _ _ ?_) | (refine Evo2.vi ok 10 _ ?_)
 first | (refine Evo2.va ok 11 _ _ ?_) | (refine Evo2.vi ok 11 _ ?_)
 first | (refine Evo2.va ok 12 _ _ ?_) | (refine Evo2.vi ok 12 _ ?_)
 first | (refine Evo2.va ok 13 _ _ ?_) | (refine Evo2.vi ok 13 _ ?_)
 first | (refine Evo2.val ok 14 ?_ ?_ ?_; rotate_left; (focus (intro w' hg; refine Box.exec_load1 (off := 2) ?_ Tryz.underlying4 rfl (HB.out.chg (Chg.trans (Chg.refl (fun _ => False) _) hg) id) ?_; (all_goals (first | exact ⟨rfl, rfl⟩ | rfl)))); simp only [Act.put, L0, L1, L2]) | (refine Evo2.val ok 14 ?_ ?_ ?_; rotate_left; (focus (intro w' hg; refine Box.exec_load1 (off := 1) ?_ Tryz.underlying3 rfl (HB.out.chg (Chg.trans (Chg.refl (fun _ => False) _) hg) id) ?_; (all_goals (first | exact ⟨rfl, rfl⟩ | rfl)))); simp only [Act.put, L0, L1, L2]) | (refine Evo2.val ok 14 ?_ ?_ ?_; rotate_left; (focus (intro w' hg; refine Box.exec_load1 (off := 0) ?_ Tryz.underlying41 rfl (HB.out.chg (Chg.trans (Chg.refl (fun _ => False) _) hg) id) ?_; (all_goals (first | exact ⟨rfl, rfl⟩ | rfl)))); simp only [Act.put, L0, L1, L2]) | (refine Evo2.va ok 14 _ _ ?_) | (refine Evo2.vi ok 14 _ ?_)
 first | (refine Evo2.va ok 15 _ _ ?_) | (refine Evo2.vi ok 15 _ ?_)
 first | (refine Evo2.va ok 16 _ _ ?_) | (refine Evo2.vi ok 16 _ ?_)
 refine Evo2.va ok 17 _ _ ?_
 refine Evo2.done (by decide +kernel) (fun wz gz => ?_)
 have AZ := Chg.trans (Chg.refl (fun _ => False) _) (Chg.grow gz)
 have HZ := Lib.hid (HB.out.chg AZ id)
 have e2' := evd HZ.out (i := 2) rfl
 have f2' := HZ.out.free 2
 have gz2 := HZ.out.lt
 have HA := Lib.hid AZ
 clear AZ gz ok
 go_wp2_with fail
 go_ret
 have CH : Chg (fun k => k = g) w (wz.setCell ⟨g, 2, none⟩ (.bool true)) := Chg.setCell (G := fun k => k = g) (HA.out.mono (fun _ _ h => h.elim)) (fun _ => rfl) _ _
 refine ⟨none, 0, ?_, ?_, ?_, CH⟩
 ·
  rw [qtk_lack HN.out]; rfl
 ·
  rw [qtk_lack HN.out]; exact .inl ⟨rfl, rfl, rfl⟩
 ·
  rw [qtk_lack HN.out]
  exact ⟨p, hp, HL.out, HZ.out.set 2 (.bool true)⟩
set_option maxHeartbeats 2000000 in
theorem tk_ok (g sb off : Nat) (c : Nat) (zs l : List Int) (n : Nat) (w : World) (h : TkAt w g (some ⟨sb, off, none⟩) c zs (l, false)) (hc : zs.length ≤ c) (hy : ∀ i, i < zs.length → w.cell? ⟨sb, off + i, none⟩ = some (.int .u8 (zs.getD i 0))) (hne : sb ≠ g) (hn : n ≤ l.length) (hz : zs.length ≤ 1000000) :
  Calls Tryz.prog 77 #[.pointer (some ⟨g, 0, none⟩), .int .i64 n] w fun e w' => Tkd g sb (some ⟨sb, off, none⟩) c zs (l, false) n w e w' := by
 obtain ⟨p, hp, hl, hb⟩ := h
 dsimp only at hl hb
 have hlen : p + n ≤ zs.length := by have := congrArg List.length hl; rw [List.length_drop] at this; omega
 have HL := Lib.hid hl
 have HN := Lib.hid hn
 have HY := Lib.hid hy
 have hgt : ¬ ((zs.length : Int) < (p : Int) + (n : Int)) := by omega
 have wr : IntKind.i64.wrap ((p : Int) + (n : Int)) = (p : Int) + (n : Int) := by rw [IntKind.wrap_i64]; omega
 have ws : IntKind.i64.wrap ((p : Int) + (n : Int) - (n : Int)) = (p : Int) := by rw [IntKind.wrap_i64]; omega
 have wp0 : IntKind.i64.wrap (p : Int) = (p : Int) := by rw [IntKind.wrap_i64]; omega
 have HB := Lib.hid hb
 clear hb hl hn hy
 go_enter Tryz.func77, Tryz.ntmps77
 go_wp2_with fail
 refine Evo2.start' (ℓ := none) (S := Chg (fun _ => False)) (E := Grow.G) (by kernel_rfl) ⟨Chg.pre _, by decide +kernel, (by intro c a d v w h; cases d <;> exact h), by decide +kernel⟩ (fun ok => ?_)
 refine Evo2.va ok 0 _ _ ?_
 refine Evo2.va ok 1 _ _ ?_
 refine Evo2.va ok 2 _ _ ?_
 first | (refine Evo2.val ok 3 ?_ ?_ ?_; rotate_left; (focus (intro w' hg; refine Box.exec_load1 (off := 2) ?_ Tryz.underlying4 rfl (HB.out.chg (Chg.trans (Chg.refl (fun _ => False) _) hg) id) ?_; (all_goals (first | exact ⟨rfl, rfl⟩ | rfl)))); simp only [Act.put, L0, L1, L2]) | (refine Evo2.val ok 3 ?_ ?_ ?_; rotate_left; (focus (intro w' hg; refine Box.exec_load1 (off := 1) ?_ Tryz.underlying3 rfl (HB.out.chg (Chg.trans (Chg.refl (fun _ => False) _) hg) id) ?_; (all_goals (first | exact ⟨rfl, rfl⟩ | rfl)))); simp only [Act.put, L0, L1, L2]) | (refine Evo2.val ok 3 ?_ ?_ ?_; rotate_left; (focus (intro w' hg; refine Box.exec_load1 (off := 0) ?_ Tryz.underlying41 rfl (HB.out.chg (Chg.trans (Chg.refl (fun _ => False) _) hg) id) ?_; (all_goals (first | exact ⟨rfl, rfl⟩ | rfl)))); simp only [Act.put, L0, L1, L2]) | (refine Evo2.va ok 3 _ _ ?_)
 refine Evo2.va ok 4 _ _ ?_
 first | (refine Evo2.va ok 5 _ _ ?_) | (refine Evo2.vi ok 5 _ ?_)
 first | (refine Evo2.va ok 6 _ _ ?_) | (refine Evo2.vi ok 6 _ ?_)
 first | (refine Evo2.va ok 7 _ _ ?_) | (refine Evo2.vi ok 7 _ ?_)
 first | (refine Evo2.val ok 8 ?_ ?_ ?_; rotate_left; (focus (intro w' hg; refine Box.exec_load1 (off := 2) ?_ Tryz.underlying4 rfl (HB.out.chg (Chg.trans (Chg.refl (fun _ => False) _) hg) id) ?_; (all_goals (first | exact ⟨rfl, rfl⟩ | rfl)))); simp only [Act.put, L0, L1, L2]) | (refine Evo2.val ok 8 ?_ ?_ ?_; rotate_left; (focus (intro w' hg; refine Box.exec_load1 (off := 1) ?_ Tryz.underlying3 rfl (HB.out.chg (Chg.trans (Chg.refl (fun _ => False) _) hg) id) ?_; (all_goals (first | exact ⟨rfl, rfl⟩ | rfl)))); simp only [Act.put, L0, L1, L2]) | (refine Evo2.val ok 8 ?_ ?_ ?_; rotate_left; (focus (intro w' hg; refine Box.exec_load1 (off := 0) ?_ Tryz.underlying41 rfl (HB.out.chg (Chg.trans (Chg.refl (fun _ => False) _) hg) id) ?_; (all_goals (first | exact ⟨rfl, rfl⟩ | rfl)))); simp only [Act.put, L0, L1, L2]) | (refine Evo2.va ok 8 _ _ ?_) | (refine Evo2.vi ok 8 _ ?_)
 first | (refine Evo2.va ok 9 _ _ ?_) | (refine Evo2.vi ok 9 _ ?_)
 first | (refine Evo2.va ok 10 _ _ ?_) | (refine Evo2.vi ok 10 _ ?_)
 first | (refine Evo2.va ok 11 _ _ ?_) | (refine Evo2.vi ok 11 _ ?_)
 first | (refine Evo2.va ok 12 _ _ ?_) | (refine Evo2.vi ok 12 _ ?_)
 first | (refine Evo2.va ok 13 _ _ ?_) | (refine Evo2.vi ok 13 _ ?_)
 first | (refine Evo2.val ok 14 ?_ ?_ ?_; rotate_left; (focus (intro w' hg; refine Box.exec_load1 (off := 2) ?_ Tryz.underlying4 rfl (HB.out.chg (Chg.trans (Chg.refl (fun _ => False) _) hg) id) ?_; (all_goals (first | exact ⟨rfl, rfl⟩ | rfl)))); simp only [Act.put, L0, L1, L2]) | (refine Evo2.val ok 14 ?_ ?_ ?_; rotate_left; (focus (intro w' hg; refine Box.exec_load1 (off := 1) ?_ Tryz.underlying3 rfl (HB.out.chg (Chg.trans (Chg.refl (fun _ => False) _) hg) id) ?_; (all_goals (first | exact ⟨rfl, rfl⟩ | rfl)))); simp only [Act.put, L0, L1, L2]) | (refine Evo2.val ok 14 ?_ ?_ ?_; rotate_left; (focus (intro w' hg; refine Box.exec_load1 (off := 0) ?_ Tryz.underlying41 rfl (HB.out.chg (Chg.trans (Chg.refl (fun _ => False) _) hg) id) ?_; (all_goals (first | exact ⟨rfl, rfl⟩ | rfl)))); simp only [Act.put, L0, L1, L2]) | (refine Evo2.va ok 14 _ _ ?_) | (refine Evo2.vi ok 14 _ ?_)
 first | (refine Evo2.va ok 15 _ _ ?_) | (refine Evo2.vi ok 15 _ ?_)
 first | (refine Evo2.va ok 16 _ _ ?_) | (refine Evo2.vi ok 16 _ ?_)
 refine Evo2.va ok 17 _ _ ?_
 refine Evo2.done (by decide +kernel) (fun wz gz => ?_)
 have AZ := Chg.trans (Chg.refl (fun _ => False) _) (Chg.grow gz)
 have HZ := Lib.hid (HB.out.chg AZ id)
 have e1' := evd HZ.out (i := 1) rfl
 have f1' := HZ.out.free 1
 have gz2 := HZ.out.lt
 have HA := Lib.hid AZ
 clear AZ gz ok
 go_wp2_with fail
 have bw := HZ.out.set 1 (.int .i64 ((p : Int) + (n : Int)))
 simp only [L0, L1, L2] at bw
 have CH : Chg (fun k => k = g) w (wz.setCell ⟨g, 1, none⟩ (.int .i64 ((p : Int) + (n : Int)))) := Chg.setCell (G := fun k => k = g) (HA.out.mono (fun _ _ h => h.elim)) (fun _ => rfl) _ _
 generalize wz.setCell ⟨g, 1, none⟩ (.int .i64 ((p : Int) + (n : Int))) = W at *
 have BW := Lib.hid bw
 have HCH := Lib.hid CH
 have QE : Hid (Qtk n (l, false) = (l.take n, (l.drop n, false))) := Lib.hid (qtk_some HN.out)
 have TLN : Hid ((l.take n).length = n) := Lib.hid (by rw [List.length_take]; have := HN.out; omega)
 have DD : Hid (l.drop n = zs.drop (p + n)) := Lib.hid (by rw [HL.out, List.drop_drop])
 have TC : Hid (∀ i, i < n → (l.take n).getD i 0 = zs.getD (p + i) 0) := Lib.hid (fun i hi => by rw [HL.out]; simp [List.getD, List.getElem?_take, List.getElem?_drop, hi])
 clear bw CH e1' f1' gz2 HZ HA HB
 by_cases hcp : c = p
 ·
  have hn0 : n = 0 := by omega
  subst hcp hn0
  refine Evo2.start' (ℓ := none) (S := Chg (fun _ => False)) (E := Grow.G) (by kernel_rfl) ⟨Chg.pre _, by decide +kernel, (by intro c a d v w h; cases d <;> exact h), by decide +kernel⟩ (fun ok => ?_)
  refine Evo2.va ok 0 _ _ ?_
  refine Evo2.va ok 1 _ _ ?_
  refine Evo2.va ok 2 _ _ ?_
  first | (refine Evo2.val ok 3 ?_ ?_ ?_; rotate_left; (focus (intro w' hg; refine Box.exec_load1 (off := 1) ?_ Tryz.underlying3 rfl (BW.out.chg (Chg.trans (Chg.refl (fun _ => False) _) hg) id) ?_; (all_goals (first | exact ⟨rfl, rfl⟩ | rfl)))); simp only [Act.put, L0, L1, L2]) | (refine Evo2.val ok 3 ?_ ?_ ?_; rotate_left; (focus (intro w' hg; refine Box.exec_load1 (off := 0) ?_ Tryz.underlying41 rfl (BW.out.chg (Chg.trans (Chg.refl (fun _ => False) _) hg) id) ?_; (all_goals (first | exact ⟨rfl, rfl⟩ | rfl)))); simp only [Act.put, L0, L1, L2]) | (refine Evo2.va ok 3 _ _ ?_)
  refine Evo2.va ok 4 _ _ ?_
  refine Evo2.va ok 5 _ _ ?_
  refine Evo2.va ok 6 _ _ ?_
  first | (refine Evo2.val ok 7 ?_ ?_ ?_; rotate_left; (focus (intro w' hg; refine Box.exec_load1 (off := 1) ?_ Tryz.underlying3 rfl (BW.out.chg (Chg.trans (Chg.refl (fun _ => False) _) hg) id) ?_; (all_goals (first | exact ⟨rfl, rfl⟩ | rfl)))); simp only [Act.put, L0, L1, L2]) | (refine Evo2.val ok 7 ?_ ?_ ?_; rotate_left; (focus (intro w' hg; refine Box.exec_load1 (off := 0) ?_ Tryz.underlying41 rfl (BW.out.chg (Chg.trans (Chg.refl (fun _ => False) _) hg) id) ?_; (all_goals (first | exact ⟨rfl, rfl⟩ | rfl)))); simp only [Act.put, L0, L1, L2]) | (refine Evo2.va ok 7 _ _ ?_)
  refine Evo2.va ok 8 _ _ ?_
  refine Evo2.va ok 9 _ _ ?_
  refine Evo2.va ok 10 _ _ ?_
  refine Evo2.va ok 11 _ _ ?_
  refine Evo2.va ok 12 _ _ ?_
  first | (refine Evo2.val ok 13 ?_ ?_ ?_; rotate_left; (focus (intro w' hg; refine Box.exec_load1 (off := 1) ?_ Tryz.underlying3 rfl (BW.out.chg (Chg.trans (Chg.refl (fun _ => False) _) hg) id) ?_; (all_goals (first | exact ⟨rfl, rfl⟩ | rfl)))); simp only [Act.put, L0, L1, L2]) | (refine Evo2.val ok 13 ?_ ?_ ?_; rotate_left; (focus (intro w' hg; refine Box.exec_load1 (off := 0) ?_ Tryz.underlying41 rfl (BW.out.chg (Chg.trans (Chg.refl (fun _ => False) _) hg) id) ?_; (all_goals (first | exact ⟨rfl, rfl⟩ | rfl)))); simp only [Act.put, L0, L1, L2]) | (refine Evo2.va ok 13 _ _ ?_)
  refine Evo2.va ok 14 _ _ ?_
  refine Evo2.va ok 15 _ _ ?_
  refine Evo2.done (by decide +kernel) (fun wz gz => ?_)
  have AZ := Chg.trans (Chg.refl (fun _ => False) _) (Chg.grow gz)
  have HA := Lib.hid AZ
  clear AZ gz ok
  go_wp2_with fail
  go_ret
  have C9 : Chg (fun k => k = g) w wz := HCH.out.trans (HA.out.mono (fun _ _ h => h.elim))
  refine ⟨some ⟨sb, off, none⟩, 0, ?_, ?_, ?_, C9⟩
  ·
   rw [QE.out]; dsimp only; rw [TLN.out]; first | rfl | skip
  ·
   rw [QE.out]; exact .inr ⟨off, rfl, by dsimp only; rw [TLN.out]; exact Nat.le_refl _, fun i hi => by dsimp only at hi; rw [TLN.out] at hi; omega⟩
  ·
   rw [QE.out]; exact ⟨_, hlen, DD.out, BW.out.chg HA.out id⟩
 ·
  have hA : 0 ≤ (p : Int) + (n : Int) ∧ (p : Int) + (n : Int) ≤ (c : Int) := by omega
  have hT : ((p : Int) + (n : Int)).toNat = p + n := by omega
  have hT2 : p ≤ p + n := by omega
  have hT3 : p + n - p = n := by omega
  refine Evo2.start' (ℓ := none) (S := Chg (fun _ => False)) (E := Grow.G) (by kernel_rfl) ⟨Chg.pre _, by decide +kernel, (by intro c a d v w h; cases d <;> exact h), by decide +kernel⟩ (fun ok => ?_)
  refine Evo2.va ok 0 _ _ ?_
  refine Evo2.va ok 1 _ _ ?_
  refine Evo2.va ok 2 _ _ ?_
  first | (refine Evo2.val ok 3 ?_ ?_ ?_; rotate_left; (focus (intro w' hg; refine Box.exec_load1 (off := 1) ?_ Tryz.underlying3 rfl (BW.out.chg (Chg.trans (Chg.refl (fun _ => False) _) hg) id) ?_; (all_goals (first | exact ⟨rfl, rfl⟩ | rfl)))); simp only [Act.put, L0, L1, L2]) | (refine Evo2.val ok 3 ?_ ?_ ?_; rotate_left; (focus (intro w' hg; refine Box.exec_load1 (off := 0) ?_ Tryz.underlying41 rfl (BW.out.chg (Chg.trans (Chg.refl (fun _ => False) _) hg) id) ?_; (all_goals (first | exact ⟨rfl, rfl⟩ | rfl)))); simp only [Act.put, L0, L1, L2]) | (refine Evo2.va ok 3 _ _ ?_)
  refine Evo2.va ok 4 _ _ ?_
  refine Evo2.va ok 5 _ _ ?_
  refine Evo2.va ok 6 _ _ ?_
  first | (refine Evo2.val ok 7 ?_ ?_ ?_; rotate_left; (focus (intro w' hg; refine Box.exec_load1 (off := 1) ?_ Tryz.underlying3 rfl (BW.out.chg (Chg.trans (Chg.refl (fun _ => False) _) hg) id) ?_; (all_goals (first | exact ⟨rfl, rfl⟩ | rfl)))); simp only [Act.put, L0, L1, L2]) | (refine Evo2.val ok 7 ?_ ?_ ?_; rotate_left; (focus (intro w' hg; refine Box.exec_load1 (off := 0) ?_ Tryz.underlying41 rfl (BW.out.chg (Chg.trans (Chg.refl (fun _ => False) _) hg) id) ?_; (all_goals (first | exact ⟨rfl, rfl⟩ | rfl)))); simp only [Act.put, L0, L1, L2]) | (refine Evo2.va ok 7 _ _ ?_)
  refine Evo2.va ok 8 _ _ ?_
  refine Evo2.va ok 9 _ _ ?_
  refine Evo2.va ok 10 _ _ ?_
  refine Evo2.va ok 11 _ _ ?_
  refine Evo2.va ok 12 _ _ ?_
  first | (refine Evo2.val ok 13 ?_ ?_ ?_; rotate_left; (focus (intro w' hg; refine Box.exec_load1 (off := 1) ?_ Tryz.underlying3 rfl (BW.out.chg (Chg.trans (Chg.refl (fun _ => False) _) hg) id) ?_; (all_goals (first | exact ⟨rfl, rfl⟩ | rfl)))); simp only [Act.put, L0, L1, L2]) | (refine Evo2.val ok 13 ?_ ?_ ?_; rotate_left; (focus (intro w' hg; refine Box.exec_load1 (off := 0) ?_ Tryz.underlying41 rfl (BW.out.chg (Chg.trans (Chg.refl (fun _ => False) _) hg) id) ?_; (all_goals (first | exact ⟨rfl, rfl⟩ | rfl)))); simp only [Act.put, L0, L1, L2]) | (refine Evo2.va ok 13 _ _ ?_)
  refine Evo2.va ok 14 _ _ ?_
  refine Evo2.va ok 15 _ _ ?_
  refine Evo2.done (by decide +kernel) (fun wz gz => ?_)
  have AZ := Chg.trans (Chg.refl (fun _ => False) _) (Chg.grow gz)
  have HA := Lib.hid AZ
  clear AZ gz ok
  go_wp2_with fail
  go_ret
  have C9 : Chg (fun k => k = g) w wz := HCH.out.trans (HA.out.mono (fun _ _ h => h.elim))
  refine ⟨some ⟨sb, off + p, none⟩, c - p, ?_, ?_, ?_, C9⟩
  ·
   rw [QE.out]; dsimp only; rw [TLN.out]; first | rfl | skip
  ·
   rw [QE.out]
   refine .inr ⟨off + p, rfl, by dsimp only; rw [TLN.out]; omega, fun i hi => ?_⟩
   dsimp only at hi ⊢
   rw [TLN.out] at hi
   rw [TC.out i hi, Nat.add_assoc]
   exact C9.cell (HY.out (p + i) (by omega)) hne
  ·
   rw [QE.out]; exact ⟨_, hlen, DD.out, by simpa using BW.out.chg HA.out id⟩

set_option maxHeartbeats 2000000 in
theorem tk_none (g sb : Nat) (l : List Int) (w : World) (h : TkAt w g none 0 [] (l, false)) :
  Calls Tryz.prog 77 #[.pointer (some ⟨g, 0, none⟩), .int .i64 0] w fun e w' => Tkd g sb none 0 [] (l, false) 0 w e w' := by
 obtain ⟨p, hp, hl, hb⟩ := h
 dsimp only at hl hb
 obtain rfl : p = 0 := Nat.le_zero.1 hp
 have w0 : IntKind.i64.wrap 0 = 0 := by decide
 have hl2 : l = [] := by rw [hl]; rfl
 subst hl2
 have HB := Lib.hid (show Blk w g #[.slice none 0 0, .int .i64 0, .bool false] 88 from hb)
 clear hb hl hp
 go_enter Tryz.func77, Tryz.ntmps77
 go_wp2_with fail
 refine Evo2.start' (ℓ := none) (S := Chg (fun _ => False)) (E := Grow.G) (by kernel_rfl) ⟨Chg.pre _, by decide +kernel, (by intro c a d v w h; cases d <;> exact h), by decide +kernel⟩ (fun ok => ?_)
 refine Evo2.va ok 0 _ _ ?_
 refine Evo2.va ok 1 _ _ ?_
 refine Evo2.va ok 2 _ _ ?_
 first | (refine Evo2.val ok 3 ?_ ?_ ?_; rotate_left; (focus (intro w' hg; refine Box.exec_load1 (off := 2) ?_ Tryz.underlying4 rfl (HB.out.chg (Chg.trans (Chg.refl (fun _ => False) _) hg) id) ?_; (all_goals (first | exact ⟨rfl, rfl⟩ | rfl)))); simp only [Act.put, L0, L1, L2]) | (refine Evo2.val ok 3 ?_ ?_ ?_; rotate_left; (focus (intro w' hg; refine Box.exec_load1 (off := 1) ?_ Tryz.underlying3 rfl (HB.out.chg (Chg.trans (Chg.refl (fun _ => False) _) hg) id) ?_; (all_goals (first | exact ⟨rfl, rfl⟩ | rfl)))); simp only [Act.put, L0, L1, L2]) | (refine Evo2.val ok 3 ?_ ?_ ?_; rotate_left; (focus (intro w' hg; refine Box.exec_load1 (off := 0) ?_ Tryz.underlying41 rfl (HB.out.chg (Chg.trans (Chg.refl (fun _ => False) _) hg) id) ?_; (all_goals (first | exact ⟨rfl, rfl⟩ | rfl)))); simp only [Act.put, L0, L1, L2]) | (refine Evo2.va ok 3 _ _ ?_)
 refine Evo2.va ok 4 _ _ ?_
 first | (refine Evo2.va ok 5 _ _ ?_) | (refine Evo2.vi ok 5 _ ?_)
 first | (refine Evo2.va ok 6 _ _ ?_) | (refine Evo2.vi ok 6 _ ?_)
 first | (refine Evo2.va ok 7 _ _ ?_) | (refine Evo2.vi ok 7 _ ?_)
 first | (refine Evo2.val ok 8 ?_ ?_ ?_; rotate_left; (focus (intro w' hg; refine Box.exec_load1 (off := 2) ?_ Tryz.underlying4 rfl (HB.out.chg (Chg.trans (Chg.refl (fun _ => False) _) hg) id) ?_; (all_goals (first | exact ⟨rfl, rfl⟩ | rfl)))); simp only [Act.put, L0, L1, L2]) | (refine Evo2.val ok 8 ?_ ?_ ?_; rotate_left; (focus (intro w' hg; refine Box.exec_load1 (off := 1) ?_ Tryz.underlying3 rfl (HB.out.chg (Chg.trans (Chg.refl (fun _ => False) _) hg) id) ?_; (all_goals (first | exact ⟨rfl, rfl⟩ | rfl)))); simp only [Act.put, L0, L1, L2]) | (refine Evo2.val ok 8 ?_ ?_ ?_; rotate_left; (focus (intro w' hg; refine Box.exec_load1 (off := 0) ?_ Tryz.underlying41 rfl (HB.out.chg (Chg.trans (Chg.refl (fun _ => False) _) hg) id) ?_; (all_goals (first | exact ⟨rfl, rfl⟩ | rfl)))); simp only [Act.put, L0, L1, L2]) | (refine Evo2.va ok 8 _ _ ?_) | (refine Evo2.vi ok 8 _ ?_)
 first | (refine Evo2.va ok 9 _ _ ?_) | (refine Evo2.vi ok 9 _ ?_)
 first | (refine Evo2.va ok 10 _ _ ?_) | (refine Evo2.vi ok 10 _ ?_)
 first | (refine Evo2.va ok 11 _ _ ?_) | (refine Evo2.vi ok 11 _ ?_)
 first | (refine Evo2.va ok 12 _ _ ?_) | (refine Evo2.vi ok 12 _ ?_)
 first | (refine Evo2.va ok 13 _ _ ?_) | (refine Evo2.vi ok 13 _ ?_)
 first | (refine Evo2.val ok 14 ?_ ?_ ?_; rotate_left; (focus (intro w' hg; refine Box.exec_load1 (off := 2) ?_ Tryz.underlying4 rfl (HB.out.chg (Chg.trans (Chg.refl (fun _ => False) _) hg) id) ?_; (all_goals (first | exact ⟨rfl, rfl⟩ | rfl)))); simp only [Act.put, L0, L1, L2]) | (refine Evo2.val ok 14 ?_ ?_ ?_; rotate_left; (focus (intro w' hg; refine Box.exec_load1 (off := 1) ?_ Tryz.underlying3 rfl (HB.out.chg (Chg.trans (Chg.refl (fun _ => False) _) hg) id) ?_; (all_goals (first | exact ⟨rfl, rfl⟩ | rfl)))); simp only [Act.put, L0, L1, L2]) | (refine Evo2.val ok 14 ?_ ?_ ?_; rotate_left; (focus (intro w' hg; refine Box.exec_load1 (off := 0) ?_ Tryz.underlying41 rfl (HB.out.chg (Chg.trans (Chg.refl (fun _ => False) _) hg) id) ?_; (all_goals (first | exact ⟨rfl, rfl⟩ | rfl)))); simp only [Act.put, L0, L1, L2]) | (refine Evo2.va ok 14 _ _ ?_) | (refine Evo2.vi ok 14 _ ?_)
 first | (refine Evo2.va ok 15 _ _ ?_) | (refine Evo2.vi ok 15 _ ?_)
 first | (refine Evo2.va ok 16 _ _ ?_) | (refine Evo2.vi ok 16 _ ?_)
 refine Evo2.va ok 17 _ _ ?_
 refine Evo2.done (by decide +kernel) (fun wz gz => ?_)
 have AZ := Chg.trans (Chg.refl (fun _ => False) _) (Chg.grow gz)
 have HZ := Lib.hid (HB.out.chg AZ id)
 have e1' := evd HZ.out (i := 1) rfl
 have f1' := HZ.out.free 1
 have gz2 := HZ.out.lt
 have HA := Lib.hid AZ
 clear AZ gz ok
 go_wp2_with fail
 have bw := HZ.out.set 1 (.int .i64 0)
 simp only [L0, L1, L2] at bw
 have CH : Chg (fun k => k = g) w (wz.setCell ⟨g, 1, none⟩ (.int .i64 0)) := Chg.setCell (G := fun k => k = g) (HA.out.mono (fun _ _ h => h.elim)) (fun _ => rfl) _ _
 generalize wz.setCell ⟨g, 1, none⟩ (.int .i64 0) = W at *
 have BW := Lib.hid bw
 have HCH := Lib.hid CH
 clear bw CH e1' f1' gz2 HZ HA HB
 refine Evo2.start' (ℓ := none) (S := Chg (fun _ => False)) (E := Grow.G) (by kernel_rfl) ⟨Chg.pre _, by decide +kernel, (by intro c a d v w h; cases d <;> exact h), by decide +kernel⟩ (fun ok => ?_)
 refine Evo2.va ok 0 _ _ ?_
 refine Evo2.va ok 1 _ _ ?_
 refine Evo2.va ok 2 _ _ ?_
 first | (refine Evo2.val ok 3 ?_ ?_ ?_; rotate_left; (focus (intro w' hg; refine Box.exec_load1 (off := 1) ?_ Tryz.underlying3 rfl (BW.out.chg (Chg.trans (Chg.refl (fun _ => False) _) hg) id) ?_; (all_goals (first | exact ⟨rfl, rfl⟩ | rfl)))); simp only [Act.put, L0, L1, L2]) | (refine Evo2.val ok 3 ?_ ?_ ?_; rotate_left; (focus (intro w' hg; refine Box.exec_load1 (off := 0) ?_ Tryz.underlying41 rfl (BW.out.chg (Chg.trans (Chg.refl (fun _ => False) _) hg) id) ?_; (all_goals (first | exact ⟨rfl, rfl⟩ | rfl)))); simp only [Act.put, L0, L1, L2]) | (refine Evo2.va ok 3 _ _ ?_)
 refine Evo2.va ok 4 _ _ ?_
 refine Evo2.va ok 5 _ _ ?_
 refine Evo2.va ok 6 _ _ ?_
 first | (refine Evo2.val ok 7 ?_ ?_ ?_; rotate_left; (focus (intro w' hg; refine Box.exec_load1 (off := 1) ?_ Tryz.underlying3 rfl (BW.out.chg (Chg.trans (Chg.refl (fun _ => False) _) hg) id) ?_; (all_goals (first | exact ⟨rfl, rfl⟩ | rfl)))); simp only [Act.put, L0, L1, L2]) | (refine Evo2.val ok 7 ?_ ?_ ?_; rotate_left; (focus (intro w' hg; refine Box.exec_load1 (off := 0) ?_ Tryz.underlying41 rfl (BW.out.chg (Chg.trans (Chg.refl (fun _ => False) _) hg) id) ?_; (all_goals (first | exact ⟨rfl, rfl⟩ | rfl)))); simp only [Act.put, L0, L1, L2]) | (refine Evo2.va ok 7 _ _ ?_)
 refine Evo2.va ok 8 _ _ ?_
 refine Evo2.va ok 9 _ _ ?_
 refine Evo2.va ok 10 _ _ ?_
 refine Evo2.va ok 11 _ _ ?_
 refine Evo2.va ok 12 _ _ ?_
 first | (refine Evo2.val ok 13 ?_ ?_ ?_; rotate_left; (focus (intro w' hg; refine Box.exec_load1 (off := 1) ?_ Tryz.underlying3 rfl (BW.out.chg (Chg.trans (Chg.refl (fun _ => False) _) hg) id) ?_; (all_goals (first | exact ⟨rfl, rfl⟩ | rfl)))); simp only [Act.put, L0, L1, L2]) | (refine Evo2.val ok 13 ?_ ?_ ?_; rotate_left; (focus (intro w' hg; refine Box.exec_load1 (off := 0) ?_ Tryz.underlying41 rfl (BW.out.chg (Chg.trans (Chg.refl (fun _ => False) _) hg) id) ?_; (all_goals (first | exact ⟨rfl, rfl⟩ | rfl)))); simp only [Act.put, L0, L1, L2]) | (refine Evo2.va ok 13 _ _ ?_)
 refine Evo2.va ok 14 _ _ ?_
 refine Evo2.va ok 15 _ _ ?_
 refine Evo2.done (by decide +kernel) (fun wz gz => ?_)
 have AZ := Chg.trans (Chg.refl (fun _ => False) _) (Chg.grow gz)
 have HA := Lib.hid AZ
 clear AZ gz ok
 go_wp2_with fail
 go_ret
 have C9 : Chg (fun k => k = g) w wz := HCH.out.trans (HA.out.mono (fun _ _ h => h.elim))
 exact ⟨none, 0, rfl, .inl ⟨rfl, rfl, rfl⟩, ⟨0, Nat.le_refl _, rfl, BW.out.chg HA.out id⟩, C9⟩
theorem tk_take (g sb : Nat) (a : Option Addr) (c : Nat) (zs : List Int) (s : LS) (n : Nat) (w : World) (h : TkAt w g a c zs s) (hs : BySl w sb a c zs) (hne : sb ≠ g) (hn : n ≤ 1000) (hz : zs.length ≤ 1000000) :
  Calls Tryz.prog 77 #[.pointer (some ⟨g, 0, none⟩), .int .i64 n] w fun e w' => Tkd g sb a c zs s n w e w' := by
 obtain ⟨l, b⟩ := s
 cases b with
 | true => exact tk_bad g sb a c zs l n w h
 | false =>
  rcases Nat.lt_or_ge l.length n with hl | hl
  ·
   exact tk_lack g sb a c zs l n w h hl hn hz
  ·
   rcases hs with ⟨rfl, h0, rfl⟩ | ⟨off, rfl, hc, hy⟩
   ·
    subst h0
    obtain ⟨p, hp, hl0, _⟩ := id h
    have hl2 : l = [] := by
     have q : l = List.drop p [] := hl0
     rw [q]; simp
    obtain rfl : n = 0 := by rw [hl2] at hl; exact Nat.le_zero.1 hl
    exact tk_none g sb l w h
   ·
    exact tk_ok g sb off c zs l n w h hc hy hne hl hz

set_option maxHeartbeats 1000000 in
theorem tk_numT (g sb : Nat) (a : Option Addr) (c : Nat) (zs : List Int) (s : LS) (n : Nat) (w : World) (t : Calls Tryz.prog 77 #[.pointer (some ⟨g, 0, none⟩), .int .i64 n] w fun e w' => Tkd g sb a c zs s n w e w') (hn : n ≤ 4) (hbt : Bts s.1) :
  Calls Tryz.prog 48 #[.pointer (some ⟨g, 0, none⟩), .int .i64 n] w fun e w' => e = .returned (.int .i64 (Qnum n s).1) ∧ TkAt w' g a c zs (Qnum n s).2 ∧ Chg (fun k => k = g) w w' := by
 have T := Lib.hid t
 have V : Hid ((Qnum n s).1 = valB (Qtk n s).1) := Lib.hid rfl
 have HB := Lib.hid (Qtk_bts (n := n) hbt).1
 have LL : (Qtk n s).1.length ≤ 4 := Nat.le_trans (Qtk_le n s) hn
 have R2 : Hid ((Qnum n s).2 = (Qtk n s).2) := Lib.hid rfl
 generalize (Qnum n s).1 = z at *
 generalize (Qnum n s).2 = s2 at *
 clear t hbt
 go_enter Tryz.func48, Tryz.ntmps48
 go_wp2_with fail
 refine T.out.mono ?_
 rintro e w1 ⟨a', c', rfl, hs, hr, hch⟩
 rw [← R2.out] at hr
 have HR := Lib.hid (And.intro hr hch)
 clear hr hch T R2
 generalize (Qtk n s).1 = ys at *
 have HS := Lib.hid hs
 clear hs
 go_wp2_with fail
 go_loop [6, 7] (fun v ii => ∃ i : Nat, i ≤ ys.length ∧ ii = .int .i64 i ∧ v = .int .i64 (valB (ys.take i))) (fun _ ii => ys.length - (intOf ii).toNat)
 case atStart => exact ⟨0, by omega, rfl, rfl⟩
 case round =>
  obtain ⟨i, hi, rfl, rfl⟩ := hrel
  by_cases hlt : i < ys.length
  ·
   have hv := valB_bd (HB.out.take i) i (by rw [List.length_take]; omega)
   have hp : (256 : Int) ^ i ≤ 16777216 := by
    have : i = 0 ∨ i = 1 ∨ i = 2 ∨ i = 3 := by omega
    rcases this with rfl | rfl | rfl | rfl <;> decide
   have hx := HB.out (ys.getD i 0) (by simp [List.getD, hlt])
   have SN : Hid (valB (ys.take (i + 1)) = valB (ys.take i) * 256 + ys.getD i 0) := Lib.hid (by rw [take_snocI ys i hlt, valB_snoc])
   rcases HS.out with ⟨_, h, _⟩ | ⟨off, rfl, hc, hz⟩
   ·
    rw [h] at hlt; exact absurd hlt (Nat.not_lt_zero _)
   have cz := hz i hlt
   clear hz
   generalize ys.getD i 0 = x at *
   generalize valB (ys.take i) = v at *
   have v0 := hv.1
   have v1 : v < 16777216 := by omega
   have x0 := hx.1
   have x1 := hx.2
   have OR := or_byte v0 (by omega) x0 x1
   clear hv hp hx
   go_wp2_with fail
   go_round
   case rel => exact ⟨i + 1, by omega, by go_num, by rw [SN.out]⟩
   case measure => simp [intOf]; omega
  ·
   obtain rfl : i = ys.length := by omega
   have E := Lib.hid V.out.symm
   rw [List.take_length] 
   go_wp2_with fail
   go_ret
   exact ⟨ret_i64 E.out, HR.out.1, HR.out.2⟩
theorem tk_num (g sb : Nat) (a : Option Addr) (c : Nat) (zs : List Int) (s : LS) (n : Nat) (w : World) (h : TkAt w g a c zs s) (hs : BySl w sb a c zs) (hne : sb ≠ g) (hn : n ≤ 4) (hz : zs.length ≤ 1000000) (hbt : Bts s.1) :
  Calls Tryz.prog 48 #[.pointer (some ⟨g, 0, none⟩), .int .i64 n] w fun e w' => e = .returned (.int .i64 (Qnum n s).1) ∧ TkAt w' g a c zs (Qnum n s).2 ∧ Chg (fun k => k = g) w w' :=
 tk_numT g sb a c zs s n w (tk_take g sb a c zs s n w h hs hne (by omega) hz) hn hbt
theorem tk_num0 (g : Nat) (a : Option Addr) (c : Nat) (w : World) (h : TkAt w g a c [] ([], false)) :
  Calls Tryz.prog 48 #[.pointer (some ⟨g, 0, none⟩), .int .i64 1] w fun e w' => e = .returned (.int .i64 0) ∧ TkAt w' g a c [] ([], true) ∧ Chg (fun k => k = g) w w' :=
 tk_numT g 0 a c [] ([], false) 1 w (tk_lack g 0 a c [] [] 1 w h (by decide) (by decide) (by simp)) (by decide) Bts.nil
set_option maxHeartbeats 1000000 in
theorem tk_txt (g sb : Nat) (a : Option Addr) (c : Nat) (zs : List Int) (s : LS) (w : World) (h : TkAt w g a c zs s) (hs : BySl w sb a c zs) (hne : sb ≠ g) (hz : zs.length ≤ 1000000) (hbt : Bts s.1) :
  Calls Tryz.prog 49 #[.pointer (some ⟨g, 0, none⟩)] w fun e w' => e = .returned (.string (Qtxt s).1) ∧ TkAt w' g a c zs (Qtxt s).2 ∧ Chg (fun k => k = g) w w' := by
 have T := Lib.hid (tk_num g sb a c zs s 1 w h hs hne (by decide) hz hbt)
 have V : Hid ((Qtxt s).1 = strOfNums (Qtk (Qnum 1 s).1.toNat (Qnum 1 s).2).1) := Lib.hid rfl
 have R2 : Hid ((Qtxt s).2 = (Qtk (Qnum 1 s).1.toNat (Qnum 1 s).2).2) := Lib.hid rfl
 have NB := Qnum_bd (k := 1) hbt
 have NN : Hid ((Qnum 1 s).1 = ((Qnum 1 s).1.toNat : Int)) := Lib.hid (Int.toNat_of_nonneg NB.1).symm
 have HSL := Lib.hid hs
 generalize (Qtxt s).1 = z at *
 generalize (Qtxt s).2 = s3 at *
 generalize (Qnum 1 s).1.toNat = n at *
 generalize (Qnum 1 s).1 = n' at *
 generalize (Qnum 1 s).2 = s2 at *
 obtain rfl := NN.out
 have hn : n ≤ 1000 := by have := NB.2; omega
 clear h hs hbt NN NB
 go_enter Tryz.func49, Tryz.ntmps49
 go_wp2_with fail
 refine T.out.mono ?_
 rintro e w1 ⟨rfl, hr, hch⟩
 have T2 := Lib.hid (tk_take g sb a c zs s2 n w1 hr (HSL.out.chg hch hne) hne hn hz)
 have C1 := Lib.hid hch
 clear hr hch T
 go_wp2_with fail
 refine T2.out.mono ?_
 rintro e w2 ⟨a', c', rfl, hs, hr, hch⟩
 rw [← R2.out] at hr
 have HR := Lib.hid (And.intro hr (Chg.trans C1.out hch))
 clear hr hch T2 R2 C1
 generalize (Qtk n s2).1 = ys at *
 have cv := cv_bytes hs
 clear hs
 go_wp2_with fail
 go_ret
 exact ⟨congrArg (fun v => Ending.returned (.string v)) V.out.symm, HR.out.1, HR.out.2⟩
end Go.Proofs.YtnkekdmikopdgaaGreat

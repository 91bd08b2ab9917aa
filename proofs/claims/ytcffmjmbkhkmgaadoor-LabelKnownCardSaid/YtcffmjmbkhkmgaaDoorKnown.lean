/- damperlaw1's helper: known. -/
import Derived.Test.YtcffmjmbkhkmgaaDoorSplit3
namespace Go.Proofs.YtcffmjmbkhkmgaaDoor
set_option linter.unusedVariables false
set_option linter.unusedSimpArgs false
set_option linter.unnecessarySimpa false
open Go.RowKit

theorem splitAns.get {s c : ByteArray} {n : Int} {e : Ending} (h : splitAns s e) (hr : IsRev s c n) : e = .returned (.tuple #[.string c, .int .i64 n, .bool true]) := by
  rcases h with ⟨c', n', h', he⟩ | ⟨hno, _⟩
  · obtain ⟨rfl, rfl⟩ := hr.unique h'
    exact he
  · exact absurd hr (hno c n)
theorem split_yes (s c : ByteArray) (n : Int) (w : World) (hs : s.size ≤ 281474976710655) (hr : IsRev s c n) :
    Calls Tryd.prog 20 #[.string s] w fun e w' => e = .returned (.tuple #[.string c, .int .i64 n, .bool true]) ∧ Below w.heap.size w w' :=
  (split_any s w hs).mono fun e w' ⟨ha, hb⟩ => ⟨ha.get hr, hb⟩
theorem split_no (s : ByteArray) (w : World) (hs : s.size ≤ 281474976710655) (hr : ∀ c n, ¬ IsRev s c n) :
    Calls Tryd.prog 20 #[.string s] w fun e w' => e = .returned (.tuple #[.string ⟨#[]⟩, .int .i64 0, .bool false]) ∧ Below w.heap.size w w' :=
  (split_any s w hs).mono fun e w' ⟨ha, hb⟩ => by
    rcases ha with ⟨c', n', h', he⟩ | ⟨_, he⟩
    · exact absurd h' (hr c' n')
    · exact ⟨he, hb⟩
theorem isRev_web : IsRev ⟨#[119, 101, 98, 45, 49]⟩ ⟨#[119, 101, 98]⟩ 1 := by
  refine ⟨by decide, by decide, by decide, ?_⟩
  show _ = _ ++ _ ++ digS 1
  rw [digS_small (by decide)]; rfl
theorem rev_of {s c : ByteArray} {n : Int} (h : IsRev s c n) : revS c n = s := by
  rw [revS_yes ⟨h.1, h.2.1, h.2.2.1⟩, ← h.2.2.2]

set_option maxHeartbeats 1000000 in
theorem known_any (w : World) (ht : Tab w) :
    Calls Tryd.prog 10 #[] w fun e w' => e = .returned (.bool true) ∧ Below w.heap.size w w' := by
  have HT := Lib.hid ht
  clear ht
  have RW := Lib.hid (rev_of isRev_web)
  have n1 : nameB 16 ⟨#[119, 101, 98]⟩ = true := by decide
  have n2 : nameB 8 ⟨#[118, 49]⟩ = true := by decide
  go_enter Tryd.func10, Tryd.ntmps10
  go_wp2_with fail
  refine (split_yes _ _ _ _ (by decide) isRev_web).mono ?_
  rintro e w1 ⟨rfl, hb1⟩
  go_wp2_with fail
  refine (rev_any _ _ _ (by decide) (by omega) (by omega) (HT.out.below hb1)).mono ?_
  rintro e w2 ⟨he, hb2⟩
  rw [RW.out] at he
  subst he
  go_wp2_with (first | (go_at_call 13; refine (name_any _ _ (by decide)).mono ?_; rintro e w3 ⟨rfl, hb3⟩) | (go_at_call 15; refine (tag_any _ _ (by decide)).mono ?_; rintro e w4 ⟨rfl, hb4⟩))
  go_ret
  exact ⟨rfl, ((hb1.trans (hb2.mono hb1.size)).trans (hb3.mono (Nat.le_trans hb1.size hb2.size))).trans (hb4.mono (Nat.le_trans (Nat.le_trans hb1.size hb2.size) hb3.size))⟩
end Go.Proofs.YtcffmjmbkhkmgaaDoor

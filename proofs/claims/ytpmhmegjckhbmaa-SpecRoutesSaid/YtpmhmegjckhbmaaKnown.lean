/- damperlaw1's helper: known. -/
import Derived.Test.YtpmhmegjckhbmaaSplit3
namespace Go.Proofs.Ytpmhmegjckhbmaa
set_option linter.unusedVariables false
set_option linter.unusedSimpArgs false
set_option linter.unnecessarySimpa false
open Go.RowKit

theorem splitAns.get {s c : ByteArray} {n : Int} {e : Ending} (h : splitAns s e) (hr : IsRev s c n) : e = .returned (.tuple #[.string c, .int .i64 n, .bool true]) := by
  rcases h with ⟨c', n', h', he⟩ | ⟨hno, _⟩
  · obtain ⟨rfl, rfl⟩ := hr.unique h'
    exact he
  · exact absurd hr (hno c n)
theorem split_yes (s c : ByteArray) (n : Int) (w : World) (hs : s.size ≤ 281474976710655) (hr : IsRev s c n) :
    Calls Try.prog 48 #[.string s] w fun e w' => e = .returned (.tuple #[.string c, .int .i64 n, .bool true]) ∧ Below w.heap.size w w' :=
  (split_any s w hs).mono fun e w' ⟨ha, hb⟩ => ⟨ha.get hr, hb⟩
theorem split_no (s : ByteArray) (w : World) (hs : s.size ≤ 281474976710655) (hr : ∀ c n, ¬ IsRev s c n) :
    Calls Try.prog 48 #[.string s] w fun e w' => e = .returned (.tuple #[.string ⟨#[]⟩, .int .i64 0, .bool false]) ∧ Below w.heap.size w w' :=
  (split_any s w hs).mono fun e w' ⟨ha, hb⟩ => by
    rcases ha with ⟨c', n', h', he⟩ | ⟨_, he⟩
    · exact absurd h' (hr c' n')
    · exact ⟨he, hb⟩
theorem isRev_web : IsRev ⟨#[119, 101, 98, 45, 49]⟩ ⟨#[119, 101, 98]⟩ 1 := by
  refine ⟨by decide, by decide, by decide, ?_⟩
  show _ = _ ++ _ ++ digS 1
  rw [digS_small (by decide)]; rfl
theorem rev_of {s c : ByteArray} {n : Int} (h : IsRev s c n) : revS c n = s := by
  rw [revS_yes ⟨h.1, h.2.1, h.2.2.1⟩, ← h.2.2.2]

end Go.Proofs.Ytpmhmegjckhbmaa

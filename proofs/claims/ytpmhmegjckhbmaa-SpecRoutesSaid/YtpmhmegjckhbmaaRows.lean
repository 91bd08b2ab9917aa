/-
  No cell of these rows narrows 'for every input' (looked for: loops, veiled, ifaces, maps, wideKeys, modest, calm, conditions, laid).
  DERIVED. THE GIVEN ROWS OF THIS SEAT. 8 by the template 'for every input the law returns true; each argument reads behind the call as it read before'; 0 by the template 'total and deterministic' (their statements: YtpmhmegjckhbmaaTotals.lean).
  GIVEN WITH THE SEED: the statements are not yours to turn. If you find one false, say at which input.
  Laid BY PROGRAM, IN A SANDBOX (cutbox-rows.mjs): the forced cells as the released guide's own fill.sh prints them over the translation 97cacb9d3fe727bd… (all of the seat's roots in one cut). By AI agents, Wed Nov 11 2026. No macro, syntax, notation, axiom, sorry.
-/
import Derived.Test.YtpmhmegjckhbmaaChecked
import GoSem.Claim
import GoSem.ClaimJoined
import GoSem.ClaimMapViews
import Derived.JoinedTies
import Derived.KernelRfl
namespace Go.Proofs.Ytpmhmegjckhbmaa
/- THE CELL 'sum', in the pinned program and in every row, IS THE sha256 OF THE DUMP (.gsa) THAT YtpmhmegjckhbmaaProg.lean LOADS. Nothing in Lean hashes anything: it is a label: what it is worth is what the hold of that sum in a sandbox is worth. -/
noncomputable def Try.pinned : Pinned := { name := "ytpmhmegjckhbmaa", sum := "97cacb9d3fe727bd06ad5ee107717d7e5f0d9fc5aa4b24bd37b709feca889ec7", checked := Try.checked }
namespace Rows
def none {H : Type} : Left H := { results := [], args := [] }

/-- 'damperlaw2.SpecConfigs': WHATEVER THE INPUT: true; the input reads as it did. -/
def specConfigsSpec : ChangeSpec := { name := "specConfigs", fn := fun _ => fun
  | [d1, d2, d3, d4, d5, d6] => { results := [.lit (.bool true)], args := [d1, d2, d3, d4, d5, d6] }
  | _ => none }
def specConfigsRow : OpenClaim := { program := "ytpmhmegjckhbmaa", sum := "97cacb9d3fe727bd06ad5ee107717d7e5f0d9fc5aa4b24bd37b709feca889ec7", func := "damper/damperlaw2.SpecConfigs", spec := "specConfigs", unfollowed := true, recurses := true, apart := false }
def SpecConfigsSaid : Prop := specConfigsRow.holds Try.pinned (OpenSpec.ofChange specConfigsSpec)

/-- ITS FALSE NEIGHBOUR: 'it returns false'. Refute it at one input. -/
def specConfigsWrong : ChangeSpec := { name := "specConfigs", fn := fun _ => fun
  | [d1, d2, d3, d4, d5, d6] => { results := [.lit (.bool false)], args := [d1, d2, d3, d4, d5, d6] }
  | _ => none }
def SpecConfigsWrongFalsely : Prop := specConfigsRow.holds Try.pinned (OpenSpec.ofChange specConfigsWrong)

/-- 'damperlaw2.SpecRoutes': WHATEVER THE INPUT: true; the input reads as it did. -/
def specRoutesSpec : ChangeSpec := { name := "specRoutes", fn := fun _ => fun
  | [d1, d2, d3, d4, d5, d6, d7, d8] => { results := [.lit (.bool true)], args := [d1, d2, d3, d4, d5, d6, d7, d8] }
  | _ => none }
def specRoutesRow : OpenClaim := { program := "ytpmhmegjckhbmaa", sum := "97cacb9d3fe727bd06ad5ee107717d7e5f0d9fc5aa4b24bd37b709feca889ec7", func := "damper/damperlaw2.SpecRoutes", spec := "specRoutes", unfollowed := true, recurses := true, apart := false }
def SpecRoutesSaid : Prop := specRoutesRow.holds Try.pinned (OpenSpec.ofChange specRoutesSpec)

/-- ITS FALSE NEIGHBOUR: 'it returns false'. Refute it at one input. -/
def specRoutesWrong : ChangeSpec := { name := "specRoutes", fn := fun _ => fun
  | [d1, d2, d3, d4, d5, d6, d7, d8] => { results := [.lit (.bool false)], args := [d1, d2, d3, d4, d5, d6, d7, d8] }
  | _ => none }
def SpecRoutesWrongFalsely : Prop := specRoutesRow.holds Try.pinned (OpenSpec.ofChange specRoutesWrong)

/-- 'damperlaw2.SpecSame': WHATEVER THE INPUT: true; the input reads as it did. -/
def specSameSpec : ChangeSpec := { name := "specSame", fn := fun _ => fun
  | [d1, d2, d3, d4, d5, d6] => { results := [.lit (.bool true)], args := [d1, d2, d3, d4, d5, d6] }
  | _ => none }
def specSameRow : OpenClaim := { program := "ytpmhmegjckhbmaa", sum := "97cacb9d3fe727bd06ad5ee107717d7e5f0d9fc5aa4b24bd37b709feca889ec7", func := "damper/damperlaw2.SpecSame", spec := "specSame", unfollowed := true, recurses := true, apart := false }
def SpecSameSaid : Prop := specSameRow.holds Try.pinned (OpenSpec.ofChange specSameSpec)

/-- ITS FALSE NEIGHBOUR: 'it returns false'. Refute it at one input. -/
def specSameWrong : ChangeSpec := { name := "specSame", fn := fun _ => fun
  | [d1, d2, d3, d4, d5, d6] => { results := [.lit (.bool false)], args := [d1, d2, d3, d4, d5, d6] }
  | _ => none }
def SpecSameWrongFalsely : Prop := specSameRow.holds Try.pinned (OpenSpec.ofChange specSameWrong)

/-- 'damperlaw2.SpecHundred': WHATEVER THE INPUT: true; the input reads as it did. -/
def specHundredSpec : ChangeSpec := { name := "specHundred", fn := fun _ => fun
  | [d1, d2, d3] => { results := [.lit (.bool true)], args := [d1, d2, d3] }
  | _ => none }
def specHundredRow : OpenClaim := { program := "ytpmhmegjckhbmaa", sum := "97cacb9d3fe727bd06ad5ee107717d7e5f0d9fc5aa4b24bd37b709feca889ec7", func := "damper/damperlaw2.SpecHundred", spec := "specHundred", unfollowed := true, recurses := true, apart := false }
def SpecHundredSaid : Prop := specHundredRow.holds Try.pinned (OpenSpec.ofChange specHundredSpec)

/-- ITS FALSE NEIGHBOUR: 'it returns false'. Refute it at one input. -/
def specHundredWrong : ChangeSpec := { name := "specHundred", fn := fun _ => fun
  | [d1, d2, d3] => { results := [.lit (.bool false)], args := [d1, d2, d3] }
  | _ => none }
def SpecHundredWrongFalsely : Prop := specHundredRow.holds Try.pinned (OpenSpec.ofChange specHundredWrong)

/-- 'damperlaw2.SpecKnown': WHATEVER THE INPUT: true; the input reads as it did. -/
def specKnownSpec : ChangeSpec := { name := "specKnown", fn := fun _ => fun
  | [d] => { results := [.lit (.bool true)], args := [d] }
  | _ => none }
def specKnownRow : OpenClaim := { program := "ytpmhmegjckhbmaa", sum := "97cacb9d3fe727bd06ad5ee107717d7e5f0d9fc5aa4b24bd37b709feca889ec7", func := "damper/damperlaw2.SpecKnown", spec := "specKnown", unfollowed := true, recurses := true, apart := false }
def SpecKnownSaid : Prop := specKnownRow.holds Try.pinned (OpenSpec.ofChange specKnownSpec)

/-- ITS FALSE NEIGHBOUR: 'it returns false'. Refute it at one input. -/
def specKnownWrong : ChangeSpec := { name := "specKnown", fn := fun _ => fun
  | [d] => { results := [.lit (.bool false)], args := [d] }
  | _ => none }
def SpecKnownWrongFalsely : Prop := specKnownRow.holds Try.pinned (OpenSpec.ofChange specKnownWrong)

/-- 'damperlaw2.SpecTargets': WHATEVER THE INPUT: true; the input reads as it did. -/
def specTargetsSpec : ChangeSpec := { name := "specTargets", fn := fun _ => fun
  | [d] => { results := [.lit (.bool true)], args := [d] }
  | _ => none }
def specTargetsRow : OpenClaim := { program := "ytpmhmegjckhbmaa", sum := "97cacb9d3fe727bd06ad5ee107717d7e5f0d9fc5aa4b24bd37b709feca889ec7", func := "damper/damperlaw2.SpecTargets", spec := "specTargets", unfollowed := true, recurses := true, apart := false }
def SpecTargetsSaid : Prop := specTargetsRow.holds Try.pinned (OpenSpec.ofChange specTargetsSpec)

/-- ITS FALSE NEIGHBOUR: 'it returns false'. Refute it at one input. -/
def specTargetsWrong : ChangeSpec := { name := "specTargets", fn := fun _ => fun
  | [d] => { results := [.lit (.bool false)], args := [d] }
  | _ => none }
def SpecTargetsWrongFalsely : Prop := specTargetsRow.holds Try.pinned (OpenSpec.ofChange specTargetsWrong)

/-- 'damperlaw2.SpecEven': WHATEVER THE INPUT: true; the input reads as it did. -/
def specEvenSpec : ChangeSpec := { name := "specEven", fn := fun _ => fun
  | [d1, d2] => { results := [.lit (.bool true)], args := [d1, d2] }
  | _ => none }
def specEvenRow : OpenClaim := { program := "ytpmhmegjckhbmaa", sum := "97cacb9d3fe727bd06ad5ee107717d7e5f0d9fc5aa4b24bd37b709feca889ec7", func := "damper/damperlaw2.SpecEven", spec := "specEven", unfollowed := true, recurses := true, apart := false }
def SpecEvenSaid : Prop := specEvenRow.holds Try.pinned (OpenSpec.ofChange specEvenSpec)

/-- ITS FALSE NEIGHBOUR: 'it returns false'. Refute it at one input. -/
def specEvenWrong : ChangeSpec := { name := "specEven", fn := fun _ => fun
  | [d1, d2] => { results := [.lit (.bool false)], args := [d1, d2] }
  | _ => none }
def SpecEvenWrongFalsely : Prop := specEvenRow.holds Try.pinned (OpenSpec.ofChange specEvenWrong)

/-- 'damperlaw2.SpecEdges': WHATEVER THE INPUT: true; the input reads as it did. -/
def specEdgesSpec : ChangeSpec := { name := "specEdges", fn := fun _ => fun
  | [d1, d2] => { results := [.lit (.bool true)], args := [d1, d2] }
  | _ => none }
def specEdgesRow : OpenClaim := { program := "ytpmhmegjckhbmaa", sum := "97cacb9d3fe727bd06ad5ee107717d7e5f0d9fc5aa4b24bd37b709feca889ec7", func := "damper/damperlaw2.SpecEdges", spec := "specEdges", unfollowed := true, recurses := true, apart := false }
def SpecEdgesSaid : Prop := specEdgesRow.holds Try.pinned (OpenSpec.ofChange specEdgesSpec)

/-- ITS FALSE NEIGHBOUR: 'it returns false'. Refute it at one input. -/
def specEdgesWrong : ChangeSpec := { name := "specEdges", fn := fun _ => fun
  | [d1, d2] => { results := [.lit (.bool false)], args := [d1, d2] }
  | _ => none }
def SpecEdgesWrongFalsely : Prop := specEdgesRow.holds Try.pinned (OpenSpec.ofChange specEdgesWrong)

/- THE SECOND FORM. 'bulk': how many values and letters a reading holds, each counted each time it is reached (what is shared counts as often as it is met; a slice's spare places count too). A statement '..UptoSaid' is the law's where the arguments, and the package variables that the reading takes, are together of bulk at most 1048576: NARROWER than '..Said'. Prove '..Said' where nothing that the law and all that it calls make is longer than what came in: it says more and counts as full. Else prove '..UptoSaid'. A law counts once. -/
mutual
def uptoBulk {H : Type} : DataW H → Nat
  | .lit (.string bytes) => bytes.length + 1
  | .lit _ => 1
  | .nil => 1
  | .ptr d => uptoBulk d + 1
  | .slice elems spare => uptoBulkAll elems + uptoBulkAll spare + 1
  | .agg parts => uptoBulkAll parts + 1
  | .iface _ d => uptoBulk d + 1
  | .map entries => uptoBulkEntries entries + 1
  | .held _ => 1
def uptoBulkAll {H : Type} : List (DataW H) → Nat
  | [] => 0
  | d :: r => uptoBulk d + uptoBulkAll r
def uptoBulkEntries {H : Type} : List (Lit × DataW H) → Nat
  | [] => 0
  | x :: r => uptoBulkEntry x + uptoBulkEntries r
def uptoBulkEntry {H : Type} : Lit × DataW H → Nat
  | (.string bytes, d) => bytes.length + uptoBulk d + 1
  | (_, d) => uptoBulk d + 1
 end
def uptoSmall : (H : Type) → List (DataW H) → Bool := fun _ ds => decide (uptoBulkAll ds ≤ 1048576)
def OpenSpec.upto (s : _root_.Go.ChangeSpec) : _root_.Go.OpenSpec := { _root_.Go.OpenSpec.ofChange s with cond := some uptoSmall }

/-- 'damperlaw2.SpecConfigs', WHERE WHAT IT READS IS OF BULK AT MOST 1048576: true; the input reads as it did. -/
def specConfigsUptoRow : OpenClaim := { program := "ytpmhmegjckhbmaa", sum := "97cacb9d3fe727bd06ad5ee107717d7e5f0d9fc5aa4b24bd37b709feca889ec7", func := "damper/damperlaw2.SpecConfigs", spec := "specConfigs", unfollowed := true, recurses := true, apart := false, narrowed := true }
def SpecConfigsUptoSaid : Prop := specConfigsUptoRow.holds Try.pinned (OpenSpec.upto specConfigsSpec)

/-- 'damperlaw2.SpecRoutes', WHERE WHAT IT READS IS OF BULK AT MOST 1048576: true; the input reads as it did. -/
def specRoutesUptoRow : OpenClaim := { program := "ytpmhmegjckhbmaa", sum := "97cacb9d3fe727bd06ad5ee107717d7e5f0d9fc5aa4b24bd37b709feca889ec7", func := "damper/damperlaw2.SpecRoutes", spec := "specRoutes", unfollowed := true, recurses := true, apart := false, narrowed := true }
def SpecRoutesUptoSaid : Prop := specRoutesUptoRow.holds Try.pinned (OpenSpec.upto specRoutesSpec)

/-- 'damperlaw2.SpecSame', WHERE WHAT IT READS IS OF BULK AT MOST 1048576: true; the input reads as it did. -/
def specSameUptoRow : OpenClaim := { program := "ytpmhmegjckhbmaa", sum := "97cacb9d3fe727bd06ad5ee107717d7e5f0d9fc5aa4b24bd37b709feca889ec7", func := "damper/damperlaw2.SpecSame", spec := "specSame", unfollowed := true, recurses := true, apart := false, narrowed := true }
def SpecSameUptoSaid : Prop := specSameUptoRow.holds Try.pinned (OpenSpec.upto specSameSpec)

/-- 'damperlaw2.SpecHundred', WHERE WHAT IT READS IS OF BULK AT MOST 1048576: true; the input reads as it did. -/
def specHundredUptoRow : OpenClaim := { program := "ytpmhmegjckhbmaa", sum := "97cacb9d3fe727bd06ad5ee107717d7e5f0d9fc5aa4b24bd37b709feca889ec7", func := "damper/damperlaw2.SpecHundred", spec := "specHundred", unfollowed := true, recurses := true, apart := false, narrowed := true }
def SpecHundredUptoSaid : Prop := specHundredUptoRow.holds Try.pinned (OpenSpec.upto specHundredSpec)

/-- 'damperlaw2.SpecKnown', WHERE WHAT IT READS IS OF BULK AT MOST 1048576: true; the input reads as it did. -/
def specKnownUptoRow : OpenClaim := { program := "ytpmhmegjckhbmaa", sum := "97cacb9d3fe727bd06ad5ee107717d7e5f0d9fc5aa4b24bd37b709feca889ec7", func := "damper/damperlaw2.SpecKnown", spec := "specKnown", unfollowed := true, recurses := true, apart := false, narrowed := true }
def SpecKnownUptoSaid : Prop := specKnownUptoRow.holds Try.pinned (OpenSpec.upto specKnownSpec)

/-- 'damperlaw2.SpecTargets', WHERE WHAT IT READS IS OF BULK AT MOST 1048576: true; the input reads as it did. -/
def specTargetsUptoRow : OpenClaim := { program := "ytpmhmegjckhbmaa", sum := "97cacb9d3fe727bd06ad5ee107717d7e5f0d9fc5aa4b24bd37b709feca889ec7", func := "damper/damperlaw2.SpecTargets", spec := "specTargets", unfollowed := true, recurses := true, apart := false, narrowed := true }
def SpecTargetsUptoSaid : Prop := specTargetsUptoRow.holds Try.pinned (OpenSpec.upto specTargetsSpec)

/-- 'damperlaw2.SpecEven', WHERE WHAT IT READS IS OF BULK AT MOST 1048576: true; the input reads as it did. -/
def specEvenUptoRow : OpenClaim := { program := "ytpmhmegjckhbmaa", sum := "97cacb9d3fe727bd06ad5ee107717d7e5f0d9fc5aa4b24bd37b709feca889ec7", func := "damper/damperlaw2.SpecEven", spec := "specEven", unfollowed := true, recurses := true, apart := false, narrowed := true }
def SpecEvenUptoSaid : Prop := specEvenUptoRow.holds Try.pinned (OpenSpec.upto specEvenSpec)

/-- 'damperlaw2.SpecEdges', WHERE WHAT IT READS IS OF BULK AT MOST 1048576: true; the input reads as it did. -/
def specEdgesUptoRow : OpenClaim := { program := "ytpmhmegjckhbmaa", sum := "97cacb9d3fe727bd06ad5ee107717d7e5f0d9fc5aa4b24bd37b709feca889ec7", func := "damper/damperlaw2.SpecEdges", spec := "specEdges", unfollowed := true, recurses := true, apart := false, narrowed := true }
def SpecEdgesUptoSaid : Prop := specEdgesUptoRow.holds Try.pinned (OpenSpec.upto specEdgesSpec)

end Rows
end Go.Proofs.Ytpmhmegjckhbmaa

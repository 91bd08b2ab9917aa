/-
  No cell of these rows narrows 'for every input' (looked for: loops, veiled, ifaces, maps, wideKeys, modest, calm, conditions, laid).
  DERIVED. THE GIVEN ROWS OF THIS SEAT. 8 by the template 'for every input the law returns true; each argument reads behind the call as it read before'; 0 by the template 'total and deterministic' (their statements: YtnkekdmikopdgaaGreatTotals.lean).
  GIVEN WITH THE SEED: the statements are not yours to turn. If you find one false, say at which input.
  Laid BY PROGRAM, IN A SANDBOX (cutbox-rows.mjs): the forced cells as the released guide's own fill.sh prints them over the translation cdaecc9da2a62d3c… (all of the seat's roots in one cut). By AI agents, Wed Nov 11 2026. No macro, syntax, notation, axiom, sorry.
-/
import Derived.Test.YtnkekdmikopdgaaGreatChecked
import GoSem.Claim
import GoSem.ClaimJoined
import GoSem.ClaimMapViews
import Derived.JoinedTies
import Derived.KernelRfl
namespace Go.Proofs.YtnkekdmikopdgaaGreat
/- THE CELL 'sum', in the pinned program and in every row, IS THE sha256 OF THE DUMP (.gsa) THAT YtnkekdmikopdgaaGreatProg.lean LOADS. Nothing in Lean hashes anything: it is a label: what it is worth is what the hold of that sum in a sandbox is worth. -/
noncomputable def Tryz.pinned : Pinned := { name := "ytnkekdmikopdgaagreat", sum := "cdaecc9da2a62d3cd2b6ee7f6c83bfd93795c973169561c2af004543af695bc1", checked := Tryz.checked }
namespace Rows
def none {H : Type} : Left H := { results := [], args := [] }

/-- 'damperlaw3.EventChecks': WHATEVER THE INPUT: true; the input reads as it did. -/
def eventChecksSpec : ChangeSpec := { name := "eventChecks", fn := fun _ => fun
  | [d1, d2, d3, d4, d5, d6, d7, d8, d9] => { results := [.lit (.bool true)], args := [d1, d2, d3, d4, d5, d6, d7, d8, d9] }
  | _ => none }
def eventChecksRow : OpenClaim := { program := "ytnkekdmikopdgaagreat", sum := "cdaecc9da2a62d3cd2b6ee7f6c83bfd93795c973169561c2af004543af695bc1", func := "damper/damperlaw3.EventChecks", spec := "eventChecks", unfollowed := true, recurses := true, apart := false }
def EventChecksSaid : Prop := eventChecksRow.holds Tryz.pinned (OpenSpec.ofChange eventChecksSpec)

/-- ITS FALSE NEIGHBOUR: 'it returns false'. Refute it at one input. -/
def eventChecksWrong : ChangeSpec := { name := "eventChecks", fn := fun _ => fun
  | [d1, d2, d3, d4, d5, d6, d7, d8, d9] => { results := [.lit (.bool false)], args := [d1, d2, d3, d4, d5, d6, d7, d8, d9] }
  | _ => none }
def EventChecksWrongFalsely : Prop := eventChecksRow.holds Tryz.pinned (OpenSpec.ofChange eventChecksWrong)

/-- 'damperlaw3.EventBack': WHATEVER THE INPUT: true; the input reads as it did. -/
def eventBackSpec : ChangeSpec := { name := "eventBack", fn := fun _ => fun
  | [d1, d2, d3, d4, d5, d6] => { results := [.lit (.bool true)], args := [d1, d2, d3, d4, d5, d6] }
  | _ => none }
def eventBackRow : OpenClaim := { program := "ytnkekdmikopdgaagreat", sum := "cdaecc9da2a62d3cd2b6ee7f6c83bfd93795c973169561c2af004543af695bc1", func := "damper/damperlaw3.EventBack", spec := "eventBack", unfollowed := true, recurses := true, apart := false }
def EventBackSaid : Prop := eventBackRow.holds Tryz.pinned (OpenSpec.ofChange eventBackSpec)

/-- ITS FALSE NEIGHBOUR: 'it returns false'. Refute it at one input. -/
def eventBackWrong : ChangeSpec := { name := "eventBack", fn := fun _ => fun
  | [d1, d2, d3, d4, d5, d6] => { results := [.lit (.bool false)], args := [d1, d2, d3, d4, d5, d6] }
  | _ => none }
def EventBackWrongFalsely : Prop := eventBackRow.holds Tryz.pinned (OpenSpec.ofChange eventBackWrong)

/-- 'damperlaw3.EventReads': WHATEVER THE INPUT: true; the input reads as it did. -/
def eventReadsSpec : ChangeSpec := { name := "eventReads", fn := fun _ => fun
  | [d1, d2, d3, d4, d5, d6, d7, d8, d9, d10] => { results := [.lit (.bool true)], args := [d1, d2, d3, d4, d5, d6, d7, d8, d9, d10] }
  | _ => none }
def eventReadsRow : OpenClaim := { program := "ytnkekdmikopdgaagreat", sum := "cdaecc9da2a62d3cd2b6ee7f6c83bfd93795c973169561c2af004543af695bc1", func := "damper/damperlaw3.EventReads", spec := "eventReads", unfollowed := true, recurses := true, apart := false }
def EventReadsSaid : Prop := eventReadsRow.holds Tryz.pinned (OpenSpec.ofChange eventReadsSpec)

/-- ITS FALSE NEIGHBOUR: 'it returns false'. Refute it at one input. -/
def eventReadsWrong : ChangeSpec := { name := "eventReads", fn := fun _ => fun
  | [d1, d2, d3, d4, d5, d6, d7, d8, d9, d10] => { results := [.lit (.bool false)], args := [d1, d2, d3, d4, d5, d6, d7, d8, d9, d10] }
  | _ => none }
def EventReadsWrongFalsely : Prop := eventReadsRow.holds Tryz.pinned (OpenSpec.ofChange eventReadsWrong)

/-- 'damperlaw3.EventOnly': WHATEVER THE INPUT: true; the input reads as it did. -/
def eventOnlySpec : ChangeSpec := { name := "eventOnly", fn := fun _ => fun
  | [d1, d2, d3, d4, d5, d6, d7, d8] => { results := [.lit (.bool true)], args := [d1, d2, d3, d4, d5, d6, d7, d8] }
  | _ => none }
def eventOnlyRow : OpenClaim := { program := "ytnkekdmikopdgaagreat", sum := "cdaecc9da2a62d3cd2b6ee7f6c83bfd93795c973169561c2af004543af695bc1", func := "damper/damperlaw3.EventOnly", spec := "eventOnly", unfollowed := true, recurses := true, apart := false }
def EventOnlySaid : Prop := eventOnlyRow.holds Tryz.pinned (OpenSpec.ofChange eventOnlySpec)

/-- ITS FALSE NEIGHBOUR: 'it returns false'. Refute it at one input. -/
def eventOnlyWrong : ChangeSpec := { name := "eventOnly", fn := fun _ => fun
  | [d1, d2, d3, d4, d5, d6, d7, d8] => { results := [.lit (.bool false)], args := [d1, d2, d3, d4, d5, d6, d7, d8] }
  | _ => none }
def EventOnlyWrongFalsely : Prop := eventOnlyRow.holds Tryz.pinned (OpenSpec.ofChange eventOnlyWrong)

/-- 'damperlaw3.EventCuts': WHATEVER THE INPUT: true; the input reads as it did. -/
def eventCutsSpec : ChangeSpec := { name := "eventCuts", fn := fun _ => fun
  | [d1, d2, d3] => { results := [.lit (.bool true)], args := [d1, d2, d3] }
  | _ => none }
def eventCutsRow : OpenClaim := { program := "ytnkekdmikopdgaagreat", sum := "cdaecc9da2a62d3cd2b6ee7f6c83bfd93795c973169561c2af004543af695bc1", func := "damper/damperlaw3.EventCuts", spec := "eventCuts", unfollowed := true, recurses := true, apart := false }
def EventCutsSaid : Prop := eventCutsRow.holds Tryz.pinned (OpenSpec.ofChange eventCutsSpec)

/-- ITS FALSE NEIGHBOUR: 'it returns false'. Refute it at one input. -/
def eventCutsWrong : ChangeSpec := { name := "eventCuts", fn := fun _ => fun
  | [d1, d2, d3] => { results := [.lit (.bool false)], args := [d1, d2, d3] }
  | _ => none }
def EventCutsWrongFalsely : Prop := eventCutsRow.holds Tryz.pinned (OpenSpec.ofChange eventCutsWrong)

/-- 'damperlaw3.EventKnown': WHATEVER THE INPUT: true; the input reads as it did. -/
def eventKnownSpec : ChangeSpec := { name := "eventKnown", fn := fun _ => fun
  | [d] => { results := [.lit (.bool true)], args := [d] }
  | _ => none }
def eventKnownRow : OpenClaim := { program := "ytnkekdmikopdgaagreat", sum := "cdaecc9da2a62d3cd2b6ee7f6c83bfd93795c973169561c2af004543af695bc1", func := "damper/damperlaw3.EventKnown", spec := "eventKnown", unfollowed := true, recurses := true, apart := false }
def EventKnownSaid : Prop := eventKnownRow.holds Tryz.pinned (OpenSpec.ofChange eventKnownSpec)

/-- ITS FALSE NEIGHBOUR: 'it returns false'. Refute it at one input. -/
def eventKnownWrong : ChangeSpec := { name := "eventKnown", fn := fun _ => fun
  | [d] => { results := [.lit (.bool false)], args := [d] }
  | _ => none }
def EventKnownWrongFalsely : Prop := eventKnownRow.holds Tryz.pinned (OpenSpec.ofChange eventKnownWrong)

/-- 'damperlaw3.EventFronts': WHATEVER THE INPUT: true; the input reads as it did. -/
def eventFrontsSpec : ChangeSpec := { name := "eventFronts", fn := fun _ => fun
  | [d1, d2, d3, d4, d5, d6, d7, d8] => { results := [.lit (.bool true)], args := [d1, d2, d3, d4, d5, d6, d7, d8] }
  | _ => none }
def eventFrontsRow : OpenClaim := { program := "ytnkekdmikopdgaagreat", sum := "cdaecc9da2a62d3cd2b6ee7f6c83bfd93795c973169561c2af004543af695bc1", func := "damper/damperlaw3.EventFronts", spec := "eventFronts", unfollowed := true, recurses := true, apart := false }
def EventFrontsSaid : Prop := eventFrontsRow.holds Tryz.pinned (OpenSpec.ofChange eventFrontsSpec)

/-- ITS FALSE NEIGHBOUR: 'it returns false'. Refute it at one input. -/
def eventFrontsWrong : ChangeSpec := { name := "eventFronts", fn := fun _ => fun
  | [d1, d2, d3, d4, d5, d6, d7, d8] => { results := [.lit (.bool false)], args := [d1, d2, d3, d4, d5, d6, d7, d8] }
  | _ => none }
def EventFrontsWrongFalsely : Prop := eventFrontsRow.holds Tryz.pinned (OpenSpec.ofChange eventFrontsWrong)

/-- 'damperlaw3.EventZeros': WHATEVER THE INPUT: true; the input reads as it did. -/
def eventZerosSpec : ChangeSpec := { name := "eventZeros", fn := fun _ => fun
  | [d1, d2, d3, d4, d5, d6, d7] => { results := [.lit (.bool true)], args := [d1, d2, d3, d4, d5, d6, d7] }
  | _ => none }
def eventZerosRow : OpenClaim := { program := "ytnkekdmikopdgaagreat", sum := "cdaecc9da2a62d3cd2b6ee7f6c83bfd93795c973169561c2af004543af695bc1", func := "damper/damperlaw3.EventZeros", spec := "eventZeros", unfollowed := true, recurses := true, apart := false }
def EventZerosSaid : Prop := eventZerosRow.holds Tryz.pinned (OpenSpec.ofChange eventZerosSpec)

/-- ITS FALSE NEIGHBOUR: 'it returns false'. Refute it at one input. -/
def eventZerosWrong : ChangeSpec := { name := "eventZeros", fn := fun _ => fun
  | [d1, d2, d3, d4, d5, d6, d7] => { results := [.lit (.bool false)], args := [d1, d2, d3, d4, d5, d6, d7] }
  | _ => none }
def EventZerosWrongFalsely : Prop := eventZerosRow.holds Tryz.pinned (OpenSpec.ofChange eventZerosWrong)

/- THE SECOND FORM. 'bulk': how many values and letters a reading holds, each counted each time it is reached (what is shared counts as often as it is met; a slice's spare places count too). A statement '..UptoSaid' is the law's where the arguments, and the package variables that the reading takes, are together of bulk at most 1048576: NARROWER than '..Said'. Prove '..Said' where nothing that the law and all that it calls make is longer than what came in: it says more and counts as full. Else prove '..UptoSaid'. A law counts once. -/
mutual
def uptoBulk {H : Type} : DataW H → Nat
  | .lit (.string bytes) => bytes.length + 1
  | .lit _ => 1
  | .nil => 1
  | .ptr d => uptoBulk d + 1
  | .slice elems spare => uptoBulkAll elems + uptoBulkAll spare + 1
  | .agg parts => uptoBulkAll parts + 1
  | .iface _ d => uptoBulk d + 1
  | .map entries => uptoBulkEntries entries + 1
  | .held _ => 1
def uptoBulkAll {H : Type} : List (DataW H) → Nat
  | [] => 0
  | d :: r => uptoBulk d + uptoBulkAll r
def uptoBulkEntries {H : Type} : List (Lit × DataW H) → Nat
  | [] => 0
  | x :: r => uptoBulkEntry x + uptoBulkEntries r
def uptoBulkEntry {H : Type} : Lit × DataW H → Nat
  | (.string bytes, d) => bytes.length + uptoBulk d + 1
  | (_, d) => uptoBulk d + 1
 end
def uptoSmall : (H : Type) → List (DataW H) → Bool := fun _ ds => decide (uptoBulkAll ds ≤ 1048576)
def OpenSpec.upto (s : _root_.Go.ChangeSpec) : _root_.Go.OpenSpec := { _root_.Go.OpenSpec.ofChange s with cond := some uptoSmall }

/-- 'damperlaw3.EventChecks', WHERE WHAT IT READS IS OF BULK AT MOST 1048576: true; the input reads as it did. -/
def eventChecksUptoRow : OpenClaim := { program := "ytnkekdmikopdgaagreat", sum := "cdaecc9da2a62d3cd2b6ee7f6c83bfd93795c973169561c2af004543af695bc1", func := "damper/damperlaw3.EventChecks", spec := "eventChecks", unfollowed := true, recurses := true, apart := false, narrowed := true }
def EventChecksUptoSaid : Prop := eventChecksUptoRow.holds Tryz.pinned (OpenSpec.upto eventChecksSpec)

/-- 'damperlaw3.EventBack', WHERE WHAT IT READS IS OF BULK AT MOST 1048576: true; the input reads as it did. -/
def eventBackUptoRow : OpenClaim := { program := "ytnkekdmikopdgaagreat", sum := "cdaecc9da2a62d3cd2b6ee7f6c83bfd93795c973169561c2af004543af695bc1", func := "damper/damperlaw3.EventBack", spec := "eventBack", unfollowed := true, recurses := true, apart := false, narrowed := true }
def EventBackUptoSaid : Prop := eventBackUptoRow.holds Tryz.pinned (OpenSpec.upto eventBackSpec)

/-- 'damperlaw3.EventReads', WHERE WHAT IT READS IS OF BULK AT MOST 1048576: true; the input reads as it did. -/
def eventReadsUptoRow : OpenClaim := { program := "ytnkekdmikopdgaagreat", sum := "cdaecc9da2a62d3cd2b6ee7f6c83bfd93795c973169561c2af004543af695bc1", func := "damper/damperlaw3.EventReads", spec := "eventReads", unfollowed := true, recurses := true, apart := false, narrowed := true }
def EventReadsUptoSaid : Prop := eventReadsUptoRow.holds Tryz.pinned (OpenSpec.upto eventReadsSpec)

/-- 'damperlaw3.EventOnly', WHERE WHAT IT READS IS OF BULK AT MOST 1048576: true; the input reads as it did. -/
def eventOnlyUptoRow : OpenClaim := { program := "ytnkekdmikopdgaagreat", sum := "cdaecc9da2a62d3cd2b6ee7f6c83bfd93795c973169561c2af004543af695bc1", func := "damper/damperlaw3.EventOnly", spec := "eventOnly", unfollowed := true, recurses := true, apart := false, narrowed := true }
def EventOnlyUptoSaid : Prop := eventOnlyUptoRow.holds Tryz.pinned (OpenSpec.upto eventOnlySpec)

/-- 'damperlaw3.EventCuts', WHERE WHAT IT READS IS OF BULK AT MOST 1048576: true; the input reads as it did. -/
def eventCutsUptoRow : OpenClaim := { program := "ytnkekdmikopdgaagreat", sum := "cdaecc9da2a62d3cd2b6ee7f6c83bfd93795c973169561c2af004543af695bc1", func := "damper/damperlaw3.EventCuts", spec := "eventCuts", unfollowed := true, recurses := true, apart := false, narrowed := true }
def EventCutsUptoSaid : Prop := eventCutsUptoRow.holds Tryz.pinned (OpenSpec.upto eventCutsSpec)

/-- 'damperlaw3.EventKnown', WHERE WHAT IT READS IS OF BULK AT MOST 1048576: true; the input reads as it did. -/
def eventKnownUptoRow : OpenClaim := { program := "ytnkekdmikopdgaagreat", sum := "cdaecc9da2a62d3cd2b6ee7f6c83bfd93795c973169561c2af004543af695bc1", func := "damper/damperlaw3.EventKnown", spec := "eventKnown", unfollowed := true, recurses := true, apart := false, narrowed := true }
def EventKnownUptoSaid : Prop := eventKnownUptoRow.holds Tryz.pinned (OpenSpec.upto eventKnownSpec)

/-- 'damperlaw3.EventFronts', WHERE WHAT IT READS IS OF BULK AT MOST 1048576: true; the input reads as it did. -/
def eventFrontsUptoRow : OpenClaim := { program := "ytnkekdmikopdgaagreat", sum := "cdaecc9da2a62d3cd2b6ee7f6c83bfd93795c973169561c2af004543af695bc1", func := "damper/damperlaw3.EventFronts", spec := "eventFronts", unfollowed := true, recurses := true, apart := false, narrowed := true }
def EventFrontsUptoSaid : Prop := eventFrontsUptoRow.holds Tryz.pinned (OpenSpec.upto eventFrontsSpec)

/-- 'damperlaw3.EventZeros', WHERE WHAT IT READS IS OF BULK AT MOST 1048576: true; the input reads as it did. -/
def eventZerosUptoRow : OpenClaim := { program := "ytnkekdmikopdgaagreat", sum := "cdaecc9da2a62d3cd2b6ee7f6c83bfd93795c973169561c2af004543af695bc1", func := "damper/damperlaw3.EventZeros", spec := "eventZeros", unfollowed := true, recurses := true, apart := false, narrowed := true }
def EventZerosUptoSaid : Prop := eventZerosUptoRow.holds Tryz.pinned (OpenSpec.upto eventZerosSpec)

end Rows
end Go.Proofs.YtnkekdmikopdgaaGreat

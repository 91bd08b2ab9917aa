/- My own texts Tab16, laid in one file. -/
import Derived.Test.YtbfoponlofkocaaZ44
import Derived.Test.YtbfoponlofkocaaZ38

/- Tables that a law makes: damperlaw5.Make. -/
namespace Go.Proofs.Ytbfoponlofkocaa
set_option maxRecDepth 100000
set_option linter.unusedVariables false
set_option linter.unusedSimpArgs false
set_option linter.unnecessarySimpa false
open Go.RowKit Go.Args

def dgB (k : Nat) : ByteArray := strOfNums [48 + (k : Int)]
def tagK (k : Nat) : ByteArray := ⟨#[116]⟩ ++ dgB k
def mkTg (ms : List Int) : Nat → List Tgo
  | 0 => []
  | n + 1 => if 3 - n < ms.length then (if withinI (ms.getD (3 - n) 0) 2 = 0 then [⟨tagK (3 - n), revK (withinI ((ms.getD (3 - n) 0).tdiv 2) 6).toNat⟩] else []) ++ mkTg ms n else []
def mkT (ms : List Int) : List Tgo := mkTg ms 4
/-- What a made table is in memory. -/
structure MadeT (w0 w : World) (a : Option Addr) (c : Nat) (a' : Option Addr) (c' : Nat) (zs ms : List Int) : Prop where
  sh : w.ownsRow w0.heap.size 39 2 (.slice a (mkS zs).length c) (mkS zs).length ((mkS zs).flatMap Shr.cells)
  tg : w.ownsRow w0.heap.size 59 2 (.slice a' (mkT ms).length c') (mkT ms).length ((mkT ms).flatMap Tgo.cells)
end Go.Proofs.Ytbfoponlofkocaa

/- My own texts EvP, EvD, EvT, EvQ, EvL, Four, EvBox, laid in one file. -/
import Derived.Test.YtjcdmnogmpjkkaaDoorZ3
import Derived.Shelf.Bytes.SlSearch0
import Derived.Test.YtjcdmnogmpjkkaaDoorZ2
import Derived.Lib.AppendStr
import Derived.Lib.FrozenHead2

/- Events as bytes: plain facts, of no program: printers, parsers, what they are to each other. -/
namespace Go.Proofs.YtjcdmnogmpjkkaaDoor
set_option maxRecDepth 100000
set_option linter.unusedVariables false
set_option linter.unusedSimpArgs false
set_option linter.unnecessarySimpa false
open Go.RowKit

/-- Bytes, as integers. -/
def Bts (l : List Int) : Prop := ∀ x ∈ l, 0 ≤ x ∧ x < 256
theorem Bts.nil : Bts [] := fun x h => by cases h
theorem Bts.take {l : List Int} (h : Bts l) (n : Nat) : Bts (l.take n) := fun x hx => h x (List.mem_of_mem_take hx)
theorem Bts.drop {l : List Int} (h : Bts l) (n : Nat) : Bts (l.drop n) := fun x hx => h x (List.mem_of_mem_drop hx)
abbrev Pr (α : Type) := List Int → Option (α × List Int)
def tk (n : Nat) : Pr (List Int) := fun l => if n ≤ l.length then some (l.take n, l.drop n) else none
def valB (l : List Int) : Int := l.foldl (fun a x => a * 256 + x) 0
def numP (k : Nat) : Pr Int := fun l => (tk k l).map fun x => (valB x.1, x.2)
def oneB (n : Int) : List Int := [n % 256]
def fourB (n : Int) : List Int := [n / 16777216 % 256, n / 65536 % 256, n / 256 % 256, n % 256]
def seqP {α β : Type} (p : Pr α) (q : Pr β) : Pr (α × β) := fun l => (p l).bind fun x => (q x.2).map fun y => ((x.1, y.1), y.2)
def mapP {α β : Type} (f : α → β) (p : Pr α) : Pr β := fun l => (p l).map fun x => (f x.1, x.2)
/-- A text: its length, its bytes. -/
def txtP : Pr ByteArray := fun l => (numP 1 l).bind fun x => (tk x.1.toNat x.2).map fun y => (strOfNums y.1, y.2)
def txtB (s : ByteArray) : List Int := oneB s.size ++ Lib.numsOf s

structure EvD where
  k : Int
  nm : ByteArray
  tg : ByteArray
  n : Int
  dr : Int
  c : Cfg
  rn : ByteArray
  rc : ByteArray
  ts : List Tgt
  rr : Int
deriving DecidableEq
def ε : ByteArray := ⟨#[]⟩
def cfg0 : Cfg := ⟨ε, 0, 0, 0, 0, 0⟩
def ev0 : EvD := ⟨0, ε, ε, 0, 0, cfg0, ε, ε, [], 0⟩
/-- What an event's kind has, alone. -/
def EvD.kept (e : EvD) : EvD :=
  if e.k = 1 then { ev0 with k := e.k, n := e.n, c := e.c }
  else if e.k = 2 then { ev0 with k := e.k, n := e.n, rn := e.rn, rc := e.rc, ts := e.ts, rr := e.rr }
  else if e.k = 3 then { ev0 with k := e.k, n := e.n, nm := e.nm, dr := e.dr }
  else if e.k = 4 then { ev0 with k := e.k, n := e.n, nm := e.nm, tg := e.tg, dr := e.dr }
  else if 5 ≤ e.k ∧ e.k ≤ 8 then { ev0 with k := e.k, n := e.n }
  else if 10 ≤ e.k ∧ e.k ≤ 13 then { ev0 with k := e.k, nm := e.nm }
  else { ev0 with k := e.k }
def numE (n least : Int) : Int := if n < least ∨ 2147483647 < n then 2 else 0
def nmdE (b : Bool) : Int := if b then 0 else 1
def EvD.chk (e : EvD) : Int :=
  if e.k < 1 ∨ 13 < e.k then 12
  else if e ≠ e.kept then 2
  else if e.k = 1 then fst0 [numE e.n 0, e.c.err]
  else if e.k = 2 then fst0 [numE e.n 0, routeE e.rn e.rc e.ts e.rr]
  else if e.k = 3 then (if 2 < e.n then 2 else fst0 [numE e.n 1, nmdE (nameB 16 e.nm), numE e.dr 0])
  else if e.k = 4 then fst0 [numE e.n 1, nmdE (nameB 16 e.nm), nmdE (strE e.tg || nameB 8 e.tg), numE e.dr 0]
  else if e.k ≤ 8 then numE e.n 1
  else if e.k = 9 then 0
  else if e.k ≤ 11 then nmdE (nameB 16 e.nm)
  else nmdE (revB e.nm)

/-- Nothing. -/
def nilP : Pr Unit := fun l => some ((), l)
def tgtP : Pr Tgt := mapP (fun x => ⟨x.1, x.2.1, x.2.2⟩) (seqP txtP (seqP txtP (numP 1)))
def tgtB' (t : Tgt) : List Int := txtB t.rv ++ (txtB t.tg ++ oneB t.pc)
def tgtN : Nat → Pr (List Tgt)
  | 0 => mapP (fun _ => []) nilP
  | n + 1 => mapP (fun x => x.1 :: x.2) (seqP tgtP (tgtN n))
def tgtsB (ts : List Tgt) : List Int := ts.flatMap tgtB'
/-- Targets: how many, each. -/
def tgtsP : Pr (List Tgt) := fun l => (numP 1 l).bind fun x => tgtN x.1.toNat x.2
def bodyB (k : Int) (e : EvD) : List Int :=
  if k = 1 then fourB e.n ++ (txtB e.c.nm ++ (oneB e.c.im ++ (oneB e.c.co ++ (oneB e.c.mn ++ (oneB e.c.mx ++ oneB e.c.gr)))))
  else if k = 2 then fourB e.n ++ (txtB e.rn ++ (txtB e.rc ++ (oneB e.rr ++ (oneB e.ts.length ++ tgtsB e.ts))))
  else if k = 3 then fourB e.n ++ (txtB e.nm ++ fourB e.dr)
  else if k = 4 then fourB e.n ++ (txtB e.nm ++ (txtB e.tg ++ fourB e.dr))
  else if 5 ≤ k ∧ k ≤ 8 then fourB e.n
  else if 10 ≤ k ∧ k ≤ 13 then txtB e.nm
  else []
def n1 (n : Int) : Prop := 0 ≤ n ∧ n < 256

def EvD.bytes (e : EvD) : List Int := oneB e.k ++ bodyB e.k e
theorem cfgerr_zero {c : Cfg} (h : c.err = 0) : nameB 16 c.nm = true ∧ (0 ≤ c.im ∧ c.im ≤ 255) ∧ (1 ≤ c.co ∧ c.co ≤ 8) ∧ (1 ≤ c.mx ∧ c.mx ≤ 10) ∧ (0 ≤ c.mn ∧ c.mn ≤ c.mx) ∧ (0 ≤ c.gr ∧ c.gr ≤ 30) := by
  unfold Cfg.err Cfg.num at h
  split at h
  · split at h
    · rename_i h1 h2
      simp only [Bool.and_eq_true, inB_iff] at h2
      exact ⟨h1, h2.1.1.1.1, h2.1.1.1.2, h2.1.1.2, h2.1.2, h2.2⟩
    · cases h
  · cases h

/-- A part: a number, a draw, a name (of a configuration, of a revision), a tag, a configuration, a route. -/
inductive PT where
  | n (lo hi : Int)
  | d (lo hi : Int)
  | nm (rev : Bool)
  | tg
  | c
  | r
deriving DecidableEq
def PT.specs (k : Int) : List PT :=
  if k = 1 then [.n 0 2147483647, .c]
  else if k = 2 then [.n 0 2147483647, .r]
  else if k = 3 then [.n 1 2, .nm false, .d 0 2147483647]
  else if k = 4 then [.n 1 2147483647, .nm false, .tg, .d 0 2147483647]
  else if 5 ≤ k ∧ k ≤ 8 then [.n 1 2147483647]
  else if 10 ≤ k ∧ k ≤ 11 then [.nm false]
  else if 12 ≤ k ∧ k ≤ 13 then [.nm true]
  else []
def PT.clr (e : EvD) : PT → EvD
  | .n _ _ => { e with n := 0 }
  | .d _ _ => { e with dr := 0 }
  | .nm _ => { e with nm := ε }
  | .tg => { e with tg := ε }
  | .c => { e with c := cfg0 }
  | .r => { e with rn := ε, rc := ε, ts := [], rr := 0 }
def inE (n lo hi : Int) : Int := if lo ≤ n ∧ n ≤ hi then 0 else 2
def PT.err (e : EvD) : PT → Int
  | .n lo hi => inE e.n lo hi
  | .d lo hi => inE e.dr lo hi
  | .nm false => nmdE (nameB 16 e.nm)
  | .nm true => nmdE (revB e.nm)
  | .tg => nmdE (strE e.tg || nameB 8 e.tg)
  | .c => e.c.err
  | .r => routeE e.rn e.rc e.ts e.rr
def EvD.rest (e : EvD) : EvD := (PT.specs e.k).foldl PT.clr e
/-- How a part is read into an event. -/
def cfgP : Pr Cfg := mapP (fun x => ⟨x.1, x.2.1, x.2.2.1, x.2.2.2.1, x.2.2.2.2.1, x.2.2.2.2.2⟩) (seqP txtP (seqP (numP 1) (seqP (numP 1) (seqP (numP 1) (seqP (numP 1) (numP 1))))))
def rtP : Pr (ByteArray × ByteArray × Int × List Tgt) := seqP txtP (seqP txtP (seqP (numP 1) tgtsP))
def PT.pr (e : EvD) : PT → Pr EvD
  | .n _ _ => mapP (fun x => { e with n := x }) (numP 4)
  | .d _ _ => mapP (fun x => { e with dr := x }) (numP 4)
  | .nm _ => mapP (fun x => { e with nm := x }) txtP
  | .tg => mapP (fun x => { e with tg := x }) txtP
  | .c => mapP (fun x => { e with c := x }) cfgP
  | .r => mapP (fun x => { e with rn := x.1, rc := x.2.1, rr := x.2.2.1, ts := x.2.2.2 }) rtP



def EvD.cells (e : EvD) (a : Option Addr) (c : Nat) : Array Value := #[.int .i64 e.k, .string e.nm, .string e.tg, .int .i64 e.n, .int .i64 e.dr, .string e.c.nm, .int .i64 e.c.im, .int .i64 e.c.co, .int .i64 e.c.mn, .int .i64 e.c.mx, .int .i64 e.c.gr, .string e.rn, .string e.rc, .slice a e.ts.length c, .int .i64 e.rr]
/-- What is known of an event's box, whatever grows behind it. -/
structure EvBox (w : World) (g : Nat) (cs : Array Value) : Prop where
  cell : ∀ i, w.cell? ⟨g, i, none⟩ = cs[i]?
theorem EvBox.later {B : Nat} {w w' : World} {g : Nat} {cs : Array Value} (h : EvBox w g cs) (hx : ∃ x, cs[0]? = some x ∧ ∀ z, x ≠ .int .u8 z) (hb : Evo2.SK B w w') : EvBox w' g cs :=
  ⟨fun i => (World.cell?_of_block (w := w) (w' := w') (a := ⟨g, i, none⟩) (hb.2 g (by obtain ⟨x, h1, h2⟩ := hx; exact ⟨x, (h.cell 0).trans h1, h2⟩))).trans (h.cell i)⟩

end Go.Proofs.YtjcdmnogmpjkkaaDoor

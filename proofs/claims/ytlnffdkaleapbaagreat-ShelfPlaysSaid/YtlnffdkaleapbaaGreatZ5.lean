/- My own texts EvP, EvD, EvT, EvQ, EvL, Four, EvBox, laid in one file. -/
import Derived.Test.YtlnffdkaleapbaaGreatZ3
import Derived.Shelf.Bytes.SlSearch0
import Derived.Test.YtlnffdkaleapbaaGreatZ2
import Derived.Lib.AppendStr
import Derived.Lib.FrozenHead2

/- Events as bytes: plain facts, of no program: printers, parsers, what they are to each other. -/
namespace Go.Proofs.YtlnffdkaleapbaaGreat
set_option maxRecDepth 100000
set_option linter.unusedVariables false
set_option linter.unusedSimpArgs false
set_option linter.unnecessarySimpa false
open Go.RowKit

/-- Bytes, as integers. -/
def Bts (l : List Int) : Prop := ∀ x ∈ l, 0 ≤ x ∧ x < 256
theorem Bts.nil : Bts [] := fun x h => by cases h
theorem Bts.take {l : List Int} (h : Bts l) (n : Nat) : Bts (l.take n) := fun x hx => h x (List.mem_of_mem_take hx)
theorem Bts.drop {l : List Int} (h : Bts l) (n : Nat) : Bts (l.drop n) := fun x hx => h x (List.mem_of_mem_drop hx)
def oneB (n : Int) : List Int := [n % 256]
def fourB (n : Int) : List Int := [n / 16777216 % 256, n / 65536 % 256, n / 256 % 256, n % 256]
def txtB (s : ByteArray) : List Int := oneB s.size ++ Lib.numsOf s

structure EvD where
  k : Int
  nm : ByteArray
  tg : ByteArray
  n : Int
  dr : Int
  c : Cfg
  rn : ByteArray
  rc : ByteArray
  ts : List Tgt
  rr : Int
deriving DecidableEq
def ε : ByteArray := ⟨#[]⟩
def cfg0 : Cfg := ⟨ε, 0, 0, 0, 0, 0⟩
def ev0 : EvD := ⟨0, ε, ε, 0, 0, cfg0, ε, ε, [], 0⟩
/-- What an event's kind has, alone. -/
def EvD.kept (e : EvD) : EvD :=
  if e.k = 1 then { ev0 with k := e.k, n := e.n, c := e.c }
  else if e.k = 2 then { ev0 with k := e.k, n := e.n, rn := e.rn, rc := e.rc, ts := e.ts, rr := e.rr }
  else if e.k = 3 then { ev0 with k := e.k, n := e.n, nm := e.nm, dr := e.dr }
  else if e.k = 4 then { ev0 with k := e.k, n := e.n, nm := e.nm, tg := e.tg, dr := e.dr }
  else if 5 ≤ e.k ∧ e.k ≤ 8 then { ev0 with k := e.k, n := e.n }
  else if 10 ≤ e.k ∧ e.k ≤ 13 then { ev0 with k := e.k, nm := e.nm }
  else { ev0 with k := e.k }
def numE (n least : Int) : Int := if n < least ∨ 2147483647 < n then 2 else 0
def nmdE (b : Bool) : Int := if b then 0 else 1
def EvD.chk (e : EvD) : Int :=
  if e.k < 1 ∨ 13 < e.k then 12
  else if e ≠ e.kept then 2
  else if e.k = 1 then fst0 [numE e.n 0, e.c.err]
  else if e.k = 2 then fst0 [numE e.n 0, routeE e.rn e.rc e.ts e.rr]
  else if e.k = 3 then (if 2 < e.n then 2 else fst0 [numE e.n 1, nmdE (nameB 16 e.nm), numE e.dr 0])
  else if e.k = 4 then fst0 [numE e.n 1, nmdE (nameB 16 e.nm), nmdE (strE e.tg || nameB 8 e.tg), numE e.dr 0]
  else if e.k ≤ 8 then numE e.n 1
  else if e.k = 9 then 0
  else if e.k ≤ 11 then nmdE (nameB 16 e.nm)
  else nmdE (revB e.nm)

def tgtB' (t : Tgt) : List Int := txtB t.rv ++ (txtB t.tg ++ oneB t.pc)
def tgtsB (ts : List Tgt) : List Int := ts.flatMap tgtB'
def bodyB (k : Int) (e : EvD) : List Int :=
  if k = 1 then fourB e.n ++ (txtB e.c.nm ++ (oneB e.c.im ++ (oneB e.c.co ++ (oneB e.c.mn ++ (oneB e.c.mx ++ oneB e.c.gr)))))
  else if k = 2 then fourB e.n ++ (txtB e.rn ++ (txtB e.rc ++ (oneB e.rr ++ (oneB e.ts.length ++ tgtsB e.ts))))
  else if k = 3 then fourB e.n ++ (txtB e.nm ++ fourB e.dr)
  else if k = 4 then fourB e.n ++ (txtB e.nm ++ (txtB e.tg ++ fourB e.dr))
  else if 5 ≤ k ∧ k ≤ 8 then fourB e.n
  else if 10 ≤ k ∧ k ≤ 13 then txtB e.nm
  else []
def n4 (n : Int) : Prop := 0 ≤ n ∧ n ≤ 2147483647
def n1 (n : Int) : Prop := 0 ≤ n ∧ n < 256

def EvD.bytes (e : EvD) : List Int := oneB e.k ++ bodyB e.k e
theorem name_size {m : Nat} {s : ByteArray} (h : nameB m s = true) : s.size ≤ m := by
  unfold nameB at h
  exact (of_decide_eq_true h).2.1
theorem revB_size {s : ByteArray} (h : revB s = true) : s.size ≤ 23 := by
  unfold revB parse at h
  split at h
  · cases h
  · split at h
    · rename_i h1 h2
      simp only [Bool.and_eq_true, decide_eq_true_eq] at h2
      obtain ⟨⟨ha, hb⟩, hc⟩ := h2
      rcases Lib.lastIndexByte_spec s 45 with ⟨e1, _⟩ | ⟨i, hi, e1, _, _⟩
      · rw [e1] at h1; exact absurd (by decide) h1
      · rw [e1] at ha hb hc
        simp only [Int.toNat_natCast] at ha hb hc
        have h3 := name_size ha
        rw [ByteArray.size_extract] at h3
        have hn := (numLB_iff _).1 hb
        have hlen : (s.extract (i + 1) s.size).data.toList.length = s.size - (i + 1) := by
          have : (s.extract (i + 1) s.size).size = s.size - (i + 1) := by rw [ByteArray.size_extract]; omega
          rw [← this]; exact Array.length_toList
        generalize (s.extract (i + 1) s.size).data.toList = l at *
        have : l.length ≤ 6 := by
          match l, hn with
          | [], h => exact absurd rfl h.1
          | c :: l', h =>
            have hd := h.2.2 c (by simp)
            have hne : c ≠ 48 := fun e => h.2.1 (by simp [e])
            have h49 : 1 ≤ c.toNat - 48 := by
              have : c.toNat ≠ 48 := fun e => hne (UInt8.toNat_inj.1 (by rw [e]; rfl))
              have := hd.1
              omega
            rw [valL_cons] at hc
            rcases Nat.lt_or_ge l'.length 6 with h' | h'
            · simp; omega
            · have h10 : 10 ^ 6 ≤ 10 ^ l'.length := Nat.pow_le_pow_right (by decide) h'
              have : 1 * 10 ^ l'.length ≤ (c.toNat - 48) * 10 ^ l'.length := Nat.mul_le_mul_right _ h49
              omega
        omega
    · cases h
theorem strE_size {s : ByteArray} (h : strE s = true) : s.size = 0 := by
  unfold strE at h
  rw [ByteArray.toList_eq] at h
  have := List.isEmpty_iff.1 h
  have h2 : s.data.toList.length = 0 := by rw [this]; rfl
  simpa using h2

/-- A part: a number, a draw, a name (of a configuration, of a revision), a tag, a configuration, a route. -/
inductive PT where
  | n (lo hi : Int)
  | d (lo hi : Int)
  | nm (rev : Bool)
  | tg
  | c
  | r
deriving DecidableEq
def PT.specs (k : Int) : List PT :=
  if k = 1 then [.n 0 2147483647, .c]
  else if k = 2 then [.n 0 2147483647, .r]
  else if k = 3 then [.n 1 2, .nm false, .d 0 2147483647]
  else if k = 4 then [.n 1 2147483647, .nm false, .tg, .d 0 2147483647]
  else if 5 ≤ k ∧ k ≤ 8 then [.n 1 2147483647]
  else if 10 ≤ k ∧ k ≤ 11 then [.nm false]
  else if 12 ≤ k ∧ k ≤ 13 then [.nm true]
  else []
def PT.clr (e : EvD) : PT → EvD
  | .n _ _ => { e with n := 0 }
  | .d _ _ => { e with dr := 0 }
  | .nm _ => { e with nm := ε }
  | .tg => { e with tg := ε }
  | .c => { e with c := cfg0 }
  | .r => { e with rn := ε, rc := ε, ts := [], rr := 0 }
def inE (n lo hi : Int) : Int := if lo ≤ n ∧ n ≤ hi then 0 else 2
def PT.err (e : EvD) : PT → Int
  | .n lo hi => inE e.n lo hi
  | .d lo hi => inE e.dr lo hi
  | .nm false => nmdE (nameB 16 e.nm)
  | .nm true => nmdE (revB e.nm)
  | .tg => nmdE (strE e.tg || nameB 8 e.tg)
  | .c => e.c.err
  | .r => routeE e.rn e.rc e.ts e.rr
def EvD.rest (e : EvD) : EvD := (PT.specs e.k).foldl PT.clr e



def EvD.cells (e : EvD) (a : Option Addr) (c : Nat) : Array Value := #[.int .i64 e.k, .string e.nm, .string e.tg, .int .i64 e.n, .int .i64 e.dr, .string e.c.nm, .int .i64 e.c.im, .int .i64 e.c.co, .int .i64 e.c.mn, .int .i64 e.c.mx, .int .i64 e.c.gr, .string e.rn, .string e.rc, .slice a e.ts.length c, .int .i64 e.rr]
/-- What is known of an event's box, whatever grows behind it. -/
structure EvBox (w : World) (g : Nat) (cs : Array Value) : Prop where
  cell : ∀ i, w.cell? ⟨g, i, none⟩ = cs[i]?
theorem EvBox.later {B : Nat} {w w' : World} {g : Nat} {cs : Array Value} (h : EvBox w g cs) (hx : ∃ x, cs[0]? = some x ∧ ∀ z, x ≠ .int .u8 z) (hb : Evo2.SK B w w') : EvBox w' g cs :=
  ⟨fun i => (World.cell?_of_block (w := w) (w' := w') (a := ⟨g, i, none⟩) (hb.2 g (by obtain ⟨x, h1, h2⟩ := hx; exact ⟨x, (h.cell 0).trans h1, h2⟩))).trans (h.cell i)⟩

theorem news_blk {w : World} {b : Nat} {cs : List Value} {T : TypeId} {fr : Nat × Nat} (h : w.heap[b]? = some (.cells cs.toArray T fr)) : ∀ j u, cs[j]? = some u → w.cell? ((⟨b, 0, none⟩ : Addr).add j) = some u := by
  intro j u hj
  have e : (⟨b, 0, none⟩ : Addr).add j = ⟨b, j, none⟩ := by unfold Addr.add; split <;> simp_all
  rw [e]
  simp [World.cell?, h, hj]
end Go.Proofs.YtlnffdkaleapbaaGreat

/- My own texts EvP, EvD, EvT, Four, EvBox, ArgE, MakeD, EvQ, EvL, EvC, EvM, laid in one file. -/
import Derived.Test.YtnkekdmikopdgaaGreatZ3
import Derived.Shelf.Bytes.SlSearch0
import Derived.Test.YtnkekdmikopdgaaGreatZ2
import Derived.Lib.AppendStr
import Derived.Lib.FrozenHead2
import Derived.Test.YtnkekdmikopdgaaGreatZ4

/- Events as bytes: plain facts, of no program: printers, parsers, what they are to each other. -/
namespace Go.Proofs.YtnkekdmikopdgaaGreat
set_option maxRecDepth 100000
set_option linter.unusedVariables false
set_option linter.unusedSimpArgs false
set_option linter.unnecessarySimpa false
open Go.RowKit

/-- Bytes, as integers. -/
def Bts (l : List Int) : Prop := ∀ x ∈ l, 0 ≤ x ∧ x < 256
theorem Bts.nil : Bts [] := fun x h => by cases h
theorem Bts.app {l r : List Int} (h : Bts l) (k : Bts r) : Bts (l ++ r) := fun x hx => by
 rcases List.mem_append.1 hx with h' | h'
 ·
  exact h x h'
 ·
  exact k x h'
theorem Bts.take {l : List Int} (h : Bts l) (n : Nat) : Bts (l.take n) := fun x hx => h x (List.mem_of_mem_take hx)
theorem Bts.drop {l : List Int} (h : Bts l) (n : Nat) : Bts (l.drop n) := fun x hx => h x (List.mem_of_mem_drop hx)
abbrev Pr (α : Type) := List Int → Option (α × List Int)
structure Good {α : Type} (p : Pr α) (pr : α → List Int) (ok : α → Prop) : Prop where
 fwd : ∀ x r, ok x → p (pr x ++ r) = some (x, r)
 bwd : ∀ l x r, Bts l → p l = some (x, r) → l = pr x ++ r
 ext : ∀ l x r s, p l = some (x, r) → p (l ++ s) = some (x, r ++ s)
 byt : ∀ x, Bts (pr x)

def tk (n : Nat) : Pr (List Int) := fun l => if n ≤ l.length then some (l.take n, l.drop n) else none
theorem tk_some {n : Nat} {l b r : List Int} (h : tk n l = some (b, r)) : n ≤ l.length ∧ b = l.take n ∧ r = l.drop n := by
 unfold tk at h
 split at h
 ·
  simp at h; exact ⟨by assumption, h.1.symm, h.2.symm⟩
 ·
  cases h
theorem tk_ext {n : Nat} {l b r : List Int} (s : List Int) (h : tk n l = some (b, r)) : tk n (l ++ s) = some (b, r ++ s) := by
 obtain ⟨hn, rfl, rfl⟩ := tk_some h
 unfold tk
 rw [if_pos (by rw [List.length_append]; omega), List.take_append_of_le_length hn, List.drop_append_of_le_length hn]
theorem tk_fwd (b r : List Int) : tk b.length (b ++ r) = some (b, r) := by
 unfold tk
 rw [if_pos (by rw [List.length_append]; omega)]
 simp
def valB (l : List Int) : Int := l.foldl (fun a x => a * 256 + x) 0
def numP (k : Nat) : Pr Int := fun l => (tk k l).map fun x => (valB x.1, x.2)
def oneB (n : Int) : List Int := [n % 256]
def fourB (n : Int) : List Int := [n / 16777216 % 256, n / 65536 % 256, n / 256 % 256, n % 256]
theorem one_good : Good (numP 1) oneB (fun n => 0 ≤ n ∧ n < 256) where
 fwd x r h := by
  unfold numP oneB
  rw [show (1 : Nat) = [x % 256].length from rfl, tk_fwd]
  simp [valB]; omega
 bwd l x r hl h := by
  unfold numP at h
  cases ht : tk 1 l with
  | none => rw [ht] at h; cases h
  | some y =>
   obtain ⟨b, r'⟩ := y
   obtain ⟨hn, rfl, rfl⟩ := tk_some ht
   rw [ht] at h
   simp at h
   obtain ⟨rfl, rfl⟩ := h
   match l, hn with
   | a :: l', _ =>
    have := hl a (by simp)
    simp [oneB, valB]; omega
 ext l x r s h := by
  unfold numP at h ⊢
  cases ht : tk 1 l with
  | none => rw [ht] at h; cases h
  | some y =>
   obtain ⟨b, r'⟩ := y
   rw [tk_ext s ht]
   rw [ht] at h
   simp at h
   obtain ⟨rfl, rfl⟩ := h
   rfl
 byt x y h := by simp [oneB] at h; omega
theorem four_good : Good (numP 4) fourB (fun n => 0 ≤ n ∧ n ≤ 2147483647) where
 fwd x r h := by
  unfold numP fourB
  rw [show (4 : Nat) = [x / 16777216 % 256, x / 65536 % 256, x / 256 % 256, x % 256].length from rfl, tk_fwd]
  simp [valB]; omega
 bwd l x r hl h := by
  unfold numP at h
  cases ht : tk 4 l with
  | none => rw [ht] at h; cases h
  | some y =>
   obtain ⟨b, r'⟩ := y
   obtain ⟨hn, rfl, rfl⟩ := tk_some ht
   rw [ht] at h
   simp at h
   obtain ⟨rfl, rfl⟩ := h
   match l, hn with
   | a :: b :: c :: d :: l', _ =>
    have h1 := hl a (by simp); have h2 := hl b (by simp); have h3 := hl c (by simp); have h4 := hl d (by simp)
    simp [fourB, valB]
    omega
 ext l x r s h := by
  unfold numP at h ⊢
  cases ht : tk 4 l with
  | none => rw [ht] at h; cases h
  | some y =>
   obtain ⟨b, r'⟩ := y
   rw [tk_ext s ht]
   rw [ht] at h
   simp at h
   obtain ⟨rfl, rfl⟩ := h
   rfl
 byt x y h := by simp [fourB] at h; omega

def seqP {α β : Type} (p : Pr α) (q : Pr β) : Pr (α × β) := fun l => (p l).bind fun x => (q x.2).map fun y => ((x.1, y.1), y.2)
theorem seqP_some {α β : Type} {p : Pr α} {q : Pr β} {l : List Int} {x : α × β} {r : List Int} (h : seqP p q l = some (x, r)) : ∃ m, p l = some (x.1, m) ∧ q m = some (x.2, r) := by
 unfold seqP at h
 cases hp : p l with
 | none => rw [hp] at h; cases h
 | some y =>
  rw [hp] at h
  simp only [Option.bind_some] at h
  cases hq : q y.2 with
  | none => rw [hq] at h; cases h
  | some z =>
   rw [hq] at h
   simp at h
   obtain ⟨rfl, rfl⟩ := h
   exact ⟨y.2, rfl, hq⟩
theorem seqP_mk {α β : Type} {p : Pr α} {q : Pr β} {l m r : List Int} {x : α} {y : β} (h : p l = some (x, m)) (k : q m = some (y, r)) : seqP p q l = some ((x, y), r) := by
 unfold seqP; rw [h]; simp only [Option.bind_some, k]; rfl
theorem seq_good {α β : Type} {p : Pr α} {q : Pr β} {pr : α → List Int} {qr : β → List Int} {ok : α → Prop} {ok' : β → Prop} (hp : Good p pr ok) (hq : Good q qr ok') :
  Good (seqP p q) (fun x => pr x.1 ++ qr x.2) (fun x => ok x.1 ∧ ok' x.2) where
 fwd x r h := by
  rw [List.append_assoc]
  exact seqP_mk (hp.fwd x.1 _ h.1) (hq.fwd x.2 r h.2)
 bwd l x r hl h := by
  obtain ⟨m, h1, h2⟩ := seqP_some h
  have e1 := hp.bwd _ _ _ hl h1
  have hm : Bts m := fun y hy => hl y (by rw [e1]; exact List.mem_append.2 (.inr hy))
  rw [e1, hq.bwd _ _ _ hm h2, List.append_assoc]
 ext l x r s h := by
  obtain ⟨m, h1, h2⟩ := seqP_some h
  exact seqP_mk (hp.ext _ _ _ s h1) (hq.ext _ _ _ s h2)
 byt x := (hp.byt x.1).app (hq.byt x.2)
def mapP {α β : Type} (f : α → β) (p : Pr α) : Pr β := fun l => (p l).map fun x => (f x.1, x.2)
theorem mapP_some {α β : Type} {f : α → β} {p : Pr α} {l r : List Int} {y : β} (h : mapP f p l = some (y, r)) : ∃ x, f x = y ∧ p l = some (x, r) := by
 unfold mapP at h
 cases hp : p l with
 | none => rw [hp] at h; cases h
 | some z =>
  rw [hp] at h
  simp at h
  obtain ⟨rfl, rfl⟩ := h
  exact ⟨z.1, rfl, rfl⟩
theorem mapP_mk {α β : Type} {f : α → β} {p : Pr α} {l r : List Int} {x : α} (h : p l = some (x, r)) : mapP f p l = some (f x, r) := by
 unfold mapP; rw [h]; rfl
theorem map_good {α β : Type} {p : Pr α} {pr : α → List Int} {ok : α → Prop} (hp : Good p pr ok) (f : α → β) (g : β → α) (hg : ∀ x, g (f x) = x) : Good (mapP f p) (fun y => pr (g y)) (fun y => f (g y) = y ∧ ok (g y)) where
 fwd y r h := by
  have := mapP_mk (f := f) (hp.fwd (g y) r h.2)
  rwa [h.1] at this
 bwd l y r hl h := by
  obtain ⟨x, rfl, h1⟩ := mapP_some h
  rw [hg]; exact hp.bwd _ _ _ hl h1
 ext l y r s h := by
  obtain ⟨x, rfl, h1⟩ := mapP_some h
  exact mapP_mk (hp.ext _ _ _ s h1)
 byt y := hp.byt _

/-- A text: its length, its bytes. -/
def txtP : Pr ByteArray := fun l => (numP 1 l).bind fun x => (tk x.1.toNat x.2).map fun y => (strOfNums y.1, y.2)
def txtB (s : ByteArray) : List Int := oneB s.size ++ Lib.numsOf s
theorem numsOf_len (s : ByteArray) : (Lib.numsOf s).length = s.size := by unfold Lib.numsOf; rw [List.length_map]; exact Array.length_toList
theorem numsOf_bts (s : ByteArray) : Bts (Lib.numsOf s) := fun x hx => by
 simp only [Lib.numsOf, List.mem_map] at hx
 obtain ⟨b, _, rfl⟩ := hx
 have := b.toNat_lt
 omega
theorem numsOf_strOf {l : List Int} (h : Bts l) : Lib.numsOf (strOfNums l) = l := by
 unfold Lib.numsOf
 rw [strOfNums_data, List.map_map]
 conv => rhs; rw [← List.map_id l]
 refine List.map_congr_left fun x hx => ?_
 have := h x hx
 simp
 omega
theorem txtP_some {l r : List Int} {s : ByteArray} (h : txtP l = some (s, r)) : ∃ n m b, numP 1 l = some (n, m) ∧ tk n.toNat m = some (b, r) ∧ s = strOfNums b := by
 unfold txtP at h
 cases hp : numP 1 l with
 | none => rw [hp] at h; cases h
 | some z =>
  rw [hp] at h
  simp only [Option.bind_some] at h
  cases hq : tk z.1.toNat z.2 with
  | none => rw [hq] at h; cases h
  | some y =>
   rw [hq] at h
   simp at h
   obtain ⟨rfl, rfl⟩ := h
   exact ⟨z.1, z.2, y.1, rfl, hq, rfl⟩
theorem txtP_mk {l m r b : List Int} {n : Int} (h : numP 1 l = some (n, m)) (k : tk n.toNat m = some (b, r)) : txtP l = some (strOfNums b, r) := by
 unfold txtP; rw [h]; simp only [Option.bind_some, k]; rfl
theorem txt_good : Good txtP txtB (fun s => s.size < 256) where
 fwd s r h := by
  unfold txtB
  rw [List.append_assoc]
  have h1 := one_good.fwd s.size (Lib.numsOf s ++ r) ⟨by omega, by omega⟩
  have h2 := tk_fwd (Lib.numsOf s) r
  rw [numsOf_len] at h2
  have := txtP_mk h1 (by rw [Int.toNat_natCast]; exact h2)
  rwa [Lib.strOfNums_numsOf] at this
 bwd l s r hl h := by
  obtain ⟨n, m, b, h1, h2, rfl⟩ := txtP_some h
  have e1 := one_good.bwd _ _ _ hl h1
  have hm : Bts m := fun y hy => hl y (by rw [e1]; exact List.mem_append.2 (.inr hy))
  obtain ⟨hn, hb, hr⟩ := tk_some h2
  have hbb : Bts b := by rw [hb]; exact hm.take _
  have hb0 : 0 ≤ n := by
   unfold numP at h1
   cases ht : tk 1 l with
   | none => rw [ht] at h1; cases h1
   | some y =>
    obtain ⟨c, r'⟩ := y
    obtain ⟨hn, rfl, rfl⟩ := tk_some ht
    rw [ht] at h1
    simp at h1
    match l, hn with
    | a :: l', _ =>
     have := hl a (by simp)
     simp [valB] at h1; omega
  have hlen : b.length = n.toNat := by rw [hb, List.length_take]; omega
  rw [e1]
  unfold txtB
  rw [numsOf_strOf hbb, strOfNums_size, hlen, Int.toNat_of_nonneg hb0, List.append_assoc, hb, hr, List.take_append_drop]
 ext l s r t h := by
  obtain ⟨n, m, b, h1, h2, rfl⟩ := txtP_some h
  exact txtP_mk (one_good.ext _ _ _ t h1) (tk_ext t h2)
 byt s := (one_good.byt _).app (numsOf_bts s)

structure EvD where
 k : Int
 nm : ByteArray
 tg : ByteArray
 n : Int
 dr : Int
 c : Cfg
 rn : ByteArray
 rc : ByteArray
 ts : List Tgt
 rr : Int
deriving DecidableEq
def ε : ByteArray := ⟨#[]⟩
def cfg0 : Cfg := ⟨ε, 0, 0, 0, 0, 0⟩
def ev0 : EvD := ⟨0, ε, ε, 0, 0, cfg0, ε, ε, [], 0⟩
/-- What an event's kind has, alone. -/
def EvD.kept (e : EvD) : EvD :=
 if e.k = 1 then { ev0 with k := e.k, n := e.n, c := e.c }
 else if e.k = 2 then { ev0 with k := e.k, n := e.n, rn := e.rn, rc := e.rc, ts := e.ts, rr := e.rr }
 else if e.k = 3 then { ev0 with k := e.k, n := e.n, nm := e.nm, dr := e.dr }
 else if e.k = 4 then { ev0 with k := e.k, n := e.n, nm := e.nm, tg := e.tg, dr := e.dr }
 else if 5 ≤ e.k ∧ e.k ≤ 8 then { ev0 with k := e.k, n := e.n }
 else if 10 ≤ e.k ∧ e.k ≤ 13 then { ev0 with k := e.k, nm := e.nm }
 else { ev0 with k := e.k }
def numE (n least : Int) : Int := if n < least ∨ 2147483647 < n then 2 else 0
def nmdE (b : Bool) : Int := if b then 0 else 1
def EvD.chk (e : EvD) : Int :=
 if e.k < 1 ∨ 13 < e.k then 12
 else if e ≠ e.kept then 2
 else if e.k = 1 then fst0 [numE e.n 0, e.c.err]
 else if e.k = 2 then fst0 [numE e.n 0, routeE e.rn e.rc e.ts e.rr]
 else if e.k = 3 then (if 2 < e.n then 2 else fst0 [numE e.n 1, nmdE (nameB 16 e.nm), numE e.dr 0])
 else if e.k = 4 then fst0 [numE e.n 1, nmdE (nameB 16 e.nm), nmdE (strE e.tg || nameB 8 e.tg), numE e.dr 0]
 else if e.k ≤ 8 then numE e.n 1
 else if e.k = 9 then 0
 else if e.k ≤ 11 then nmdE (nameB 16 e.nm)
 else nmdE (revB e.nm)

/-- Nothing. -/
def nilP : Pr Unit := fun l => some ((), l)
theorem nil_good : Good nilP (fun _ => []) (fun _ => True) := ⟨fun x r _ => rfl, fun l x r _ h => by cases h; rfl, fun l x r s h => by cases h; rfl, fun _ => Bts.nil⟩
def tgtP : Pr Tgt := mapP (fun x => ⟨x.1, x.2.1, x.2.2⟩) (seqP txtP (seqP txtP (numP 1)))
def tgtB' (t : Tgt) : List Int := txtB t.rv ++ (txtB t.tg ++ oneB t.pc)
def tgtOk (t : Tgt) : Prop := t.rv.size < 256 ∧ t.tg.size < 256 ∧ 0 ≤ t.pc ∧ t.pc < 256
theorem tgt_good : Good tgtP tgtB' tgtOk := by
 have h := map_good (seq_good txt_good (seq_good txt_good one_good)) (fun x => (⟨x.1, x.2.1, x.2.2⟩ : Tgt)) (fun t => (t.rv, t.tg, t.pc)) (fun x => rfl)
 exact ⟨fun x r hx => h.fwd x r ⟨rfl, hx⟩, h.bwd, h.ext, h.byt⟩
def tgtN : Nat → Pr (List Tgt)
 | 0 => mapP (fun _ => []) nilP
 | n + 1 => mapP (fun x => x.1 :: x.2) (seqP tgtP (tgtN n))
def tgtsB (ts : List Tgt) : List Int := ts.flatMap tgtB'
theorem tgtN_good : ∀ n, Good (tgtN n) tgtsB (fun ts => ts.length = n ∧ ∀ t ∈ ts, tgtOk t)
 | 0 => by
  refine ⟨fun x r h => ?_, fun l x r _ h => ?_, fun l x r s h => ?_, fun x y hy => ?_⟩
  ·
   obtain rfl := List.eq_nil_of_length_eq_zero h.1
   rfl
  ·
   cases h; rfl
  ·
   cases h; rfl
  ·
   simp only [tgtsB, List.mem_flatMap] at hy
   obtain ⟨t, _, h⟩ := hy
   exact tgt_good.byt t y h
 | n + 1 => by
  have ih := tgtN_good n
  have hs := seq_good tgt_good ih
  refine ⟨fun x r h => ?_, fun l x r hl h => ?_, fun l x r s h => ?_, fun x y hy => ?_⟩
  ·
   match x, h with
   | t :: ts, ⟨hl, hk⟩ =>
    have := hs.fwd (t, ts) r ⟨hk t (by simp), by simpa using hl, fun t' ht' => hk t' (by simp [ht'])⟩
    exact mapP_mk (f := fun x => x.1 :: x.2) this
  ·
   obtain ⟨⟨t, ts⟩, rfl, h1⟩ := mapP_some h
   exact hs.bwd _ _ _ hl h1
  ·
   obtain ⟨x, rfl, h1⟩ := mapP_some h
   exact mapP_mk (f := fun x => x.1 :: x.2) (hs.ext _ _ _ s h1)
  ·
   simp only [tgtsB, List.mem_flatMap] at hy
   obtain ⟨t, _, h⟩ := hy
   exact tgt_good.byt t y h
theorem tgtN_len : ∀ (n : Nat) (l : List Int) (ts : List Tgt) (r : List Int), tgtN n l = some (ts, r) → ts.length = n
 | 0, l, ts, r, h => by cases h; rfl
 | n + 1, l, ts, r, h => by
  obtain ⟨⟨t, us⟩, rfl, h1⟩ := mapP_some h
  obtain ⟨m, _, h2⟩ := seqP_some h1
  simp [tgtN_len n m us r h2]
/-- Targets: how many, each. -/
def tgtsP : Pr (List Tgt) := fun l => (numP 1 l).bind fun x => tgtN x.1.toNat x.2
theorem tgtsP_some {l r : List Int} {ts : List Tgt} (h : tgtsP l = some (ts, r)) : ∃ n m, numP 1 l = some (n, m) ∧ tgtN n.toNat m = some (ts, r) := by
 unfold tgtsP at h
 cases hp : numP 1 l with
 | none => rw [hp] at h; cases h
 | some z => rw [hp] at h; exact ⟨z.1, z.2, rfl, h⟩
theorem numP_byte {k : Nat} {l r : List Int} {n : Int} (hl : Bts l) (h : numP k l = some (n, r)) : 0 ≤ n := by
 unfold numP at h
 cases ht : tk k l with
 | none => rw [ht] at h; cases h
 | some y =>
  obtain ⟨b, r'⟩ := y
  obtain ⟨hn, rfl, rfl⟩ := tk_some ht
  rw [ht] at h
  simp at h
  have : ∀ (b : List Int) (a : Int), 0 ≤ a → Bts b → 0 ≤ b.foldl (fun a x => a * 256 + x) a := by
   intro b
   induction b with
   | nil => intro a ha _; exact ha
   | cons x b ih => intro a ha hb; exact ih _ (by have := hb x (by simp); show 0 ≤ a * 256 + x; omega) (fun y hy => hb y (by simp [hy]))
  rw [← h.1]
  exact this _ 0 (by omega) (hl.take _)
theorem tgts_good : Good tgtsP (fun ts => oneB ts.length ++ tgtsB ts) (fun ts => ts.length < 256 ∧ ∀ t ∈ ts, tgtOk t) where
 fwd x r h := by
  rw [List.append_assoc]
  unfold tgtsP
  rw [one_good.fwd x.length _ ⟨by omega, by omega⟩]
  simp only [Option.bind_some, Int.toNat_natCast]
  exact (tgtN_good x.length).fwd x r ⟨rfl, h.2⟩
 bwd l x r hl h := by
  obtain ⟨n, m, h1, h2⟩ := tgtsP_some h
  have e1 := one_good.bwd _ _ _ hl h1
  have hm : Bts m := fun y hy => hl y (by rw [e1]; exact List.mem_append.2 (.inr hy))
  have hn := numP_byte hl h1
  have hlen := tgtN_len _ _ _ _ h2
  rw [e1, (tgtN_good _).bwd _ _ _ hm h2, hlen, Int.toNat_of_nonneg hn, List.append_assoc]
 ext l x r s h := by
  obtain ⟨n, m, h1, h2⟩ := tgtsP_some h
  unfold tgtsP
  rw [one_good.ext _ _ _ s h1]
  simp only [Option.bind_some]
  exact (tgtN_good _).ext _ _ _ s h2
 byt x := (one_good.byt _).app fun y hy => by
  simp only [tgtsB, List.mem_flatMap] at hy
  obtain ⟨t, _, h⟩ := hy
  exact tgt_good.byt t y h

/-- What stands behind the kind. -/
def bodyP (k : Int) : Pr EvD :=
 if k = 1 then mapP (fun x => { ev0 with k := k, n := x.1, c := ⟨x.2.1, x.2.2.1, x.2.2.2.1, x.2.2.2.2.1, x.2.2.2.2.2.1, x.2.2.2.2.2.2⟩ }) (seqP (numP 4) (seqP txtP (seqP (numP 1) (seqP (numP 1) (seqP (numP 1) (seqP (numP 1) (numP 1)))))))
 else if k = 2 then mapP (fun x => { ev0 with k := k, n := x.1, rn := x.2.1, rc := x.2.2.1, rr := x.2.2.2.1, ts := x.2.2.2.2 }) (seqP (numP 4) (seqP txtP (seqP txtP (seqP (numP 1) tgtsP))))
 else if k = 3 then mapP (fun x => { ev0 with k := k, n := x.1, nm := x.2.1, dr := x.2.2 }) (seqP (numP 4) (seqP txtP (numP 4)))
 else if k = 4 then mapP (fun x => { ev0 with k := k, n := x.1, nm := x.2.1, tg := x.2.2.1, dr := x.2.2.2 }) (seqP (numP 4) (seqP txtP (seqP txtP (numP 4))))
 else if 5 ≤ k ∧ k ≤ 8 then mapP (fun x => { ev0 with k := k, n := x }) (numP 4)
 else if 10 ≤ k ∧ k ≤ 13 then mapP (fun x => { ev0 with k := k, nm := x }) txtP
 else mapP (fun _ => { ev0 with k := k }) nilP
def bodyB (k : Int) (e : EvD) : List Int :=
 if k = 1 then fourB e.n ++ (txtB e.c.nm ++ (oneB e.c.im ++ (oneB e.c.co ++ (oneB e.c.mn ++ (oneB e.c.mx ++ oneB e.c.gr)))))
 else if k = 2 then fourB e.n ++ (txtB e.rn ++ (txtB e.rc ++ (oneB e.rr ++ (oneB e.ts.length ++ tgtsB e.ts))))
 else if k = 3 then fourB e.n ++ (txtB e.nm ++ fourB e.dr)
 else if k = 4 then fourB e.n ++ (txtB e.nm ++ (txtB e.tg ++ fourB e.dr))
 else if 5 ≤ k ∧ k ≤ 8 then fourB e.n
 else if 10 ≤ k ∧ k ≤ 13 then txtB e.nm
 else []
def n4 (n : Int) : Prop := 0 ≤ n ∧ n ≤ 2147483647
def n1 (n : Int) : Prop := 0 ≤ n ∧ n < 256
def bodyOk (k : Int) (e : EvD) : Prop :=
 e.k = k ∧ e = e.kept ∧
 (if k = 1 then n4 e.n ∧ e.c.nm.size < 256 ∧ n1 e.c.im ∧ n1 e.c.co ∧ n1 e.c.mn ∧ n1 e.c.mx ∧ n1 e.c.gr
 else if k = 2 then n4 e.n ∧ e.rn.size < 256 ∧ e.rc.size < 256 ∧ n1 e.rr ∧ e.ts.length < 256 ∧ ∀ t ∈ e.ts, tgtOk t
 else if k = 3 then n4 e.n ∧ e.nm.size < 256 ∧ n4 e.dr
 else if k = 4 then n4 e.n ∧ e.nm.size < 256 ∧ e.tg.size < 256 ∧ n4 e.dr
 else if 5 ≤ k ∧ k ≤ 8 then n4 e.n
 else if 10 ≤ k ∧ k ≤ 13 then e.nm.size < 256
 else True)
theorem body_good (k : Int) : Good (bodyP k) (bodyB k) (bodyOk k) := by
 have conv : ∀ {β : Type} {p : Pr β} {pr : β → List Int} {ok : β → Prop} (hp : Good p pr ok) (f : β → EvD) (g : EvD → β) (hg : ∀ x, g (f x) = x) (P : EvD → List Int) (O : EvD → Prop),
   (∀ e, P e = pr (g e)) → (∀ e, O e → f (g e) = e ∧ ok (g e)) → Good (mapP f p) P O := by
  intro β p pr ok hp f g hg P O h1 h2
  have h := map_good hp f g hg
  have e : P = fun y => pr (g y) := funext h1
  rw [e]
  exact ⟨fun x r hx => h.fwd x r (h2 x hx), h.bwd, h.ext, h.byt⟩
 unfold bodyP
 by_cases e1 : k = 1
 ·
  rw [if_pos e1]
  refine conv (seq_good four_good (seq_good txt_good (seq_good one_good (seq_good one_good (seq_good one_good (seq_good one_good one_good)))))) _ (fun e => (e.n, e.c.nm, e.c.im, e.c.co, e.c.mn, e.c.mx, e.c.gr)) (fun x => rfl) _ _ (fun e => by simp [bodyB, e1]) (fun e h => ?_)
  obtain ⟨hk, hkept, h⟩ := h
  rw [if_pos e1] at h
  refine ⟨?_, h.1, h.2.1, h.2.2.1, h.2.2.2.1, h.2.2.2.2.1, h.2.2.2.2.2.1, h.2.2.2.2.2.2⟩
  conv => rhs; rw [hkept]
  unfold EvD.kept
  rw [if_pos (by omega), hk]
 ·
  rw [if_neg e1]
  by_cases e2 : k = 2
  ·
   rw [if_pos e2]
   refine conv (seq_good four_good (seq_good txt_good (seq_good txt_good (seq_good one_good tgts_good)))) _ (fun e => (e.n, e.rn, e.rc, e.rr, e.ts)) (fun x => rfl) _ _ (fun e => by simp [bodyB, e1, e2]) (fun e h => ?_)
   obtain ⟨hk, hkept, h⟩ := h
   rw [if_neg e1, if_pos e2] at h
   refine ⟨?_, h.1, h.2.1, h.2.2.1, h.2.2.2.1, h.2.2.2.2⟩
   conv => rhs; rw [hkept]
   unfold EvD.kept
   rw [if_neg (by omega), if_pos (by omega), hk]
  ·
   rw [if_neg e2]
   by_cases e3 : k = 3
   ·
    rw [if_pos e3]
    refine conv (seq_good four_good (seq_good txt_good four_good)) _ (fun e => (e.n, e.nm, e.dr)) (fun x => rfl) _ _ (fun e => by simp [bodyB, e1, e2, e3]) (fun e h => ?_)
    obtain ⟨hk, hkept, h⟩ := h
    rw [if_neg e1, if_neg e2, if_pos e3] at h
    refine ⟨?_, h.1, h.2.1, h.2.2⟩
    conv => rhs; rw [hkept]
    unfold EvD.kept
    rw [if_neg (by omega), if_neg (by omega), if_pos (by omega), hk]
   ·
    rw [if_neg e3]
    by_cases e4 : k = 4
    ·
     rw [if_pos e4]
     refine conv (seq_good four_good (seq_good txt_good (seq_good txt_good four_good))) _ (fun e => (e.n, e.nm, e.tg, e.dr)) (fun x => rfl) _ _ (fun e => by simp [bodyB, e1, e2, e3, e4]) (fun e h => ?_)
     obtain ⟨hk, hkept, h⟩ := h
     rw [if_neg e1, if_neg e2, if_neg e3, if_pos e4] at h
     refine ⟨?_, h.1, h.2.1, h.2.2.1, h.2.2.2⟩
     conv => rhs; rw [hkept]
     unfold EvD.kept
     rw [if_neg (by omega), if_neg (by omega), if_neg (by omega), if_pos (by omega), hk]
    ·
     rw [if_neg e4]
     by_cases e5 : 5 ≤ k ∧ k ≤ 8
     ·
      rw [if_pos e5]
      refine conv four_good _ (fun e => e.n) (fun x => rfl) _ _ (fun e => by simp [bodyB, e1, e2, e3, e4, e5]) (fun e h => ?_)
      obtain ⟨hk, hkept, h⟩ := h
      rw [if_neg e1, if_neg e2, if_neg e3, if_neg e4, if_pos e5] at h
      refine ⟨?_, h⟩
      conv => rhs; rw [hkept]
      unfold EvD.kept
      rw [if_neg (by omega), if_neg (by omega), if_neg (by omega), if_neg (by omega), if_pos (by omega), hk]
     ·
      rw [if_neg e5]
      by_cases e6 : 10 ≤ k ∧ k ≤ 13
      ·
       rw [if_pos e6]
       refine conv txt_good _ (fun e => e.nm) (fun x => rfl) _ _ (fun e => by simp [bodyB, e1, e2, e3, e4, e5, e6]) (fun e h => ?_)
       obtain ⟨hk, hkept, h⟩ := h
       rw [if_neg e1, if_neg e2, if_neg e3, if_neg e4, if_neg e5, if_pos e6] at h
       refine ⟨?_, h⟩
       conv => rhs; rw [hkept]
       unfold EvD.kept
       rw [if_neg (by omega), if_neg (by omega), if_neg (by omega), if_neg (by omega), if_neg (by omega), if_pos (by omega), hk]
      ·
       rw [if_neg e6]
       refine conv nil_good _ (fun e => ()) (fun x => rfl) _ _ (fun e => by simp [bodyB, e1, e2, e3, e4, e5, e6]) (fun e h => ?_)
       obtain ⟨hk, hkept, _⟩ := h
       refine ⟨?_, trivial⟩
       conv => rhs; rw [hkept]
       unfold EvD.kept
       rw [if_neg (by omega), if_neg (by omega), if_neg (by omega), if_neg (by omega), if_neg (by omega), if_neg (by omega), hk]

def EvD.bytes (e : EvD) : List Int := oneB e.k ++ bodyB e.k e
def evParse (l : List Int) : EvD × Int :=
 match numP 1 l with
 | none => (ev0, 10)
 | some (k, r) => if k < 1 ∨ 13 < k then (ev0, 12) else
  match bodyP k r with
  | none => (ev0, 10)
  | some (e, s) => if s ≠ [] then (ev0, 11) else if e.chk ≠ 0 then (ev0, e.chk) else (e, 0)

theorem name_size {m : Nat} {s : ByteArray} (h : nameB m s = true) : s.size ≤ m := by
 unfold nameB at h
 exact (of_decide_eq_true h).2.1
theorem revB_size {s : ByteArray} (h : revB s = true) : s.size ≤ 23 := by
 unfold revB parse at h
 split at h
 ·
  cases h
 ·
  split at h
  ·
   rename_i h1 h2
   simp only [Bool.and_eq_true, decide_eq_true_eq] at h2
   obtain ⟨⟨ha, hb⟩, hc⟩ := h2
   rcases Lib.lastIndexByte_spec s 45 with ⟨e1, _⟩ | ⟨i, hi, e1, _, _⟩
   ·
    rw [e1] at h1; exact absurd (by decide) h1
   ·
    rw [e1] at ha hb hc
    simp only [Int.toNat_natCast] at ha hb hc
    have h3 := name_size ha
    rw [ByteArray.size_extract] at h3
    have hn := (numLB_iff _).1 hb
    have hlen : (s.extract (i + 1) s.size).data.toList.length = s.size - (i + 1) := by
     have : (s.extract (i + 1) s.size).size = s.size - (i + 1) := by rw [ByteArray.size_extract]; omega
     rw [← this]; exact Array.length_toList
    generalize (s.extract (i + 1) s.size).data.toList = l at *
    have : l.length ≤ 6 := by
     match l, hn with
     | [], h => exact absurd rfl h.1
     | c :: l', h =>
      have hd := h.2.2 c (by simp)
      have hne : c ≠ 48 := fun e => h.2.1 (by simp [e])
      have h49 : 1 ≤ c.toNat - 48 := by
       have : c.toNat ≠ 48 := fun e => hne (UInt8.toNat_inj.1 (by rw [e]; rfl))
       have := hd.1
       omega
      rw [valL_cons] at hc
      rcases Nat.lt_or_ge l'.length 6 with h' | h'
      ·
       simp; omega
      ·
       have h10 : 10 ^ 6 ≤ 10 ^ l'.length := Nat.pow_le_pow_right (by decide) h'
       have : 1 * 10 ^ l'.length ≤ (c.toNat - 48) * 10 ^ l'.length := Nat.mul_le_mul_right _ h49
       omega
    omega
  ·
   cases h
theorem strE_size {s : ByteArray} (h : strE s = true) : s.size = 0 := by
 unfold strE at h
 rw [ByteArray.toList_eq] at h
 have := List.isEmpty_iff.1 h
 have h2 : s.data.toList.length = 0 := by rw [this]; rfl
 simpa using h2
theorem numE_zero {n least : Int} (h : numE n least = 0) : least ≤ n ∧ n ≤ 2147483647 := by
 unfold numE at h
 split at h
 ·
  cases h
 ·
  omega
theorem nmdE_zero {b : Bool} (h : nmdE b = 0) : b = true := by
 unfold nmdE at h
 split at h
 ·
  assumption
 ·
  cases h
theorem err_nmd' {t : Tgt} (h : t.err = 0) : t.nmd = true := by
 unfold Tgt.err at h
 cases hn : t.nmd <;> simp [hn] at h ⊢
theorem routeE_parts' {nm cf : ByteArray} {ts : List Tgt} {rl : Int} (h : routeE nm cf ts rl = 0) : nameB 16 nm = true ∧ nameB 16 cf = true ∧ inB rl 0 60 = true ∧ inB ts.length 1 6 = true ∧ eachE ts = 0 ∧ dupT ts = false ∧ sumT ts = 100 := by
 have h0 := unl_zero (by decide) (fst0_zero _ h 0 (by show 0 < 6; omega))
 have h1 := unl_zero (by decide) (fst0_zero _ h 1 (by show 1 < 6; omega))
 have h2 := unl_zero (by decide) (fst0_zero _ h 2 (by show 2 < 6; omega))
 have h3 : eachE ts = 0 := fst0_zero _ h 3 (by show 3 < 6; omega)
 have h4 := unl_zero (by decide) (fst0_zero _ h 4 (by show 4 < 6; omega))
 have h5 := unl_zero (by decide) (fst0_zero _ h 5 (by show 5 < 6; omega))
 rw [Bool.and_eq_true] at h0
 exact ⟨h0.1, h0.2, h1, h2, h3, by simpa using h4, by simpa using h5⟩
theorem cfgerr_zero {c : Cfg} (h : c.err = 0) : nameB 16 c.nm = true ∧ (0 ≤ c.im ∧ c.im ≤ 255) ∧ (1 ≤ c.co ∧ c.co ≤ 8) ∧ (1 ≤ c.mx ∧ c.mx ≤ 10) ∧ (0 ≤ c.mn ∧ c.mn ≤ c.mx) ∧ (0 ≤ c.gr ∧ c.gr ≤ 30) := by
 unfold Cfg.err Cfg.num at h
 split at h
 ·
  split at h
  ·
   rename_i h1 h2
   simp only [Bool.and_eq_true, inB_iff] at h2
   exact ⟨h1, h2.1.1.1.1, h2.1.1.1.2, h2.1.1.2, h2.1.2, h2.2⟩
  ·
   cases h
 ·
  cases h
theorem tgt_ok_of {t : Tgt} (h : t.err = 0) : tgtOk t := by
 have hn := err_nmd' h
 have hp := err_pc h
 unfold Tgt.nmd at hn
 rw [Bool.and_eq_true, Bool.or_eq_true, Bool.or_eq_true] at hn
 refine ⟨?_, ?_, hp.1, by omega⟩
 ·
  rcases hn.1 with h' | h'
  ·
   have := strE_size h'; omega
  ·
   have := revB_size h'; omega
 ·
  rcases hn.2 with h' | h'
  ·
   have := strE_size h'; omega
  ·
   have := name_size h'; omega
theorem chk_ok {e : EvD} (h : e.chk = 0) : 1 ≤ e.k ∧ e.k ≤ 13 ∧ bodyOk e.k e := by
 unfold EvD.chk at h
 split at h
 ·
  cases h
 ·
  rename_i hk
  refine ⟨by omega, by omega, rfl, ?_⟩
  split at h
  ·
   cases h
  ·
   rename_i hkept
   refine ⟨Classical.byContradiction hkept, ?_⟩
   by_cases e1 : e.k = 1
   ·
    rw [if_pos e1] at h ⊢
    have a := numE_zero (fst0_zero _ h 0 (by show 0 < 2; omega))
    have b := cfgerr_zero (fst0_zero _ h 1 (by show 1 < 2; omega))
    have := name_size b.1
    unfold n4 n1
    omega
   ·
    rw [if_neg e1] at h ⊢
    by_cases e2 : e.k = 2
    ·
     rw [if_pos e2] at h ⊢
     have a := numE_zero (fst0_zero _ h 0 (by show 0 < 2; omega))
     obtain ⟨b1, b2, b3, b4, b5, _, _⟩ := routeE_parts' (fst0_zero _ h 1 (by show 1 < 2; omega))
     have s1 := name_size b1
     have s2 := name_size b2
     have s3 := inB_iff.1 b3
     have s4 := inB_iff.1 b4
     unfold n4 n1
     refine ⟨⟨by omega, by omega⟩, by omega, by omega, ⟨by omega, by omega⟩, by omega, fun t ht => ?_⟩
     obtain ⟨i, hi, rfl⟩ := List.getElem_of_mem ht
     have := fst0_zero _ b5 i (by simpa using hi)
     rw [getD_map Tgt.err e.ts i tg0 0 hi] at this
     have h2 := tgt_ok_of this
     simpa [List.getD, hi] using h2
    ·
     rw [if_neg e2] at h ⊢
     by_cases e3 : e.k = 3
     ·
      rw [if_pos e3] at h ⊢
      split at h
      ·
       cases h
      ·
       have a := numE_zero (fst0_zero _ h 0 (by show 0 < 3; omega))
       have b := name_size (nmdE_zero (fst0_zero _ h 1 (by show 1 < 3; omega)))
       have c := numE_zero (fst0_zero _ h 2 (by show 2 < 3; omega))
       unfold n4
       omega
     ·
      rw [if_neg e3] at h ⊢
      by_cases e4 : e.k = 4
      ·
       rw [if_pos e4] at h ⊢
       have a := numE_zero (fst0_zero _ h 0 (by show 0 < 4; omega))
       have b := name_size (nmdE_zero (fst0_zero _ h 1 (by show 1 < 4; omega)))
       have c := nmdE_zero (fst0_zero _ h 2 (by show 2 < 4; omega))
       have d := numE_zero (fst0_zero _ h 3 (by show 3 < 4; omega))
       have ct : e.tg.size < 256 := by
        rw [Bool.or_eq_true] at c
        rcases c with h' | h'
        ·
         have := strE_size h'; omega
        ·
         have := name_size h'; omega
       unfold n4
       omega
      ·
       rw [if_neg e4] at h ⊢
       by_cases e5 : 5 ≤ e.k ∧ e.k ≤ 8
       ·
        rw [if_pos e5.2] at h
        rw [if_pos e5]
        have a := numE_zero h
        unfold n4
        omega
       ·
        rw [if_neg (by omega)] at h
        rw [if_neg e5]
        by_cases e6 : 10 ≤ e.k ∧ e.k ≤ 13
        ·
         rw [if_pos e6]
         rw [if_neg (by omega)] at h
         split at h
         ·
          have := name_size (nmdE_zero h); omega
         ·
          have := revB_size (nmdE_zero h); omega
        ·
         rw [if_neg e6]; trivial

theorem body_k {k : Int} {l r : List Int} {e : EvD} (h : bodyP k l = some (e, r)) : e.k = k := by
 unfold bodyP at h
 split at h
 ·
  obtain ⟨y, rfl, _⟩ := mapP_some h; rfl
 ·
  split at h
  ·
   obtain ⟨y, rfl, _⟩ := mapP_some h; rfl
  ·
   split at h
   ·
    obtain ⟨y, rfl, _⟩ := mapP_some h; rfl
   ·
    split at h
    ·
     obtain ⟨y, rfl, _⟩ := mapP_some h; rfl
    ·
     split at h
     ·
      obtain ⟨y, rfl, _⟩ := mapP_some h; rfl
     ·
      split at h
      ·
       obtain ⟨y, rfl, _⟩ := mapP_some h; rfl
      ·
       obtain ⟨y, rfl, _⟩ := mapP_some h; rfl
theorem chk_len {e : EvD} (h : e.chk = 0) (h2 : e.k = 2) : e.ts.length ≤ 6 := by
 unfold EvD.chk at h
 split at h
 ·
  cases h
 ·
  split at h
  ·
   cases h
  ·
   simp only [h2] at h
   have := inB_iff.1 (routeE_parts' (fst0_zero _ h 1 (by show 1 < 2; omega))).2.2.2.1
   omega
theorem tgtsB_snoc (ts : List Tgt) (i : Nat) (h : i < ts.length) : tgtsB (ts.take (i + 1)) = tgtsB (ts.take i) ++ tgtB' (ts.getD i tg0) := by
 unfold tgtsB
 rw [List.take_succ_eq_append_getElem h, List.flatMap_append]
 simp [List.getD, h]
theorem tgtsB_len (ts : List Tgt) (h : ∀ t ∈ ts, tgtOk t) : (tgtsB ts).length ≤ 600 * ts.length := by
 induction ts with
 | nil => simp [tgtsB]
 | cons t ts ih =>
  have h1 := h t (by simp)
  have := ih (fun x hx => h x (by simp [hx]))
  unfold tgtsB at *
  simp only [List.flatMap_cons, List.length_append, List.length_cons]
  have h2 := h1.1
  have h3 := h1.2.1
  simp only [tgtB', txtB, oneB, List.length_append, List.length_singleton, numsOf_len]
  omega
theorem parse_bytes {e : EvD} (h : e.chk = 0) : evParse e.bytes = (e, 0) := by
 obtain ⟨h1, h2, h3⟩ := chk_ok h
 unfold evParse EvD.bytes
 rw [one_good.fwd e.k _ ⟨by omega, by omega⟩]
 simp only
 rw [if_neg (by omega)]
 have := (body_good e.k).fwd e [] h3
 rw [List.append_nil] at this
 rw [this]
 simp [h]
theorem parse_only {l : List Int} {e : EvD} (hl : Bts l) (h : evParse l = (e, 0)) : l = e.bytes ∧ e.chk = 0 := by
 unfold evParse at h
 cases hp : numP 1 l with
 | none => rw [hp] at h; cases h
 | some z =>
  obtain ⟨k, r⟩ := z
  rw [hp] at h
  simp only at h
  split at h
  ·
   cases h
  ·
   have e1 := one_good.bwd _ _ _ hl hp
   have hr : Bts r := fun y hy => hl y (by rw [e1]; exact List.mem_append.2 (.inr hy))
   cases hb : bodyP k r with
   | none => rw [hb] at h; cases h
   | some y =>
    obtain ⟨x, s⟩ := y
    rw [hb] at h
    simp only at h
    split at h
    ·
     cases h
    ·
     rename_i hs
     split at h
     ·
      rename_i hc
      simp only [Prod.mk.injEq] at h
      exact absurd h.2 hc
     ·
      rename_i hc
      simp only [Prod.mk.injEq] at h
      obtain ⟨rfl, _⟩ := h
      have hs : s = [] := Classical.byContradiction hs
      subst hs
      have e2 := (body_good k).bwd _ _ _ hr hb
      have hk := body_k hb
      refine ⟨?_, Classical.byContradiction hc⟩
      unfold EvD.bytes
      rw [hk, e1, e2, List.append_nil]
theorem parse_bad (l : List Int) : (evParse l).2 = 0 ∨ (evParse l).1 = ev0 := by
 unfold evParse
 cases numP 1 l with
 | none => exact .inr rfl
 | some z =>
  obtain ⟨k, r⟩ := z
  simp only
  split
  ·
   exact .inr rfl
  ·
   cases bodyP k r with
   | none => exact .inr rfl
   | some y =>
    obtain ⟨x, s⟩ := y
    simp only
    split
    ·
     exact .inr rfl
    ·
     split
     ·
      exact .inr rfl
     ·
      exact .inl rfl
theorem bytes_bts (e : EvD) : Bts e.bytes := (one_good.byt _).app ((body_good _).byt _)

/-- A row of bytes of the call's own. -/
def OwnB (w : World) (base : Nat) (v : Value) (zs : List Int) : Prop := w.ownsRow base 5 1 v zs.length (zs.map (Value.int .u8))
theorem infoB : (Tryz.prog.info? 5).map (fun i => (i.zero, i.size, i.bytes)) = some (some (.int .u8 0), 1, 1) := by kernel_rfl
set_option maxHeartbeats 1000000 in
theorem rfour_any (base : Nat) (v : Value) (zs : List Int) (n : Int) (w : World) (ho : OwnB w base v zs) (hb : base ≤ w.heap.size) (hz : 1 ≤ zs.length ∧ zs.length ≤ 100000) (hn : 0 ≤ n ∧ n ≤ 2147483647) :
  Calls Tryz.prog 46 #[v, .int .i64 n] w fun e w' => ∃ v', e = .returned v' ∧ OwnB w' base v' (zs ++ fourB n) ∧ Fr.Fr w w' v v' := by
 obtain ⟨i0, hi, hz0, hz1, hz2⟩ := info_parts infoB
 have HI := Lib.hid hi; have HZ0 := Lib.hid hz0; have HZ1 := Lib.hid hz1; have HZ2 := Lib.hid hz2
 have OW := Lib.hid ho
 have z1 := hz.2
 have NE : Hid (∃ z r, zs.map (Value.int .u8) = .int .u8 z :: r) := Lib.hid (by
  match zs, hz.1 with
  | z0 :: zr, _ => exact ⟨z0, _, rfl⟩)
 clear hz
 have n0 := hn.1
 have n1 := hn.2
 clear hi hz0 hz1 hz2 ho hn
 go_enter Tryz.func46, Tryz.ntmps46
 go_wp2_with (at_builtin; refine Fr.wpList_append_fr _ rfl _ _ 41 rfl base 5 i0 (.int .u8 0) 1 1 Tryz.underlying41 HI.out HZ0.out HZ1.out HZ2.out rfl (by decide) _ _ _ rfl (own_later OW.out ?_) _ 4 4 [_, _, _, _] rfl rfl (news_new _ [_, _, _, _] _ _ ?_) ?_ ?_ ?_ ?_ ?_)
 ·
  (repeat (first | with_reducible exact Grow.G.refl _ | with_reducible exact Below.refl _ _ | with_reducible refine Grow.G.alloc ?_ _ | with_reducible refine Grow.G.trans ?_ hb1 | ((with_reducible refine Below.setCell ?_ ?_ _); rotate_left; (focus (first | omega | (simp; done) | (simp; omega)))) | with_reducible assumption | with_reducible refine Grow.G.trans ?_ (by with_reducible assumption)))
 ·
  simp
 ·
  intro u hu; simp at hu; rcases hu with rfl | rfl | rfl | rfl <;> rfl
 ·
  unfold maxLen; omega
 ·
  omega
 ·
  simp; omega
 ·
  intro v' w1 hown hgr
  have hbl := Fr.Fr.trans (Fr.Fr.grow (show Grow.G w _ by (repeat (first | with_reducible exact Grow.G.refl _ | with_reducible exact Below.refl _ _ | with_reducible refine Grow.G.alloc ?_ _ | with_reducible refine Grow.G.trans ?_ hb1 | ((with_reducible refine Below.setCell ?_ ?_ _); rotate_left; (focus (first | omega | (simp; done) | (simp; omega)))) | with_reducible assumption | with_reducible refine Grow.G.trans ?_ (by with_reducible assumption)))) v) hgr
  go_wp2_with fail
  refine bodyPost_ret (v := v') (by simp [results, Tryz.results46, go_sem]) rfl ⟨v', rfl, ?_, hbl⟩
  unfold OwnB
  have e : (zs ++ fourB n).map (Value.int .u8) = zs.map (Value.int .u8) ++ [.int .u8 (n / 16777216), .int .u8 (n / 65536 % 256), .int .u8 (n / 256 % 256), .int .u8 (n % 256)] := by
   rw [List.map_append]
   unfold fourB
   rw [show n / 16777216 % 256 = n / 16777216 by omega]
   rfl
  rw [e, List.length_append]
  exact hown
theorem strCells_nums (s : ByteArray) : Lib.strCells s = (Lib.numsOf s).map (Value.int .u8) := by
 unfold Lib.strCells Lib.numsOf
 rw [List.map_map]; rfl
set_option maxHeartbeats 1000000 in
theorem rtext_any (base : Nat) (v : Value) (zs : List Int) (s : ByteArray) (w : World) (ho : OwnB w base v zs) (hb : base ≤ w.heap.size) (hz : 1 ≤ zs.length ∧ zs.length ≤ 100000) (hs : s.size ≤ 255) :
  Calls Tryz.prog 45 #[v, .string s] w fun e w' => ∃ v', e = .returned v' ∧ OwnB w' base v' (zs ++ txtB s) ∧ Fr.Fr w w' v v' := by
 obtain ⟨i0, hi, hz0, hz1, hz2⟩ := info_parts infoB
 have HI := Lib.hid hi; have HZ0 := Lib.hid hz0; have HZ1 := Lib.hid hz1; have HZ2 := Lib.hid hz2
 have OW := Lib.hid ho
 have z1 := hz.2
 have NE : Hid (∃ z r, zs.map (Value.int .u8) = .int .u8 z :: r) := Lib.hid (by
  match zs, hz.1 with
  | z0 :: zr, _ => exact ⟨z0, _, rfl⟩)
 clear hz
 clear hi hz0 hz1 hz2 ho
 go_enter Tryz.func45, Tryz.ntmps45
 go_wp2_with (at_builtin; refine Fr.wpList_append_fr (o := ⟨some 10, _, _, _, _, _⟩) _ rfl _ _ 41 rfl base 5 i0 (.int .u8 0) 1 1 Tryz.underlying41 HI.out HZ0.out HZ1.out HZ2.out rfl (by decide) _ _ _ rfl (own_later OW.out ?_) _ 1 1 [_] rfl rfl (news_new _ [_] _ _ ?_) ?_ ?_ ?_ ?_ ?_)
 ·
  (repeat (first | with_reducible exact Grow.G.refl _ | with_reducible exact Below.refl _ _ | with_reducible refine Grow.G.alloc ?_ _ | with_reducible refine Grow.G.trans ?_ hb1 | ((with_reducible refine Below.setCell ?_ ?_ _); rotate_left; (focus (first | omega | (simp; done) | (simp; omega)))) | with_reducible assumption | with_reducible refine Grow.G.trans ?_ (by with_reducible assumption)))
 ·
  simp
 ·
  exact one1 rfl
 ·
  unfold maxLen; omega
 ·
  omega
 ·
  simp; omega
 ·
  intro v' w1 hown hgr
  have hbl := Fr.Fr.trans (Fr.Fr.grow (show Grow.G w _ by (repeat (first | with_reducible exact Grow.G.refl _ | with_reducible exact Below.refl _ _ | with_reducible refine Grow.G.alloc ?_ _ | with_reducible refine Grow.G.trans ?_ hb1 | ((with_reducible refine Below.setCell ?_ ?_ _); rotate_left; (focus (first | omega | (simp; done) | (simp; omega)))) | with_reducible assumption | with_reducible refine Grow.G.trans ?_ (by with_reducible assumption)))) v) hgr
  have HO := Lib.hid hown
  have HB := Lib.hid hbl
  have s1 := hbl.g.size
  clear hown hgr hbl
  go_wp2_with (at_builtin; refine Fr.wpList_append_string_fr _ rfl _ _ 41 9 rfl base 5 i0 Tryz.underlying41 Tryz.underlying9 HI.out HZ0.out HZ1.out HZ2.out _ _ _ rfl HO.out s rfl ?_ ?_ ?_ ?_)
  ·
   unfold maxLen; omega
  ·
   omega
  ·
   omega
  ·
   intro v2 w2 hown2 hgr2
   have hbl2 := hgr2
   go_wp2_with fail
   refine bodyPost_ret (v := v2) (by simp [results, Tryz.results45, go_sem]) rfl ⟨v2, rfl, ?_, Fr.Fr.trans HB.out hbl2⟩
   unfold OwnB
   have e : (zs ++ txtB s).map (Value.int .u8) = zs.map (Value.int .u8) ++ .int .u8 s.size :: Lib.strCells s := by
    unfold txtB oneB
    rw [show (s.size : Int) % 256 = s.size by omega, strCells_nums]
    simp
   have el : (zs ++ txtB s).length = zs.length + 1 + s.size := by
    unfold txtB oneB
    simp only [List.length_append, List.length_singleton, numsOf_len]; omega
   rw [e, el]
   exact hown2

def EvD.cells (e : EvD) (a : Option Addr) (c : Nat) : Array Value := #[.int .i64 e.k, .string e.nm, .string e.tg, .int .i64 e.n, .int .i64 e.dr, .string e.c.nm, .int .i64 e.c.im, .int .i64 e.c.co, .int .i64 e.c.mn, .int .i64 e.c.mx, .int .i64 e.c.gr, .string e.rn, .string e.rc, .slice a e.ts.length c, .int .i64 e.rr]
theorem own_one (w : World) (T : TypeId) (v : Value) (b : Nat) (hb : b = w.heap.size) : (w.alloc (.cells #[v] T)).ownsRow w.heap.size T 1 (.slice (some ⟨b, 0, none⟩) 1 1) 1 [v] := by
 subst hb
 exact ⟨rfl, .inr ⟨w.heap.size, 1, #[v], rfl, Nat.le_refl _, (MapKept.heap_alloc w _).1, Nat.le_refl _, by decide, rfl, rfl⟩⟩

/-- What is known of an event's box, whatever grows behind it. -/
structure EvBox (w : World) (g : Nat) (cs : Array Value) : Prop where
 cell : ∀ i, w.cell? ⟨g, i, none⟩ = cs[i]?
theorem EvBox.later {B : Nat} {w w' : World} {g : Nat} {cs : Array Value} (h : EvBox w g cs) (hx : ∃ x, cs[0]? = some x ∧ ∀ z, x ≠ .int .u8 z) (hb : Evo2.SK B w w') : EvBox w' g cs :=
 ⟨fun i => (World.cell?_of_block (w := w) (w' := w') (a := ⟨g, i, none⟩) (hb.2 g (by obtain ⟨x, h1, h2⟩ := hx; exact ⟨x, (h.cell 0).trans h1, h2⟩))).trans (h.cell i)⟩

theorem EvBox.c15 {B : Nat} {w w' : World} {g : Nat} {v0 v1 v2 v3 v4 v5 v6 v7 v8 v9 v10 v11 v12 v13 v14 : Value} (h : EvBox w g #[v0, v1, v2, v3, v4, v5, v6, v7, v8, v9, v10, v11, v12, v13, v14]) (hx : ∃ x, (#[v0, v1, v2, v3, v4, v5, v6, v7, v8, v9, v10, v11, v12, v13, v14] : Array Value)[0]? = some x ∧ ∀ z, x ≠ .int .u8 z) (hb : Evo2.SK B w w') :
  w'.cell? ⟨g, 0, none⟩ = some v0 ∧ w'.cell? ⟨g, 1, none⟩ = some v1 ∧ w'.cell? ⟨g, 2, none⟩ = some v2 ∧ w'.cell? ⟨g, 3, none⟩ = some v3 ∧ w'.cell? ⟨g, 4, none⟩ = some v4 ∧ w'.cell? ⟨g, 5, none⟩ = some v5 ∧ w'.cell? ⟨g, 6, none⟩ = some v6 ∧ w'.cell? ⟨g, 7, none⟩ = some v7 ∧ w'.cell? ⟨g, 8, none⟩ = some v8 ∧ w'.cell? ⟨g, 9, none⟩ = some v9 ∧ w'.cell? ⟨g, 10, none⟩ = some v10 ∧ w'.cell? ⟨g, 11, none⟩ = some v11 ∧ w'.cell? ⟨g, 12, none⟩ = some v12 ∧ w'.cell? ⟨g, 13, none⟩ = some v13 ∧ w'.cell? ⟨g, 14, none⟩ = some v14 :=
 have k := h.later hx hb
 ⟨k.cell 0, k.cell 1, k.cell 2, k.cell 3, k.cell 4, k.cell 5, k.cell 6, k.cell 7, k.cell 8, k.cell 9, k.cell 10, k.cell 11, k.cell 12, k.cell 13, k.cell 14⟩
theorem news_blk {w : World} {b : Nat} {cs : List Value} {T : TypeId} {fr : Nat × Nat} (h : w.heap[b]? = some (.cells cs.toArray T fr)) : ∀ j u, cs[j]? = some u → w.cell? ((⟨b, 0, none⟩ : Addr).add j) = some u := by
 intro j u hj
 have e : (⟨b, 0, none⟩ : Addr).add j = ⟨b, j, none⟩ := by unfold Addr.add; split <;> simp_all
 rw [e]
 simp [World.cell?, h, hj]
theorem own_fin {w' : World} {base B n : Nat} {v : Value} {xs : List Value} {zs ys : List Int} (h : w'.ownsRow B 5 1 v n xs) (hz : n = zs.length) (hx : xs = zs.map (Value.int .u8)) (hB : base ≤ B) (hy : ys = zs) : OwnB w' base v ys := by
 subst hz hx hy
 exact own_base h hB
end Go.Proofs.YtnkekdmikopdgaaGreat

/- How an event, a row of bytes that came in read. -/
namespace Go.Proofs.YtnkekdmikopdgaaGreat
set_option maxRecDepth 100000
set_option linter.unusedVariables false
set_option linter.unusedSimpArgs false
open Go.ChangeShapes Go.WideShapes Go.ChangeAt Go.RowKit Go.Args

section
variable {H : Type} {enc : TypeId × Value → H} {W : World}
/-- Bytes that came in: at a, so many. -/
def ByAt (w : World) (a : Option Addr) (zs : List Int) : Prop := zs = [] ∨ ∃ b off, a = some ⟨b, off, none⟩ ∧ ∀ i, i < zs.length → w.cell? ⟨b, off + i, none⟩ = some (.int .u8 (zs.getD i 0))
theorem bytes_rd {cs : List Value} {d : DataW H} (h : Rd enc Tryz.prog W 41 cs d) (hs : Sz Tryz.prog 41 d) :
  ∃ a zs c, cs = [.slice a (List.length zs) c] ∧ ByAt W a zs ∧ Bts zs ∧ zs.length ≤ 140737488351232 ∧ zs.length ≤ c := by
 rcases h.slice Tryz.underlying41 hs with rfl | ⟨a, len, cap, rfl, hl, hm, hr, hel⟩
 ·
  exact ⟨none, [], 0, rfl, .inl rfl, Bts.nil, by decide, Nat.le_refl _⟩
 ·
  have c1 : Tryz.prog.cellsOf 5 = 1 := by kernel_rfl
  have y1 : Tryz.prog.bytesOf 5 = 1 := by kernel_rfl
  rw [c1] at hel
  rw [y1] at hr
  obtain ⟨zs, hlen, hp⟩ := choose_list (0 : Int) len (fun i z => (0 ≤ z ∧ z < 256) ∧ W.cell? (a.add i) = some (.int .u8 z)) (fun i hi => by
   obtain ⟨cs', di, hcl, hc, hr, hz⟩ := hel i hi
   obtain ⟨z, rfl, hw⟩ := hr.int Tryz.underlying5
   have h0 := hc 0 (by omega)
   have hb := Go.bounds_u8 hw
   exact ⟨z, ⟨by omega, by omega⟩, by simpa using h0⟩)
  subst hlen
  refine ⟨some a, zs, cap, rfl, ?_, fun x hx => ?_, by simpa [reachBytes] using hr, hl⟩
  ·
   cases zs with
   | nil => exact .inl rfl
   | cons z0 zs0 =>
    have hsp := addr_spot (hp 0 (by simp)).2 rfl
    rw [hsp] at hp
    refine .inr ⟨a.block, a.off, by rw [← hsp], fun i hi => ?_⟩
    have := (hp i hi).2
    rwa [addr_add0] at this
  ·
   obtain ⟨i, hi, rfl⟩ := List.getElem_of_mem hx
   have := (hp i hi).1
   simpa [List.getD, hi] using this
theorem bytes_of {base : Nat} {v : Value} {d : DataW H} {p : List MemPlace} (hv : Value.okWide Tryz.prog W .any base 41 v) (h : DataW.Trod enc Tryz.prog W 0 (fun _ => true) true 41 v d p) (hs : Sz Tryz.prog 41 d) :
  ∃ a zs c, v = .slice a (List.length zs) c ∧ ByAt W a zs ∧ Bts zs ∧ zs.length ≤ 140737488351232 ∧ zs.length ≤ c := by
 obtain ⟨s, len, cap, rfl⟩ := okWide_slice Tryz.underlying41 hv
 obtain ⟨a, zs, c, hc, hb⟩ := bytes_rd (rd_of h) hs
 simp [Value.cells] at hc
 obtain ⟨rfl, rfl, rfl⟩ := hc
 exact ⟨s, zs, cap, rfl, hb⟩
end
end Go.Proofs.YtnkekdmikopdgaaGreat

/- The event that damperlaw3.Make makes: plain. -/
namespace Go.Proofs.YtnkekdmikopdgaaGreat
set_option maxRecDepth 100000
set_option linter.unusedVariables false
set_option linter.unusedSimpArgs false
set_option linter.unnecessarySimpa false
open Go.RowKit

def names6 : List ByteArray := [⟨#[102, 114, 111, 110, 116]⟩, ⟨#[98, 97, 99, 107]⟩, ⟨#[114, 45, 49]⟩, ⟨#[119, 101, 98]⟩, ⟨#[97, 112, 105]⟩, ⟨#[97, 45, 98]⟩]
def tags4 : List ByteArray := [⟨#[]⟩, ⟨#[]⟩, ⟨#[116, 48]⟩, ⟨#[116, 49]⟩]
def mkOf (k n dr nm : Int) (c : Cfg) (zs : List Int) : EvD :=
 if k = 1 then { ev0 with k := k, n := withinI n 30, c := gCfg c nm }
 else if k = 2 then { ev0 with k := k, n := withinI n 30, rn := rtName nm, rc := rtCf nm, ts := gTs (rtCf nm) zs, rr := withinI dr 61 }
 else if k = 3 then { ev0 with k := k, n := 1 + withinI n 2, nm := names6.getD (withinI nm 6).toNat ε, dr := withinI dr 30 }
 else if k = 4 then { ev0 with k := k, n := 1 + withinI n 60, nm := rtName nm, tg := tags4.getD (withinI (nm.tdiv 3) 4).toNat ε, dr := withinI dr 2147483648 }
 else if k = 5 then { ev0 with k := k, n := 1 + withinI n 60 }
 else if 6 ≤ k ∧ k ≤ 8 then { ev0 with k := k, n := 1 + withinI n 12 }
 else if k = 10 then { ev0 with k := k, nm := name3 nm }
 else if k = 11 then { ev0 with k := k, nm := rtName nm }
 else if 12 ≤ k ∧ k ≤ 13 then { ev0 with k := k, nm := revS (name3 nm) (1 + withinI n 4) }
 else { ev0 with k := k }
def mkE (kd n dr nm : Int) (c : Cfg) (zs : List Int) : EvD := mkOf (1 + withinI kd 13) n dr nm c zs
theorem names6_ok : ∀ k, k < 6 → nameB 16 (names6.getD k ε) = true := by decide +kernel
theorem tags4_ok : ∀ k, k < 4 → (strE (tags4.getD k ε) || nameB 8 (tags4.getD k ε)) = true := by decide +kernel
theorem names3_rev : ∀ k, k < 3 → ∀ m : Nat, m < 4 → revB (revS (names3.getD k ⟨#[]⟩) (1 + (m : Int))) = true := by decide +kernel
theorem frontN_ok : ∀ k, k < 3 → nameB 16 (frontN.getD k ⟨#[]⟩) = true := by decide +kernel
theorem numE_ok {n least : Int} (h : least ≤ n ∧ n ≤ 2147483647) : numE n least = 0 := by
 unfold numE
 rw [if_neg (by omega)]
theorem rtName_ok (n : Int) : nameB 16 (rtName n) = true := frontN_ok _ (by have := withinI_range n 3 (by omega); omega)
theorem mkOf_chk (k n dr nm : Int) (c : Cfg) (zs : List Int) (h : 1 ≤ k ∧ k ≤ 13) : (mkOf k n dr nm c zs).chk = 0 := by
 have n30 := withinI_range n 30 (by omega)
 have n2 := withinI_range n 2 (by omega)
 have n60 := withinI_range n 60 (by omega)
 have n12 := withinI_range n 12 (by omega)
 have n4 := withinI_range n 4 (by omega)
 have d61 := withinI_range dr 61 (by omega)
 have d30 := withinI_range dr 30 (by omega)
 have dB := withinI_range dr 2147483648 (by omega)
 have m6 := withinI_range nm 6 (by omega)
 have m3 := withinI_range nm 3 (by omega)
 have m4 := withinI_range (nm.tdiv 3) 4 (by omega)
 have hrev : revB (revS (name3 nm) (1 + withinI n 4)) = true := by
  have := names3_rev (withinI nm 3).toNat (by omega) (withinI n 4).toNat (by omega)
  rwa [Int.toNat_of_nonneg n4.1] at this
 have hk : k = 1 ∨ k = 2 ∨ k = 3 ∨ k = 4 ∨ k = 5 ∨ k = 6 ∨ k = 7 ∨ k = 8 ∨ k = 9 ∨ k = 10 ∨ k = 11 ∨ k = 12 ∨ k = 13 := by omega
 rcases hk with rfl | rfl | rfl | rfl | rfl | rfl | rfl | rfl | rfl | rfl | rfl | rfl | rfl <;>
  simp only [mkOf, EvD.chk, EvD.kept, Int.reduceEq, Int.reduceLT, Int.reduceLE, if_true, if_false, or_false, and_true, true_and, and_false, false_and, ne_eq, not_true_eq_false, ev0]
 ·
  rw [numE_ok (by omega), gCfg_ok]; rfl
 ·
  rw [numE_ok (by omega), gRoute_ok _ _ _ (by omega)]; rfl
 ·
  rw [if_neg (by omega), numE_ok (by omega), numE_ok (by omega), names6_ok _ (by omega)]; rfl
 ·
  rw [numE_ok (by omega), numE_ok (by omega), rtName_ok, tags4_ok _ (by omega)]; rfl
 ·
  rw [numE_ok (by omega)]
 ·
  rw [numE_ok (by omega)]
 ·
  rw [numE_ok (by omega)]
 ·
  rw [numE_ok (by omega)]
 ·
  rw [(name3_ok nm).1]; rfl
 ·
  rw [rtName_ok]; rfl
 ·
  rw [hrev]; rfl
 ·
  rw [hrev]; rfl
theorem mkE_chk (kd n dr nm : Int) (c : Cfg) (zs : List Int) : (mkE kd n dr nm c zs).chk = 0 := mkOf_chk _ _ _ _ _ _ (by have := withinI_range kd 13 (by omega); omega)

/-- A part: a number, a draw, a name (of a configuration, of a revision), a tag, a configuration, a route. -/
inductive PT where
 | n (lo hi : Int)
 | d (lo hi : Int)
 | nm (rev : Bool)
 | tg
 | c
 | r
deriving DecidableEq
def PT.specs (k : Int) : List PT :=
 if k = 1 then [.n 0 2147483647, .c]
 else if k = 2 then [.n 0 2147483647, .r]
 else if k = 3 then [.n 1 2, .nm false, .d 0 2147483647]
 else if k = 4 then [.n 1 2147483647, .nm false, .tg, .d 0 2147483647]
 else if 5 ≤ k ∧ k ≤ 8 then [.n 1 2147483647]
 else if 10 ≤ k ∧ k ≤ 11 then [.nm false]
 else if 12 ≤ k ∧ k ≤ 13 then [.nm true]
 else []
def PT.clr (e : EvD) : PT → EvD
 | .n _ _ => { e with n := 0 }
 | .d _ _ => { e with dr := 0 }
 | .nm _ => { e with nm := ε }
 | .tg => { e with tg := ε }
 | .c => { e with c := cfg0 }
 | .r => { e with rn := ε, rc := ε, ts := [], rr := 0 }
def inE (n lo hi : Int) : Int := if lo ≤ n ∧ n ≤ hi then 0 else 2
def PT.err (e : EvD) : PT → Int
 | .n lo hi => inE e.n lo hi
 | .d lo hi => inE e.dr lo hi
 | .nm false => nmdE (nameB 16 e.nm)
 | .nm true => nmdE (revB e.nm)
 | .tg => nmdE (strE e.tg || nameB 8 e.tg)
 | .c => e.c.err
 | .r => routeE e.rn e.rc e.ts e.rr
def cfgB' (c : Cfg) : List Int := txtB c.nm ++ (oneB c.im ++ (oneB c.co ++ (oneB c.mn ++ (oneB c.mx ++ oneB c.gr))))
def rtB (rn rc : ByteArray) (rr : Int) (ts : List Tgt) : List Int := txtB rn ++ (txtB rc ++ (oneB rr ++ (oneB ts.length ++ tgtsB ts)))
def PT.byt (e : EvD) : PT → List Int
 | .n _ _ => fourB e.n
 | .d _ _ => fourB e.dr
 | .nm _ => txtB e.nm
 | .tg => txtB e.tg
 | .c => cfgB' e.c
 | .r => rtB e.rn e.rc e.rr e.ts
def EvD.rest (e : EvD) : EvD := (PT.specs e.k).foldl PT.clr e
theorem fst0_one (a : Int) : fst0 [a] = a := by
 unfold fst0 fst0
 by_cases h : a = 0
 ·
  rw [if_pos h, h]
 ·
  rw [if_neg h]
theorem clr_k (e : EvD) (p : PT) : (p.clr e).k = e.k := by cases p <;> rfl
theorem rest_k (e : EvD) : e.rest.k = e.k := by
 unfold EvD.rest
 generalize PT.specs e.k = l
 have : ∀ (l : List PT) (x : EvD), (l.foldl PT.clr x).k = x.k := by
  intro l
  induction l with
  | nil => intro x; rfl
  | cons p l ih => intro x; rw [List.foldl_cons, ih, clr_k]
 exact this l e
theorem numE_in (n lo : Int) : inE n lo 2147483647 = numE n lo := by
 unfold inE numE
 by_cases h : lo ≤ n ∧ n ≤ 2147483647
 ·
  rw [if_pos h, if_neg (by omega)]
 ·
  rw [if_neg h, if_pos (by omega)]
/-- Nothing but its kind: just where it is what is kept of it. -/
theorem rest_iff (e : EvD) : e.rest = { ev0 with k := e.k } ↔ e = e.kept := by
 obtain ⟨k, nm, tg, n, dr, c, rn, rc, ts, rr⟩ := e
 unfold EvD.rest EvD.kept PT.specs
 simp only
 by_cases e1 : k = 1
 ·
  simp [e1, PT.clr, ev0]
 by_cases e2 : k = 2
 ·
  simp [e2, PT.clr, ev0]
 by_cases e3 : k = 3
 ·
  simp [e3, PT.clr, ev0]
 by_cases e4 : k = 4
 ·
  simp [e4, PT.clr, ev0]
 by_cases e5 : 5 ≤ k ∧ k ≤ 8
 ·
  simp [e1, e2, e3, e4, e5, PT.clr, ev0]
 by_cases e6 : 10 ≤ k ∧ k ≤ 11
 ·
  have e7 : 10 ≤ k ∧ k ≤ 13 := by omega
  rw [if_neg e1, if_neg e2, if_neg e3, if_neg e4, if_neg e5, if_pos e6, if_neg e1, if_neg e2, if_neg e3, if_neg e4, if_neg e5, if_pos e7]
  simp [PT.clr, ev0]
 by_cases e8 : 12 ≤ k ∧ k ≤ 13
 ·
  have e7 : 10 ≤ k ∧ k ≤ 13 := by omega
  rw [if_neg e1, if_neg e2, if_neg e3, if_neg e4, if_neg e5, if_neg e6, if_pos e8, if_neg e1, if_neg e2, if_neg e3, if_neg e4, if_neg e5, if_pos e7]
  simp [PT.clr, ev0]
 ·
  have e7 : ¬ (10 ≤ k ∧ k ≤ 13) := by omega
  simp [e1, e2, e3, e4, e5, e6, e7, e8, PT.clr, ev0]
theorem chk_parts (e : EvD) : e.chk = if e.k < 1 ∨ 13 < e.k then 12 else if e.rest ≠ { ev0 with k := e.k } then 2 else fst0 ((PT.specs e.k).map (PT.err e)) := by
 have hr := rest_iff e
 unfold EvD.chk
 by_cases h0 : e.k < 1 ∨ 13 < e.k
 ·
  rw [if_pos h0, if_pos h0]
 rw [if_neg h0, if_neg h0]
 by_cases h1 : e = e.kept
 ·
  have n1 : ¬ (e ≠ e.kept) := fun h => h h1
  have n2 : ¬ (e.rest ≠ { ev0 with k := e.k }) := fun h => h (hr.2 h1)
  rw [if_neg n1, if_neg n2]
  clear n1 n2 hr h1
  unfold PT.specs
  by_cases e1 : e.k = 1
  ·
   simp [e1, PT.err, numE_in]
  by_cases e2 : e.k = 2
  ·
   simp [e2, PT.err, numE_in]
  by_cases e3 : e.k = 3
  ·
   simp only [e3, if_true, if_false, List.map_cons, List.map_nil, PT.err, numE_in, Int.reduceEq]
   by_cases h2 : 2 < e.n
   ·
    rw [if_pos h2, show inE e.n 1 2 = 2 by unfold inE; rw [if_neg (by omega)]]; rfl
   ·
    rw [if_neg h2, show inE e.n 1 2 = numE e.n 1 by
     unfold inE numE
     by_cases h : 1 ≤ e.n
     ·
      rw [if_pos (by omega), if_neg (by omega)]
     ·
      rw [if_neg (by omega), if_pos (by omega)]]
  by_cases e4 : e.k = 4
  ·
   simp [e4, PT.err, numE_in]
  by_cases e5 : 5 ≤ e.k ∧ e.k ≤ 8
  ·
   have e58 := e5.2
   simp [e1, e2, e3, e4, e5, e58, PT.err, numE_in, fst0_one]
  by_cases e6 : 10 ≤ e.k ∧ e.k ≤ 11
  ·
   have a1 : ¬ e.k ≤ 8 := by omega
   have a2 : ¬ e.k = 9 := by omega
   have a3 : e.k ≤ 11 := e6.2
   simp [e1, e2, e3, e4, e5, e6, a1, a2, a3, PT.err, fst0_one]
  by_cases e8 : 12 ≤ e.k ∧ e.k ≤ 13
  ·
   have a1 : ¬ e.k ≤ 8 := by omega
   have a2 : ¬ e.k = 9 := by omega
   have a3 : ¬ e.k ≤ 11 := by omega
   simp [e1, e2, e3, e4, e5, e6, e8, a1, a2, a3, PT.err, fst0_one]
  ·
   have a2 : e.k = 9 := by omega
   simp [a2]
   rfl
 ·
  have n1 : e ≠ e.kept := h1
  have n2 : e.rest ≠ { ev0 with k := e.k } := fun h => h1 (hr.1 h)
  rw [if_pos n1, if_pos n2]
/-- How a part is read into an event. -/
def cfgP : Pr Cfg := mapP (fun x => ⟨x.1, x.2.1, x.2.2.1, x.2.2.2.1, x.2.2.2.2.1, x.2.2.2.2.2⟩) (seqP txtP (seqP (numP 1) (seqP (numP 1) (seqP (numP 1) (seqP (numP 1) (numP 1))))))
def rtP : Pr (ByteArray × ByteArray × Int × List Tgt) := seqP txtP (seqP txtP (seqP (numP 1) tgtsP))
def PT.pr (e : EvD) : PT → Pr EvD
 | .n _ _ => mapP (fun x => { e with n := x }) (numP 4)
 | .d _ _ => mapP (fun x => { e with dr := x }) (numP 4)
 | .nm _ => mapP (fun x => { e with nm := x }) txtP
 | .tg => mapP (fun x => { e with tg := x }) txtP
 | .c => mapP (fun x => { e with c := x }) cfgP
 | .r => mapP (fun x => { e with rn := x.1, rc := x.2.1, rr := x.2.2.1, ts := x.2.2.2 }) rtP
def runP : List PT → EvD → Pr EvD
 | [], e => fun l => some (e, l)
 | p :: ps, e => fun l => (p.pr e l).bind fun x => runP ps x.1 x.2
theorem body_parts (k : Int) (l : List Int) : bodyP k l = runP (PT.specs k) { ev0 with k := k } l := by
 unfold bodyP PT.specs
 by_cases e1 : k = 1
 ·
  simp only [e1, if_true, runP, PT.pr, mapP, seqP, cfgP]
  cases numP 4 l with
  | none => rfl
  | some x =>
   simp only [Option.map_some, Option.bind_some]
   cases txtP x.2 with
   | none => rfl
   | some x =>
   simp only [Option.map_some, Option.bind_some]
   cases numP 1 x.2 with
   | none => rfl
   | some x =>
   simp only [Option.map_some, Option.bind_some]
   cases numP 1 x.2 with
   | none => rfl
   | some x =>
   simp only [Option.map_some, Option.bind_some]
   cases numP 1 x.2 with
   | none => rfl
   | some x =>
   simp only [Option.map_some, Option.bind_some]
   cases numP 1 x.2 with
   | none => rfl
   | some x =>
   simp only [Option.map_some, Option.bind_some]
   cases numP 1 x.2 with
   | none => rfl
   | some x => rfl
 by_cases e2 : k = 2
 ·
  simp only [e2, if_true, if_false, runP, PT.pr, mapP, seqP, rtP, Int.reduceEq]
  cases numP 4 l with
  | none => rfl
  | some x =>
   simp only [Option.map_some, Option.bind_some]
   cases txtP x.2 with
   | none => rfl
   | some x =>
   simp only [Option.map_some, Option.bind_some]
   cases txtP x.2 with
   | none => rfl
   | some x =>
   simp only [Option.map_some, Option.bind_some]
   cases numP 1 x.2 with
   | none => rfl
   | some x =>
   simp only [Option.map_some, Option.bind_some]
   cases tgtsP x.2 with
   | none => rfl
   | some x => rfl
 by_cases e3 : k = 3
 ·
  simp only [e3, if_true, if_false, runP, PT.pr, mapP, seqP, Int.reduceEq]
  cases numP 4 l with
  | none => rfl
  | some x =>
   simp only [Option.map_some, Option.bind_some]
   cases txtP x.2 with
   | none => rfl
   | some x =>
   simp only [Option.map_some, Option.bind_some]
   cases numP 4 x.2 with
   | none => rfl
   | some x => rfl
 by_cases e4 : k = 4
 ·
  simp only [e4, if_true, if_false, runP, PT.pr, mapP, seqP, Int.reduceEq]
  cases numP 4 l with
  | none => rfl
  | some x =>
   simp only [Option.map_some, Option.bind_some]
   cases txtP x.2 with
   | none => rfl
   | some x =>
   simp only [Option.map_some, Option.bind_some]
   cases txtP x.2 with
   | none => rfl
   | some x =>
   simp only [Option.map_some, Option.bind_some]
   cases numP 4 x.2 with
   | none => rfl
   | some x => rfl
 by_cases e5 : 5 ≤ k ∧ k ≤ 8
 ·
  simp only [e1, e2, e3, e4, e5, and_self, if_true, if_false, runP, PT.pr, mapP]
  cases numP 4 l with
  | none => rfl
  | some x => rfl
 by_cases e6 : 10 ≤ k ∧ k ≤ 11
 ·
  have e7 : 10 ≤ k ∧ k ≤ 13 := by omega
  rw [if_neg e1, if_neg e2, if_neg e3, if_neg e4, if_neg e5, if_pos e7, if_neg e1, if_neg e2, if_neg e3, if_neg e4, if_neg e5, if_pos e6]
  simp only [runP, PT.pr, mapP]
  cases txtP l with
  | none => rfl
  | some x => rfl
 by_cases e8 : 12 ≤ k ∧ k ≤ 13
 ·
  have e7 : 10 ≤ k ∧ k ≤ 13 := by omega
  rw [if_neg e1, if_neg e2, if_neg e3, if_neg e4, if_neg e5, if_pos e7, if_neg e1, if_neg e2, if_neg e3, if_neg e4, if_neg e5, if_neg e6, if_pos e8]
  simp only [runP, PT.pr, mapP]
  cases txtP l with
  | none => rfl
  | some x => rfl
 ·
  have e7 : ¬ (10 ≤ k ∧ k ≤ 13) := by omega
  rw [if_neg e1, if_neg e2, if_neg e3, if_neg e4, if_neg e5, if_neg e7, if_neg e1, if_neg e2, if_neg e3, if_neg e4, if_neg e5, if_neg e6, if_neg e8]
  rfl

/-- What is left to read; whether bytes have lacked. -/
abbrev LS := List Int × Bool
def Lnum (k : Nat) (s : LS) : Int × LS := (valB (s.1.take k), (s.1.drop k, s.2 || decide (s.1.length < k)))
def Ltxt (s : LS) : ByteArray × LS :=
 (strOfNums ((Lnum 1 s).2.1.take (Lnum 1 s).1.toNat), ((Lnum 1 s).2.1.drop (Lnum 1 s).1.toNat, (Lnum 1 s).2.2 || decide ((Lnum 1 s).2.1.length < (Lnum 1 s).1.toNat)))
def Lseq {α β : Type} (p : LS → α × LS) (q : LS → β × LS) (s : LS) : (α × β) × LS := (((p s).1, (q (p s).2).1), (q (p s).2).2)
def Lmap {α β : Type} (f : α → β) (p : LS → α × LS) (s : LS) : β × LS := (f (p s).1, (p s).2)
def Ltgt : LS → Tgt × LS := Lmap (fun x => ⟨x.1, x.2.1, x.2.2⟩) (Lseq Ltxt (Lseq Ltxt (Lnum 1)))
def Ltgts : Nat → LS → List Tgt × LS
 | 0, s => ([], s)
 | n + 1, s => ((Ltgts n s).1 ++ [(Ltgt (Ltgts n s).2).1], (Ltgt (Ltgts n s).2).2)
def Lcfg : LS → Cfg × LS := Lmap (fun x => ⟨x.1, x.2.1, x.2.2.1, x.2.2.2.1, x.2.2.2.2.1, x.2.2.2.2.2⟩) (Lseq Ltxt (Lseq (Lnum 1) (Lseq (Lnum 1) (Lseq (Lnum 1) (Lseq (Lnum 1) (Lnum 1))))))
def Lts (s : LS) : List Tgt × LS := Ltgts (Lnum 1 s).1.toNat (Lnum 1 s).2
def Lrt : LS → (ByteArray × ByteArray × Int × List Tgt) × LS := Lseq Ltxt (Lseq Ltxt (Lseq (Lnum 1) Lts))
structure Len {α : Type} (p : Pr α) (lp : LS → α × LS) : Prop where
 yes : ∀ l x r, p l = some (x, r) → lp (l, false) = (x, (r, false))
 no : ∀ l, p l = none → (lp (l, false)).2.2 = true
 bad : ∀ l, (lp (l, true)).2.2 = true
theorem Len.bad' {α : Type} {p : Pr α} {lp : LS → α × LS} (h : Len p lp) (s : LS) (hs : s.2 = true) : (lp s).2.2 = true := by
 obtain ⟨l, b⟩ := s
 obtain rfl : b = true := hs
 exact h.bad l
theorem num_len (k : Nat) : Len (numP k) (Lnum k) where
 yes l x r h := by
  unfold numP at h
  cases ht : tk k l with
  | none => rw [ht] at h; cases h
  | some y =>
   obtain ⟨b, r'⟩ := y
   obtain ⟨hn, rfl, rfl⟩ := tk_some ht
   rw [ht] at h
   simp at h
   obtain ⟨rfl, rfl⟩ := h
   unfold Lnum
   rw [show decide (l.length < k) = false by simp; omega]
   rfl
 no l h := by
  unfold numP tk at h
  split at h
  ·
   cases h
  ·
   unfold Lnum; simp; omega
 bad l := by unfold Lnum; simp
theorem txt_len : Len txtP Ltxt where
 yes l s r h := by
  obtain ⟨n, m, b, h1, h2, rfl⟩ := txtP_some h
  have h3 := (num_len 1).yes _ _ _ h1
  obtain ⟨hn, rfl, rfl⟩ := tk_some h2
  unfold Ltxt
  rw [h3]
  simp only [Bool.false_or]
  rw [show decide (m.length < n.toNat) = false by simp; omega]
 no l h := by
  unfold txtP at h
  unfold Ltxt
  cases hp : numP 1 l with
  | none =>
   have := (num_len 1).no _ hp
   rw [this]; rfl
  | some z =>
   obtain ⟨n, m⟩ := z
   rw [hp] at h
   simp only [Option.bind_some, Option.map_eq_none_iff] at h
   have h3 := (num_len 1).yes _ _ _ hp
   rw [h3]
   unfold tk at h
   split at h
   ·
    cases h
   ·
    simp; omega
 bad l := by
  unfold Ltxt
  have := (num_len 1).bad l
  rw [this]; rfl
theorem seq_len {α β : Type} {p : Pr α} {q : Pr β} {lp : LS → α × LS} {lq : LS → β × LS} (hp : Len p lp) (hq : Len q lq) : Len (seqP p q) (Lseq lp lq) where
 yes l x r h := by
  obtain ⟨m, h1, h2⟩ := seqP_some h
  unfold Lseq
  rw [hp.yes _ _ _ h1, hq.yes _ _ _ h2]
 no l h := by
  unfold seqP at h
  unfold Lseq
  cases h1 : p l with
  | none => exact hq.bad' _ (hp.no _ h1)
  | some y =>
   obtain ⟨x, m⟩ := y
   rw [h1] at h
   simp only [Option.bind_some, Option.map_eq_none_iff] at h
   rw [hp.yes _ _ _ h1]
   exact hq.no _ h
 bad l := hq.bad' _ (hp.bad l)
theorem map_len {α β : Type} {p : Pr α} {lp : LS → α × LS} (hp : Len p lp) (f : α → β) : Len (mapP f p) (Lmap f lp) where
 yes l x r h := by
  obtain ⟨y, rfl, h1⟩ := mapP_some h
  unfold Lmap
  rw [hp.yes _ _ _ h1]
 no l h := by
  unfold mapP at h
  simp only [Option.map_eq_none_iff] at h
  exact hp.no _ h
 bad l := hp.bad l
theorem tgt_len : Len tgtP Ltgt := map_len (seq_len txt_len (seq_len txt_len (num_len 1))) _
theorem tgtN_snoc : ∀ (n : Nat) (l : List Int), tgtN (n + 1) l = (tgtN n l).bind fun x => (tgtP x.2).map fun y => (x.1 ++ [y.1], y.2)
 | 0, l => by
  simp only [tgtN, mapP, seqP, nilP, Option.map_some, Option.bind_some]
  cases tgtP l with
  | none => rfl
  | some y => rfl
 | n + 1, l => by
  rw [tgtN]
  unfold mapP seqP
  cases h : tgtP l with
  | none =>
   simp only [Option.bind_none, Option.map_none]
   rw [tgtN]; unfold mapP seqP; rw [h]; rfl
  | some y =>
   simp only [Option.bind_some]
   rw [tgtN_snoc n y.2]
   conv => rhs; rw [tgtN]; unfold mapP seqP; rw [h]; simp only [Option.bind_some]
   cases tgtN n y.2 with
   | none => rfl
   | some z =>
    simp only [Option.bind_some, Option.map_some]
    cases tgtP z.2 with
    | none => rfl
    | some u => rfl
theorem tgtN_lens : ∀ n, Len (tgtN n) (Ltgts n)
 | 0 => ⟨fun l x r h => (by cases h; rfl), fun l h => (by cases h), fun l => rfl⟩
 | n + 1 => by
  have ih := tgtN_lens n
  refine ⟨fun l x r h => ?_, fun l h => ?_, fun l => tgt_len.bad' _ (ih.bad l)⟩
  ·
   rw [tgtN_snoc] at h
   cases h1 : tgtN n l with
   | none => rw [h1] at h; cases h
   | some y =>
    obtain ⟨y, m⟩ := y
    rw [h1] at h
    simp only [Option.bind_some] at h
    cases h2 : tgtP m with
    | none => rw [h2] at h; cases h
    | some z =>
     obtain ⟨z, m'⟩ := z
     rw [h2] at h
     cases h
     unfold Ltgts
     rw [ih.yes _ _ _ h1, tgt_len.yes _ _ _ h2]
  ·
   rw [tgtN_snoc] at h
   unfold Ltgts
   cases h1 : tgtN n l with
   | none => exact tgt_len.bad' _ (ih.no _ h1)
   | some y =>
    obtain ⟨y, m⟩ := y
    rw [h1] at h
    simp only [Option.bind_some, Option.map_eq_none_iff] at h
    rw [ih.yes _ _ _ h1]
    exact tgt_len.no _ h
theorem tgts_len : Len tgtsP Lts where
 yes l x r h := by
  obtain ⟨n, m, h1, h2⟩ := tgtsP_some h
  unfold Lts
  rw [(num_len 1).yes _ _ _ h1]
  exact (tgtN_lens _).yes _ _ _ h2
 no l h := by
  unfold tgtsP at h
  unfold Lts
  cases h1 : numP 1 l with
  | none => exact (tgtN_lens _).bad' _ ((num_len 1).no _ h1)
  | some y =>
   obtain ⟨n, m⟩ := y
   rw [h1] at h
   simp only [Option.bind_some] at h
   rw [(num_len 1).yes _ _ _ h1]
   exact (tgtN_lens _).no _ h
 bad l := (tgtN_lens _).bad' _ ((num_len 1).bad l)
theorem cfg_len : Len cfgP Lcfg := map_len (seq_len txt_len (seq_len (num_len 1) (seq_len (num_len 1) (seq_len (num_len 1) (seq_len (num_len 1) (num_len 1)))))) _
theorem rt_len : Len rtP Lrt := seq_len txt_len (seq_len txt_len (seq_len (num_len 1) tgts_len))
def PT.lr (e : EvD) : PT → LS → EvD × LS
 | .n _ _ => Lmap (fun x => { e with n := x }) (Lnum 4)
 | .d _ _ => Lmap (fun x => { e with dr := x }) (Lnum 4)
 | .nm _ => Lmap (fun x => { e with nm := x }) Ltxt
 | .tg => Lmap (fun x => { e with tg := x }) Ltxt
 | .c => Lmap (fun x => { e with c := x }) Lcfg
 | .r => Lmap (fun x => { e with rn := x.1, rc := x.2.1, rr := x.2.2.1, ts := x.2.2.2 }) Lrt
theorem lr_len (e : EvD) (p : PT) : Len (p.pr e) (p.lr e) := by
 cases p
 ·
  exact map_len (num_len 4) (fun x => { e with n := x })
 ·
  exact map_len (num_len 4) (fun x => { e with dr := x })
 ·
  exact map_len txt_len (fun x => { e with nm := x })
 ·
  exact map_len txt_len (fun x => { e with tg := x })
 ·
  exact map_len cfg_len (fun x => { e with c := x })
 ·
  exact map_len rt_len (fun x => { e with rn := x.1, rc := x.2.1, rr := x.2.2.1, ts := x.2.2.2 })
def runL : List PT → EvD × LS → EvD × LS := fun ps s => ps.foldl (fun s p => p.lr s.1 s.2) s
theorem runL_bad : ∀ (ps : List PT) (s : EvD × LS), s.2.2 = true → (runL ps s).2.2 = true
 | [], s, h => h
 | p :: ps, s, h => by
  unfold runL
  rw [List.foldl_cons]
  exact runL_bad ps _ ((lr_len s.1 p).bad' _ h)
theorem runL_len : ∀ (ps : List PT) (e : EvD), Len (runP ps e) (fun s => runL ps (e, s))
 | [], e => ⟨fun l x r h => (by cases h; rfl), fun l h => (by cases h), fun l => rfl⟩
 | p :: ps, e => by
  refine ⟨fun l x r h => ?_, fun l h => ?_, fun l => runL_bad _ _ rfl⟩
  ·
   unfold runP at h
   cases h1 : p.pr e l with
   | none => rw [h1] at h; cases h
   | some y =>
    rw [h1] at h
    simp only [Option.bind_some] at h
    show runL ps (p.lr e (l, false)) = _
    rw [(lr_len e p).yes _ _ _ h1]
    exact (runL_len ps y.1).yes _ _ _ h
  ·
   unfold runP at h
   show (runL ps (p.lr e (l, false))).2.2 = true
   cases h1 : p.pr e l with
   | none => exact runL_bad _ _ ((lr_len e p).no _ h1)
   | some y =>
    rw [h1] at h
    simp only [Option.bind_some] at h
    rw [(lr_len e p).yes _ _ _ h1]
    exact (runL_len ps y.1).no _ h
/-- What is read of bytes behind their kind. -/
def evLax (k : Int) (r : List Int) : EvD × LS := runL (PT.specs k) ({ ev0 with k := k }, (r, false))
theorem parse_lax (l : List Int) : evParse l = match l with
  | [] => (ev0, 10)
  | k :: r => if k < 1 ∨ 13 < k then (ev0, 12) else if (evLax k r).2.2 = true then (ev0, 10) else if (evLax k r).2.1 ≠ [] then (ev0, 11)
   else if (evLax k r).1.chk ≠ 0 then (ev0, (evLax k r).1.chk) else ((evLax k r).1, 0) := by
 cases l with
 | nil => rfl
 | cons k r =>
  unfold evParse
  rw [show numP 1 (k :: r) = some (k, r) by simp [numP, tk, valB]]
  simp only
  split
  ·
   rfl
  ·
   have L := runL_len (PT.specs k) { ev0 with k := k }
   rw [body_parts]
   cases h : runP (PT.specs k) { ev0 with k := k } r with
   | none =>
    have := L.no _ h
    rw [if_pos (show (evLax k r).2.2 = true from this)]
   | some y =>
    obtain ⟨x, s⟩ := y
    have := L.yes _ _ _ h
    rw [show evLax k r = (x, (s, false)) from this]
    simp
theorem valB_bd {l : List Int} (h : Bts l) : ∀ (k : Nat), l.length ≤ k → 0 ≤ valB l ∧ valB l < 256 ^ k := by
 have gen : ∀ (l : List Int) (a : Int) (m : Int), Bts l → 0 ≤ a → a < m → 0 ≤ l.foldl (fun a x => a * 256 + x) a ∧ l.foldl (fun a x => a * 256 + x) a < m * 256 ^ l.length := by
  intro l
  induction l with
  | nil => intro a m _ h0 h1; simpa using ⟨h0, h1⟩
  | cons x l ih =>
   intro a m hb h0 h1
   have hx := hb x (by simp)
   rw [List.foldl_cons]
   have := ih (a * 256 + x) (m * 256) (fun y hy => hb y (by simp [hy])) (by omega) (by omega)
   rw [List.length_cons, Int.pow_succ, Int.mul_comm (256 ^ l.length) 256, ← Int.mul_assoc]
   exact this
 intro k hk
 have := gen l 0 1 h (by omega) (by omega)
 unfold valB
 refine ⟨this.1, Int.lt_of_lt_of_le this.2 ?_⟩
 rw [Int.one_mul]
 have h2 : (256 : Nat) ^ l.length ≤ 256 ^ k := Nat.pow_le_pow_right (by decide) hk
 have := Int.ofNat_le.2 h2
 simpa using this
theorem Lnum_bts {k : Nat} {s : LS} (h : Bts s.1) : Bts (Lnum k s).2.1 := h.drop _
theorem Lnum_bd {k : Nat} {s : LS} (h : Bts s.1) : 0 ≤ (Lnum k s).1 ∧ (Lnum k s).1 < 256 ^ k := valB_bd (h.take _) k (by simp; omega)
theorem Ltxt_bts {s : LS} (h : Bts s.1) : Bts (Ltxt s).2.1 := (Lnum_bts h).drop _
theorem Ltxt_size {s : LS} (h : Bts s.1) : (Ltxt s).1.size ≤ 255 := by
 have := Lnum_bd (k := 1) h
 show (strOfNums _).size ≤ 255
 rw [strOfNums_size, List.length_take]
 omega
theorem Ltgt_bts {s : LS} (h : Bts s.1) : Bts (Ltgt s).2.1 := Lnum_bts (Ltxt_bts (Ltxt_bts h))
theorem Ltgts_bts {s : LS} (h : Bts s.1) : ∀ n, Bts (Ltgts n s).2.1
 | 0 => h
 | n + 1 => Ltgt_bts (Ltgts_bts h n)
theorem Ltgts_len (s : LS) : ∀ n, (Ltgts n s).1.length = n
 | 0 => rfl
 | n + 1 => by
  show ((Ltgts n s).1 ++ [_]).length = n + 1
  rw [List.length_append, Ltgts_len s n]; rfl
theorem lr_bts {e : EvD} {p : PT} {s : LS} (h : Bts s.1) : Bts (p.lr e s).2.1 := by
 cases p
 ·
  exact Lnum_bts h
 ·
  exact Lnum_bts h
 ·
  exact Ltxt_bts h
 ·
  exact Ltxt_bts h
 ·
  exact Lnum_bts (Lnum_bts (Lnum_bts (Lnum_bts (Lnum_bts (Ltxt_bts h)))))
 ·
  exact Ltgts_bts (Lnum_bts (Lnum_bts (Ltxt_bts (Ltxt_bts h)))) _

/-- How long a piece is: what its length says, or what there is. -/
def pieceN (a b : Int) (r : List Int) : Nat := min (a * 256 + b).toNat r.length
def cutE : List Int → List (List Int)
 | [] => []
 | [x] => [[x]]
 | a :: b :: r => r.take (pieceN a b r) :: cutE (r.drop (pieceN a b r))
termination_by l => l.length
decreasing_by simp; omega
theorem cutE_nil : cutE [] = [] := by unfold cutE; rfl
theorem cutE_one (x : Int) : cutE [x] = [[x]] := by unfold cutE; rfl
theorem cutE_two (a b : Int) (r : List Int) : cutE (a :: b :: r) = r.take (pieceN a b r) :: cutE (r.drop (pieceN a b r)) := by rw [cutE]
theorem cut_len : ∀ (n : Nat) (l : List Int), l.length ≤ n → (cutE l).length ≤ l.length
 | 0, l, hn => by
  obtain rfl := List.eq_nil_of_length_eq_zero (Nat.le_zero.1 hn)
  rw [cutE_nil]; simp
 | n + 1, l, hn => by
  match l, hn with
  | [], _ => rw [cutE_nil]; simp
  | [y], _ => rw [cutE_one]; simp
  | a :: b :: r, hn =>
   rw [cutE_two]
   have := cut_len n (r.drop (pieceN a b r)) (by simp at hn ⊢; omega)
   simp at this ⊢
   omega

def Qtk (n : Nat) (s : LS) : List Int × LS := if s.2 = true ∨ s.1.length < n then ([], (s.1, true)) else (s.1.take n, (s.1.drop n, false))
def Qnum (k : Nat) (s : LS) : Int × LS := (valB (Qtk k s).1, (Qtk k s).2)
def Qtxt (s : LS) : ByteArray × LS := (strOfNums (Qtk (Qnum 1 s).1.toNat (Qnum 1 s).2).1, (Qtk (Qnum 1 s).1.toNat (Qnum 1 s).2).2)
def Qtgt : LS → Tgt × LS := Lmap (fun x => ⟨x.1, x.2.1, x.2.2⟩) (Lseq Qtxt (Lseq Qtxt (Qnum 1)))
def Qtgts : Nat → LS → List Tgt × LS
  | 0, s => ([], s)
  | n + 1, s => if (Qtgts n s).2.2 = true then Qtgts n s else ((Qtgts n s).1 ++ [(Qtgt (Qtgts n s).2).1], (Qtgt (Qtgts n s).2).2)
def Qcfg : LS → Cfg × LS := Lmap (fun x => ⟨x.1, x.2.1, x.2.2.1, x.2.2.2.1, x.2.2.2.2.1, x.2.2.2.2.2⟩) (Lseq Qtxt (Lseq (Qnum 1) (Lseq (Qnum 1) (Lseq (Qnum 1) (Lseq (Qnum 1) (Qnum 1))))))
def Qts (s : LS) : List Tgt × LS := Qtgts (Qnum 1 s).1.toNat (Qnum 1 s).2
def Qrt : LS → (ByteArray × ByteArray × Int × List Tgt) × LS := Lseq Qtxt (Lseq Qtxt (Lseq (Qnum 1) Qts))
theorem qtk_bad (n : Nat) (l : List Int) : Qtk n (l, true) = ([], (l, true)) := by unfold Qtk; rw [if_pos (.inl rfl)]
theorem qtk_lack {n : Nat} {l : List Int} (h : l.length < n) : Qtk n (l, false) = ([], (l, true)) := by unfold Qtk; rw [if_pos (.inr h)]
theorem qtk_some {n : Nat} {l : List Int} (h : n ≤ l.length) : Qtk n (l, false) = (l.take n, (l.drop n, false)) := by
  unfold Qtk
  rw [if_neg (by rintro (h1 | h1); exact absurd h1 (by simp); exact absurd h1 (by simp; omega))]
theorem qnum_len (k : Nat) : Len (numP k) (Qnum k) where
  yes l x r h := by
    unfold numP at h
    cases ht : tk k l with
    | none => rw [ht] at h; cases h
    | some y =>
      obtain ⟨b, r'⟩ := y
      obtain ⟨hn, rfl, rfl⟩ := tk_some ht
      rw [ht] at h
      simp at h
      obtain ⟨rfl, rfl⟩ := h
      unfold Qnum
      rw [qtk_some hn]
  no l h := by
    unfold numP tk at h
    split at h
    · cases h
    · unfold Qnum; rw [qtk_lack (by omega)]
  bad l := by unfold Qnum; rw [qtk_bad]
theorem qtxt_len : Len txtP Qtxt where
  yes l s r h := by
    obtain ⟨n, m, b, h1, h2, rfl⟩ := txtP_some h
    have h3 := (qnum_len 1).yes _ _ _ h1
    obtain ⟨hn, rfl, rfl⟩ := tk_some h2
    unfold Qtxt
    rw [h3, qtk_some hn]
  no l h := by
    unfold txtP at h
    unfold Qtxt
    cases hp : numP 1 l with
    | none =>
      have hb := (qnum_len 1).no _ hp
      generalize Qnum 1 (l, false) = q at *
      obtain ⟨z, m, b⟩ := q
      have hb : b = true := hb
      subst hb
      rw [qtk_bad]
    | some z =>
      obtain ⟨n, m⟩ := z
      rw [hp] at h
      simp only [Option.bind_some, Option.map_eq_none_iff] at h
      have h3 := (qnum_len 1).yes _ _ _ hp
      rw [h3]
      unfold tk at h
      split at h
      · cases h
      · rw [qtk_lack (by omega)]
  bad l := by
    unfold Qtxt
    have hb := (qnum_len 1).bad l
    generalize Qnum 1 (l, true) = q at *
    obtain ⟨z, m, b⟩ := q
    have hb : b = true := hb
    subst hb
    rw [qtk_bad]
theorem qtgt_len : Len tgtP Qtgt := map_len (seq_len qtxt_len (seq_len qtxt_len (qnum_len 1))) _
theorem Qtgts_succ {s : LS} {n : Nat} (h : (Qtgts n s).2.2 = false) : Qtgts (n + 1) s = ((Qtgts n s).1 ++ [(Qtgt (Qtgts n s).2).1], (Qtgt (Qtgts n s).2).2) := by
  conv => lhs; unfold Qtgts
  rw [if_neg (by simp [h])]
theorem Qtgts_halt {s : LS} {n : Nat} (h : (Qtgts n s).2.2 = true) : Qtgts (n + 1) s = Qtgts n s := by
  conv => lhs; unfold Qtgts
  rw [if_pos h]
theorem qtgtN_lens : ∀ n, Len (tgtN n) (Qtgts n)
  | 0 => ⟨fun l x r h => (by cases h; rfl), fun l h => (by cases h), fun l => rfl⟩
  | n + 1 => by
    have ih := qtgtN_lens n
    refine ⟨fun l x r h => ?_, fun l h => ?_, fun l => by rw [Qtgts_halt (ih.bad l)]; exact ih.bad l⟩
    · rw [tgtN_snoc] at h
      cases h1 : tgtN n l with
      | none => rw [h1] at h; cases h
      | some y =>
        obtain ⟨y, m⟩ := y
        rw [h1] at h
        simp only [Option.bind_some] at h
        cases h2 : tgtP m with
        | none => rw [h2] at h; cases h
        | some z =>
          obtain ⟨z, m'⟩ := z
          rw [h2] at h
          cases h
          have e1 := ih.yes _ _ _ h1
          rw [Qtgts_succ (by rw [e1]), e1, qtgt_len.yes _ _ _ h2]
    · rw [tgtN_snoc] at h
      cases h1 : tgtN n l with
      | none => rw [Qtgts_halt (ih.no _ h1)]; exact ih.no _ h1
      | some y =>
        obtain ⟨y, m⟩ := y
        rw [h1] at h
        simp only [Option.bind_some, Option.map_eq_none_iff] at h
        have e1 := ih.yes _ _ _ h1
        have h2 : tgtP m = none := h
        have h3 := qtgt_len.no m h2
        have e2 := Qtgts_succ (s := (l, false)) (n := n) (by rw [e1])
        rw [e1] at e2
        dsimp only at e2
        rw [e2]
        exact h3
theorem qtgts_len : Len tgtsP Qts where
  yes l x r h := by
    obtain ⟨n, m, h1, h2⟩ := tgtsP_some h
    unfold Qts
    rw [(qnum_len 1).yes _ _ _ h1]
    exact (qtgtN_lens _).yes _ _ _ h2
  no l h := by
    unfold tgtsP at h
    unfold Qts
    cases h1 : numP 1 l with
    | none => exact (qtgtN_lens _).bad' _ ((qnum_len 1).no _ h1)
    | some y =>
      obtain ⟨n, m⟩ := y
      rw [h1] at h
      simp only [Option.bind_some] at h
      rw [(qnum_len 1).yes _ _ _ h1]
      exact (qtgtN_lens _).no _ h
  bad l := (qtgtN_lens _).bad' _ ((qnum_len 1).bad l)
theorem qcfg_len : Len cfgP Qcfg := map_len (seq_len qtxt_len (seq_len (qnum_len 1) (seq_len (qnum_len 1) (seq_len (qnum_len 1) (seq_len (qnum_len 1) (qnum_len 1)))))) _
theorem qrt_len : Len rtP Qrt := seq_len qtxt_len (seq_len qtxt_len (seq_len (qnum_len 1) qtgts_len))
def PT.qr (e : EvD) : PT → LS → EvD × LS
  | .n _ _ => Lmap (fun x => { e with n := x }) (Qnum 4)
  | .d _ _ => Lmap (fun x => { e with dr := x }) (Qnum 4)
  | .nm _ => Lmap (fun x => { e with nm := x }) Qtxt
  | .tg => Lmap (fun x => { e with tg := x }) Qtxt
  | .c => Lmap (fun x => { e with c := x }) Qcfg
  | .r => Lmap (fun x => { e with rn := x.1, rc := x.2.1, rr := x.2.2.1, ts := x.2.2.2 }) Qrt
theorem qr_len (e : EvD) (p : PT) : Len (p.pr e) (p.qr e) := by
  cases p
  · exact map_len (qnum_len 4) (fun x => { e with n := x })
  · exact map_len (qnum_len 4) (fun x => { e with dr := x })
  · exact map_len qtxt_len (fun x => { e with nm := x })
  · exact map_len qtxt_len (fun x => { e with tg := x })
  · exact map_len qcfg_len (fun x => { e with c := x })
  · exact map_len qrt_len (fun x => { e with rn := x.1, rc := x.2.1, rr := x.2.2.1, ts := x.2.2.2 })
def runQ : List PT → EvD × LS → EvD × LS := fun ps s => ps.foldl (fun s p => p.qr s.1 s.2) s
theorem runQ_bad : ∀ (ps : List PT) (s : EvD × LS), s.2.2 = true → (runQ ps s).2.2 = true
  | [], s, h => h
  | p :: ps, s, h => by
    unfold runQ
    rw [List.foldl_cons]
    exact runQ_bad ps _ ((qr_len s.1 p).bad' _ h)
theorem runQ_len : ∀ (ps : List PT) (e : EvD), Len (runP ps e) (fun s => runQ ps (e, s))
  | [], e => ⟨fun l x r h => (by cases h; rfl), fun l h => (by cases h), fun l => rfl⟩
  | p :: ps, e => by
    refine ⟨fun l x r h => ?_, fun l h => ?_, fun l => runQ_bad _ _ rfl⟩
    · unfold runP at h
      cases h1 : p.pr e l with
      | none => rw [h1] at h; cases h
      | some y =>
        rw [h1] at h
        simp only [Option.bind_some] at h
        show runQ ps (p.qr e (l, false)) = _
        rw [(qr_len e p).yes _ _ _ h1]
        exact (runQ_len ps y.1).yes _ _ _ h
    · unfold runP at h
      show (runQ ps (p.qr e (l, false))).2.2 = true
      cases h1 : p.pr e l with
      | none => exact runQ_bad _ _ ((qr_len e p).no _ h1)
      | some y =>
        rw [h1] at h
        simp only [Option.bind_some] at h
        rw [(qr_len e p).yes _ _ _ h1]
        exact (runQ_len ps y.1).no _ h
/-- What is read of bytes behind their kind. -/
def evQ (k : Int) (r : List Int) : EvD × LS := runQ (PT.specs k) ({ ev0 with k := k }, (r, false))
theorem parse_q (l : List Int) : evParse l = match l with
    | [] => (ev0, 10)
    | k :: r => if k < 1 ∨ 13 < k then (ev0, 12) else if (evQ k r).2.2 = true then (ev0, 10) else if (evQ k r).2.1 ≠ [] then (ev0, 11)
      else if (evQ k r).1.chk ≠ 0 then (ev0, (evQ k r).1.chk) else ((evQ k r).1, 0) := by
  cases l with
  | nil => rfl
  | cons k r =>
    unfold evParse
    rw [show numP 1 (k :: r) = some (k, r) by simp [numP, tk, valB]]
    simp only
    split
    · rfl
    · have L := runQ_len (PT.specs k) { ev0 with k := k }
      rw [body_parts]
      cases h : runP (PT.specs k) { ev0 with k := k } r with
      | none =>
        have := L.no _ h
        rw [if_pos (show (evQ k r).2.2 = true from this)]
      | some y =>
        obtain ⟨x, s⟩ := y
        have := L.yes _ _ _ h
        rw [show evQ k r = (x, (s, false)) from this]
        simp
theorem Qtk_bts {n : Nat} {s : LS} (h : Bts s.1) : Bts (Qtk n s).1 ∧ Bts (Qtk n s).2.1 := by
  unfold Qtk
  split
  · exact ⟨Bts.nil, h⟩
  · exact ⟨h.take _, h.drop _⟩
theorem Qtk_le (n : Nat) (s : LS) : (Qtk n s).1.length ≤ n := by
  unfold Qtk
  split
  · exact Nat.zero_le _
  · simp; omega
theorem Qnum_bts {k : Nat} {s : LS} (h : Bts s.1) : Bts (Qnum k s).2.1 := (Qtk_bts h).2
theorem Qnum_bd {k : Nat} {s : LS} (h : Bts s.1) : 0 ≤ (Qnum k s).1 ∧ (Qnum k s).1 < 256 ^ k := valB_bd (Qtk_bts h).1 k (Qtk_le _ _)
theorem Qtxt_bts {s : LS} (h : Bts s.1) : Bts (Qtxt s).2.1 := (Qtk_bts (Qnum_bts h)).2
theorem Qtxt_size {s : LS} (h : Bts s.1) : (Qtxt s).1.size ≤ 255 := by
  have := Qnum_bd (k := 1) h
  show (strOfNums _).size ≤ 255
  rw [strOfNums_size]
  have := Qtk_le (Qnum 1 s).1.toNat (Qnum 1 s).2
  omega
theorem Qtgt_bts {s : LS} (h : Bts s.1) : Bts (Qtgt s).2.1 := Qnum_bts (Qtxt_bts (Qtxt_bts h))
theorem Qtgts_bts {s : LS} (h : Bts s.1) : ∀ n, Bts (Qtgts n s).2.1
  | 0 => h
  | n + 1 => by
    unfold Qtgts
    split
    · exact Qtgts_bts h n
    · exact Qtgt_bts (Qtgts_bts h n)
theorem Qtgts_len (s : LS) : ∀ n, (Qtgts n s).1.length ≤ n
  | 0 => Nat.le_refl _
  | n + 1 => by
    unfold Qtgts
    have := Qtgts_len s n
    split
    · omega
    · rw [List.length_append]; simp; omega
theorem Qtgts_stop {s : LS} {n : Nat} (h : (Qtgts n s).2.2 = true) : ∀ m, n ≤ m → Qtgts m s = Qtgts n s
  | 0, hm => by obtain rfl : n = 0 := by omega
                rfl
  | m + 1, hm => by
    rcases Nat.lt_or_ge m n with h1 | h1
    · obtain rfl : n = m + 1 := by omega
      rfl
    · have ih := Qtgts_stop h m h1
      rw [Qtgts_halt (by rw [ih]; exact h), ih]
end Go.Proofs.YtnkekdmikopdgaaGreat

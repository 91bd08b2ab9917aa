/- My own texts Read1, Read2, Read3, Read4, laid in one file. -/
import Derived.Test.YtnkekdmikopdgaaGreatZ5
import Derived.Test.YtnkekdmikopdgaaGreatZ2
import Derived.Test.YtnkekdmikopdgaaGreatZ9
import Derived.Laws.BytesArg
import Derived.Test.YtnkekdmikopdgaaGreatZ4

/- What event's reader takes. -/
namespace Go.Proofs.YtnkekdmikopdgaaGreat
set_option maxRecDepth 100000
set_option linter.unusedVariables false
set_option linter.unusedSimpArgs false
set_option linter.unnecessarySimpa false
open Go.RowKit

/-- Bytes that lie in block sb, at a, with room c. -/
def BySl (w : World) (sb : Nat) (a : Option Addr) (c : Nat) (l : List Int) : Prop :=
 (a = none ∧ l = [] ∧ c = 0) ∨ ∃ off, a = some ⟨sb, off, none⟩ ∧ l.length ≤ c ∧ ∀ i, i < l.length → w.cell? ⟨sb, off + i, none⟩ = some (.int .u8 (l.getD i 0))
def RdAt (w : World) (rb sb : Nat) (s : LS) : Prop := ∃ a c, Blk w rb #[.slice a s.1.length c, .bool s.2] 131 ∧ BySl w sb a c s.1
theorem BySl.chg {w w' : World} {sb : Nat} {a : Option Addr} {c : Nat} {l : List Int} {G : Nat → Prop} (h : BySl w sb a c l) (k : Chg G w w') (hg : ¬ G sb) : BySl w' sb a c l := by
 rcases h with h | ⟨off, h1, h2, h3⟩
 ·
  exact .inl h
 ·
  exact .inr ⟨off, h1, h2, fun i hi => k.cell (h3 i hi) hg⟩
theorem RdAt.chg {w w' : World} {rb sb : Nat} {s : LS} {G : Nat → Prop} (h : RdAt w rb sb s) (k : Chg G w w') (h1 : ¬ G rb) (h2 : ¬ G sb) : RdAt w' rb sb s := by
 obtain ⟨a, c, hb, hs⟩ := h
 exact ⟨a, c, hb.chg k h1, hs.chg k h2⟩
theorem RdAt.grow {w w' : World} {rb sb : Nat} {s : LS} (h : RdAt w rb sb s) (k : Grow.G w w') : RdAt w' rb sb s := h.chg (Chg.grow (G := fun _ => False) k) id id
theorem RdAt.book {w w' : World} {rb sb : Nat} {s : LS} {n : Nat} (h : RdAt w rb sb s) (k : Iter.Book n w w') : RdAt w' rb sb s := by
 obtain ⟨a, c, hb, hs⟩ := h
 refine ⟨a, c, hb.book k, ?_⟩
 rcases hs with h | ⟨off, h1, h2, h3⟩
 ·
  exact .inl h
 ·
  exact .inr ⟨off, h1, h2, fun i hi => k.cell (h3 i hi)⟩
theorem bysl_take {w w' : World} {rb sb off c n : Nat} {l : List Int} (h : ∀ i, i < l.length → w.cell? ⟨sb, off + i, none⟩ = some (.int .u8 (l.getD i 0))) (hc : l.length ≤ c) (k : Chg (fun k => k = rb) w w') (hne : sb ≠ rb) :
  BySl w' sb (some ⟨sb, off, none⟩) c (l.take n) :=
 .inr ⟨off, rfl, by rw [List.length_take]; omega, fun i hi => by
  rw [List.length_take] at hi
  have e : (l.take n).getD i 0 = l.getD i 0 := by simp [List.getD, List.getElem?_take, show i < n by omega]
  rw [e]
  exact k.cell (h i (by omega)) hne⟩
theorem bysl_drop {w w' : World} {rb sb off c n : Nat} {l : List Int} (h : ∀ i, i < l.length → w.cell? ⟨sb, off + i, none⟩ = some (.int .u8 (l.getD i 0))) (hc : l.length ≤ c) (k : Chg (fun k => k = rb) w w') (hne : sb ≠ rb) :
  BySl w' sb (some ⟨sb, off + n, none⟩) (c - n) (l.drop n) :=
 .inr ⟨off + n, rfl, by rw [List.length_drop]; omega, fun i hi => by
  rw [List.length_drop] at hi
  have e : (l.drop n).getD i 0 = l.getD (n + i) 0 := by simp [List.getD, List.getElem?_drop]
  rw [e, Nat.add_assoc]
  exact k.cell (h (n + i) (by omega)) hne⟩
def Took (rb sb : Nat) (s : LS) (n : Nat) (w : World) (e : Ending) (w' : World) : Prop :=
 ∃ a c, e = .returned (.slice a (s.1.take n).length c) ∧ BySl w' sb a c (s.1.take n) ∧ RdAt w' rb sb (s.1.drop n, s.2 || decide (s.1.length < n)) ∧ Chg (fun k => k = rb) w w'
set_option maxHeartbeats 1000000 in
theorem rdtake_in (rb sb off c : Nat) (l : List Int) (lk : Bool) (n : Nat) (w : World) (hb : Blk w rb #[.slice (some ⟨sb, off, none⟩) l.length c, .bool lk] 131) (hc : l.length ≤ c) (hn : n ≤ l.length) (hne : sb ≠ rb)
  (hz : ∀ i, i < l.length → w.cell? ⟨sb, off + i, none⟩ = some (.int .u8 (l.getD i 0))) :
  Calls Tryz.prog 115 #[.pointer (some ⟨rb, 0, none⟩), .int .i64 n] w fun e w' => Took rb sb (l, lk) n w e w' := by
 have HB := Lib.hid hb
 have HZ := Lib.hid hz
 have c0 := hb.cell 0
 have c1 := hb.cell 1
 have f0 := hb.free 0
 have f1 := hb.free 1
 have LT : Hid ((l.take n).length = n) := Lib.hid (by rw [List.length_take]; omega)
 have LD : Hid ((l.drop n).length = l.length - n) := Lib.hid (by rw [List.length_drop])
 have LB : Hid ((lk || decide (l.length < n)) = lk) := Lib.hid (by rw [show decide (l.length < n) = false by simp; omega, Bool.or_false])
 simp at c0 c1
 clear hb hz
 go_enter Tryz.func115, Tryz.ntmps115
 by_cases hcn : c = n
 ·
  subst hcn
  have LZ : Hid (l.drop c = []) := Lib.hid (List.drop_eq_nil_of_le (by omega))
  have LE : Hid (l.length - c = 0) := Lib.hid (by omega)
  go_wp2_with fail
  all_goals
   go_ret
   have CH : ∀ v, Chg (fun k => k = rb) w (w.setCell ⟨rb, 0, none⟩ v) := fun v => Chg.setCell (G := fun k => k = rb) (Chg.refl _ _) (fun _ => rfl) _ _
   refine ⟨some ⟨sb, off, none⟩, c, ?_, bysl_take HZ.out hc (CH _) hne, ⟨some ⟨sb, off, none⟩, 0, ?_, .inr ⟨off, rfl, by simp only [LZ.out]; exact Nat.le_refl _, fun i hi => by simp only [LZ.out] at hi; exact absurd hi (Nat.not_lt_zero _)⟩⟩, CH _⟩
   ·
    show Ending.returned (.slice (some ⟨sb, off, none⟩) c c) = _
    rw [LT.out]
   ·
    simp only [LD.out, LB.out, LE.out]
    exact HB.out.set 0 _
 ·
  go_wp2_with fail
  go_ret
  have CH : ∀ v, Chg (fun k => k = rb) w (w.setCell ⟨rb, 0, none⟩ v) := fun v => Chg.setCell (G := fun k => k = rb) (Chg.refl _ _) (fun _ => rfl) _ _
  refine ⟨some ⟨sb, off, none⟩, c, ?_, bysl_take HZ.out hc (CH _) hne, ⟨some ⟨sb, off + n, none⟩, c - n, ?_, bysl_drop HZ.out hc (CH _) hne⟩, CH _⟩
  ·
   show Ending.returned (.slice (some ⟨sb, off, none⟩) n c) = _
   rw [LT.out]
  ·
   simp only [LD.out, LB.out]
   exact HB.out.set 0 _
set_option maxHeartbeats 1000000 in
theorem rdtake_over (rb sb off c : Nat) (l : List Int) (lk : Bool) (n : Nat) (w : World) (hb : Blk w rb #[.slice (some ⟨sb, off, none⟩) l.length c, .bool lk] 131) (hc : l.length ≤ c) (hn : l.length < n) (hne : sb ≠ rb)
  (hz : ∀ i, i < l.length → w.cell? ⟨sb, off + i, none⟩ = some (.int .u8 (l.getD i 0))) :
  Calls Tryz.prog 115 #[.pointer (some ⟨rb, 0, none⟩), .int .i64 n] w fun e w' => Took rb sb (l, lk) n w e w' := by
 have HB := Lib.hid hb
 have HZ := Lib.hid hz
 have c0 := hb.cell 0
 have c1 := hb.cell 1
 have f0 := hb.free 0
 have f1 := hb.free 1
 have LT : Hid (l.take n = l) := Lib.hid (List.take_of_length_le (by omega))
 have LD : Hid (l.drop n = []) := Lib.hid (List.drop_eq_nil_of_le (by omega))
 have LB : Hid ((lk || decide (l.length < n)) = true) := Lib.hid (by rw [show decide (l.length < n) = true by simp; omega, Bool.or_true])
 have LZ : Hid (l.length - l.length = 0) := Lib.hid (Nat.sub_self _)
 simp at c0 c1
 clear hb hz
 go_enter Tryz.func115, Tryz.ntmps115
 by_cases hcn : c = l.length
 ·
  subst hcn
  go_wp2_with fail
  all_goals
   go_ret
   have CH : ∀ v u, Chg (fun k => k = rb) w ((w.setCell ⟨rb, 1, none⟩ u).setCell ⟨rb, 0, none⟩ v) := fun v u => Chg.setCell (G := fun k => k = rb) (Chg.setCell (G := fun k => k = rb) (Chg.refl _ _) (fun _ => rfl) _ _) (fun _ => rfl) _ _
   refine ⟨some ⟨sb, off, none⟩, l.length, ?_, bysl_take HZ.out hc (CH _ _) hne, ⟨some ⟨sb, off, none⟩, 0, ?_, .inr ⟨off, rfl, by simp only [LD.out]; exact Nat.le_refl _, fun i hi => by simp only [LD.out] at hi; exact absurd hi (Nat.not_lt_zero _)⟩⟩, CH _ _⟩
   ·
    show Ending.returned (.slice (some ⟨sb, off, none⟩) l.length l.length) = _
    rw [LT.out]
   ·
    simp only [LD.out, LB.out]
    exact (HB.out.set 1 _).set 0 _
 ·
  go_wp2_with fail
  go_ret
  have CH : ∀ v u, Chg (fun k => k = rb) w ((w.setCell ⟨rb, 1, none⟩ u).setCell ⟨rb, 0, none⟩ v) := fun v u => Chg.setCell (G := fun k => k = rb) (Chg.setCell (G := fun k => k = rb) (Chg.refl _ _) (fun _ => rfl) _ _) (fun _ => rfl) _ _
  refine ⟨some ⟨sb, off, none⟩, c, ?_, bysl_take HZ.out hc (CH _ _) hne, ⟨some ⟨sb, off + l.length, none⟩, c - l.length, ?_, .inr ⟨off + l.length, rfl, by simp only [LD.out]; exact Nat.zero_le _, fun i hi => by simp only [LD.out] at hi; exact absurd hi (Nat.not_lt_zero _)⟩⟩, CH _ _⟩
  ·
   show Ending.returned (.slice (some ⟨sb, off, none⟩) l.length c) = _
   rw [LT.out]
  ·
   simp only [LD.out, LB.out]
   have := (HB.out.set 1 (.bool true)).set 0 (.slice (some ⟨sb, off + l.length, none⟩) (l.length - l.length) (c - l.length))
   rw [LZ.out] at this
   exact this
set_option maxHeartbeats 1000000 in
theorem rdtake_nil (rb sb : Nat) (lk : Bool) (n : Nat) (w : World) (hb : Blk w rb #[.slice none 0 0, .bool lk] 131) :
  Calls Tryz.prog 115 #[.pointer (some ⟨rb, 0, none⟩), .int .i64 n] w fun e w' => Took rb sb ([], lk) n w e w' := by
 have HB := Lib.hid hb
 have c0 := hb.cell 0
 have c1 := hb.cell 1
 have f0 := hb.free 0
 have f1 := hb.free 1
 have TN : Hid (([] : List Int).take n = []) := Lib.hid List.take_nil
 have DN : Hid (([] : List Int).drop n = []) := Lib.hid List.drop_nil
 simp at c0 c1
 clear hb
 by_cases h0 : n = 0
 ·
  subst h0
  go_enter Tryz.func115, Tryz.ntmps115
  go_wp2_with fail
  go_ret
  refine ⟨none, 0, rfl, .inl ⟨rfl, rfl, rfl⟩, ⟨none, 0, ?_, .inl ⟨rfl, rfl, rfl⟩⟩, Chg.setCell (G := fun k => k = rb) (Chg.refl _ _) (fun _ => rfl) _ _⟩
  have := HB.out.set 0 (.slice none 0 0)
  simpa using this
 ·
  have hp : 0 < n := by omega
  have LB : Hid ((lk || decide (([] : List Int).length < n)) = true) := Lib.hid (by simp; exact .inr hp)
  go_enter Tryz.func115, Tryz.ntmps115
  go_wp2_with fail
  go_ret
  refine ⟨none, 0, ?_, .inl ⟨rfl, TN.out, rfl⟩, ⟨none, 0, ?_, .inl ⟨rfl, DN.out, rfl⟩⟩, Chg.setCell (G := fun k => k = rb) (Chg.setCell (G := fun k => k = rb) (Chg.refl _ _) (fun _ => rfl) _ _) (fun _ => rfl) _ _⟩
  ·
   rw [TN.out]; rfl
  ·
   simp only [DN.out, LB.out]
   exact (HB.out.set 1 _).set 0 _
theorem rd_take (rb sb : Nat) (s : LS) (n : Nat) (w : World) (hr : RdAt w rb sb s) (hne : sb ≠ rb) :
  Calls Tryz.prog 115 #[.pointer (some ⟨rb, 0, none⟩), .int .i64 n] w fun e w' => Took rb sb s n w e w' := by
 obtain ⟨l, lk⟩ := s
 obtain ⟨a, c, hb, hs⟩ := hr
 rcases hs with ⟨rfl, h, rfl⟩ | ⟨off, rfl, hc, hz⟩
 ·
  dsimp only at h
  subst h
  exact rdtake_nil rb sb lk n w hb
 ·
  rcases Nat.lt_or_ge l.length n with h | h
  ·
   exact rdtake_over rb sb off c l lk n w hb hc h hne hz
  ·
   exact rdtake_in rb sb off c l lk n w hb hc h hne hz

def endE (s : LS) : Int := if s.2 then 10 else if s.1 = [] then 0 else 11
theorem rdend_any (rb sb : Nat) (s : LS) (w : World) (hr : RdAt w rb sb s) :
  Calls Tryz.prog 76 #[.pointer (some ⟨rb, 0, none⟩)] w fun e w' => e = .returned (.int .i64 (endE s)) ∧ w = w' := by
 obtain ⟨l, lk⟩ := s
 obtain ⟨a, c, hb, hs⟩ := hr
 dsimp only at hb hs
 have c0 := hb.cell 0
 have c1 := hb.cell 1
 simp at c0 c1
 have U := Lib.hid (fun b w => eunless_any b 11 w)
 clear hb hs
 cases lk
 ·
  have E : Hid (endE (l, false) = unl (decide (l.length = 0)) 11) := Lib.hid (by
   unfold endE unl
   cases l <;> simp)
  generalize endE (l, false) = z at *
  by_cases h : l.length = 0
  ·
   go_enter Tryz.func76, Tryz.ntmps76
   go_wp2_with fail
   refine (U.out true _).mono ?_
   rintro e wx ⟨rfl, rfl⟩
   go_wp2_with fail
   go_ret
   exact ⟨ret_i64 (by rw [E.out, show decide (l.length = 0) = true by simpa using h]), rfl⟩
  ·
   have h' : ((l.length : Int) == 0) = false := by rw [beq_eq_false_iff_ne]; omega
   go_enter Tryz.func76, Tryz.ntmps76
   go_wp2_with fail
   refine (U.out false _).mono ?_
   rintro e wx ⟨rfl, rfl⟩
   go_wp2_with fail
   go_ret
   exact ⟨ret_i64 (by rw [E.out, show decide (l.length = 0) = false by simpa using h]), rfl⟩
 ·
  go_enter Tryz.func76, Tryz.ntmps76
  go_wp2_with fail
  go_ret
  exact ⟨rfl, rfl⟩
theorem or_byte {n b : Int} (h0 : 0 ≤ n) (h1 : n < 1099511627776) (h2 : 0 ≤ b) (h3 : b < 256) : bits .or .i64 (n * 256) b = n * 256 + b := by
 obtain ⟨n, rfl⟩ := Int.eq_ofNat_of_zero_le h0
 obtain ⟨b, rfl⟩ := Int.eq_ofNat_of_zero_le h2
 have h1' : n < 1099511627776 := by omega
 have h3' : b < 256 := by omega
 have e : n * 256 ||| b = n * 256 + b := by
  have := Nat.shiftLeft_add_eq_or_of_lt (i := 8) (show b < 2 ^ 8 by omega) n
  rw [Nat.shiftLeft_eq] at this
  exact this.symm
 unfold bits
 simp only
 rw [show ((n : Int) * 256) = ((n * 256 : Nat) : Int) by push_cast; rfl]
 rw [BitVec.ofInt_natCast, BitVec.ofInt_natCast, BitVec.toNat_or, BitVec.toNat_ofNat, BitVec.toNat_ofNat]
 have b1 : IntKind.i64.bits = 64 := rfl
 rw [b1, Nat.mod_eq_of_lt (by omega), Nat.mod_eq_of_lt (by omega), e]
 rw [IntWalk.i64_in _ (by omega)]
 exact Int.natCast_add _ _
theorem cv_bytes {w : World} {sb : Nat} {a : Option Addr} {c : Nat} {zs : List Int} (h : BySl w sb a c zs) : (convert 41 9 (.slice a zs.length c)).run Tryz.prog w = .ok (.string (strOfNums zs)) w := by
 rcases h with ⟨rfl, rfl, rfl⟩ | ⟨off, rfl, hc, hz⟩
 ·
  exact run_convert_bytes_nil w _ _ Tryz.underlying41 Tryz.underlying5 0 0 _ Tryz.underlying9
 ·
  exact run_convert_bytes_arg w _ _ Tryz.underlying41 Tryz.underlying5 sb off zs.length c zs rfl hz _ Tryz.underlying9
theorem valB_snoc (l : List Int) (x : Int) : valB (l ++ [x]) = valB l * 256 + x := by unfold valB; rw [List.foldl_append]; rfl
theorem take_snocI (l : List Int) (i : Nat) (h : i < l.length) : l.take (i + 1) = l.take i ++ [l.getD i 0] := by
 rw [List.take_succ_eq_append_getElem h]; simp [List.getD, h]
set_option maxHeartbeats 1000000 in
theorem rdnum_any (rb sb : Nat) (s : LS) (n : Nat) (w : World) (hr : RdAt w rb sb s) (hne : sb ≠ rb) (hn : n ≤ 4) (hbt : Bts s.1) :
  Calls Tryz.prog 104 #[.pointer (some ⟨rb, 0, none⟩), .int .i64 n] w fun e w' => e = .returned (.int .i64 (Lnum n s).1) ∧ RdAt w' rb sb (Lnum n s).2 ∧ Chg (fun k => k = rb) w w' := by
 have T := Lib.hid (rd_take rb sb s n w hr hne)
 have V : Hid ((Lnum n s).1 = valB (s.1.take n)) := Lib.hid rfl
 have HB := Lib.hid (hbt.take n)
 have LL : (s.1.take n).length ≤ 4 := by rw [List.length_take]; omega
 have R2 : Hid ((Lnum n s).2 = (s.1.drop n, s.2 || decide (s.1.length < n))) := Lib.hid rfl
 generalize (Lnum n s).1 = z at *
 generalize (Lnum n s).2 = s2 at *
 clear hr hbt
 go_enter Tryz.func104, Tryz.ntmps104
 go_wp2_with fail
 refine T.out.mono ?_
 rintro e w1 ⟨a, c, rfl, hs, hr, hch⟩
 rw [← R2.out] at hr
 have HR := Lib.hid (And.intro hr hch)
 clear hr hch T R2
 generalize s.1.take n = zs at *
 have HS := Lib.hid hs
 clear hs
 go_wp2_with fail
 go_loop [5, 7, 12] (fun v _ ii => ∃ i : Nat, i ≤ zs.length ∧ ii = .int .i64 i ∧ v = .int .i64 (valB (zs.take i))) (fun _ _ ii => zs.length - (intOf ii).toNat)
 case atStart => exact ⟨0, by omega, rfl, rfl⟩
 case round =>
  obtain ⟨i, hi, rfl, rfl⟩ := hrel
  by_cases hlt : i < zs.length
  ·
   have hv := valB_bd (HB.out.take i) i (by rw [List.length_take]; omega)
   have hp : (256 : Int) ^ i ≤ 16777216 := by
    have : i = 0 ∨ i = 1 ∨ i = 2 ∨ i = 3 := by omega
    rcases this with rfl | rfl | rfl | rfl <;> decide
   have hx := HB.out (zs.getD i 0) (by simp [List.getD, hlt])
   have SN : Hid (valB (zs.take (i + 1)) = valB (zs.take i) * 256 + zs.getD i 0) := Lib.hid (by rw [take_snocI zs i hlt, valB_snoc])
   rcases HS.out with ⟨_, h, _⟩ | ⟨off, rfl, hc, hz⟩
   ·
    rw [h] at hlt; exact absurd hlt (Nat.not_lt_zero _)
   have cz := hz i hlt
   clear hz
   generalize zs.getD i 0 = x at *
   generalize valB (zs.take i) = v at *
   have v0 := hv.1
   have v1 : v < 16777216 := by omega
   have x0 := hx.1
   have x1 := hx.2
   have OR := or_byte v0 (by omega) x0 x1
   clear hv hp hx
   go_wp2_with fail
   go_round
   case rel => exact ⟨i + 1, by omega, by go_num, by rw [SN.out]⟩
   case measure => simp [intOf]; omega
  ·
   obtain rfl : i = zs.length := by omega
   have E := Lib.hid V.out.symm
   go_wp2_with fail
   go_ret
   exact ⟨ret_i64 E.out, HR.out.1, HR.out.2⟩
set_option maxHeartbeats 1000000 in
theorem rdtxt_any (rb sb : Nat) (s : LS) (w : World) (hr : RdAt w rb sb s) (hne : sb ≠ rb) (hbt : Bts s.1) :
  Calls Tryz.prog 111 #[.pointer (some ⟨rb, 0, none⟩)] w fun e w' => e = .returned (.string (Ltxt s).1) ∧ RdAt w' rb sb (Ltxt s).2 ∧ Chg (fun k => k = rb) w w' := by
 have T := Lib.hid (rdnum_any rb sb s 1 w hr hne (by decide) hbt)
 have V : Hid ((Ltxt s).1 = strOfNums ((Lnum 1 s).2.1.take (Lnum 1 s).1.toNat)) := Lib.hid rfl
 have R2 : Hid ((Ltxt s).2 = ((Lnum 1 s).2.1.drop (Lnum 1 s).1.toNat, (Lnum 1 s).2.2 || decide ((Lnum 1 s).2.1.length < (Lnum 1 s).1.toNat))) := Lib.hid rfl
 have HB := Lib.hid (Lnum_bts (k := 1) hbt)
 have NB := Lnum_bd (k := 1) hbt
 have NN : Hid ((Lnum 1 s).1 = ((Lnum 1 s).1.toNat : Int)) := Lib.hid (Int.toNat_of_nonneg NB.1).symm
 generalize (Ltxt s).1 = z at *
 generalize (Ltxt s).2 = s3 at *
 generalize (Lnum 1 s).1.toNat = n at *
 generalize (Lnum 1 s).1 = n' at *
 generalize (Lnum 1 s).2 = s2 at *
 obtain rfl := NN.out
 clear hr hbt NN
 go_enter Tryz.func111, Tryz.ntmps111
 go_wp2_with fail
 refine T.out.mono ?_
 rintro e w1 ⟨rfl, hr, hch⟩
 have T2 := Lib.hid (rd_take rb sb s2 n w1 hr hne)
 have C1 := Lib.hid hch
 clear hr hch T
 go_wp2_with fail
 refine T2.out.mono ?_
 rintro e w2 ⟨a, c, rfl, hs, hr, hch⟩
 rw [← R2.out] at hr
 have HR := Lib.hid (And.intro hr (Chg.trans C1.out hch))
 have HT := Lib.hid (HB.out.take n)
 clear hr hch T2 R2 C1 HB
 generalize s2.1.take n = zs at *
 have cv := cv_bytes hs
 clear hs
 go_wp2_with fail
 go_ret
 exact ⟨congrArg (fun v => Ending.returned (.string v)) V.out.symm, HR.out.1, HR.out.2⟩

theorem RdAt.lt {w : World} {rb sb : Nat} {s : LS} (h : RdAt w rb sb s) : rb < w.heap.size := by
 obtain ⟨a, c, hb, _⟩ := h
 exact hb.lt
set_option maxHeartbeats 1000000 in
theorem rdcfg_any (rb sb : Nat) (s : LS) (w : World) (hr : RdAt w rb sb s) (hne : sb ≠ rb) (hsb : sb < w.heap.size) (hbt : Bts s.1) :
  Calls Tryz.prog 92 #[.pointer (some ⟨rb, 0, none⟩)] w fun e w' => e = .returned (Lcfg s).1.v ∧ RdAt w' rb sb (Lcfg s).2 ∧ Chg (fun k => k = rb) w w' := by
 have hlt := hr.lt
 obtain ⟨s1, h1⟩ : ∃ s1, (Ltxt s).2 = s1 := ⟨_, rfl⟩
 obtain ⟨s2, h2⟩ : ∃ s2, (Lnum 1 s1).2 = s2 := ⟨_, rfl⟩
 obtain ⟨s3, h3⟩ : ∃ s3, (Lnum 1 s2).2 = s3 := ⟨_, rfl⟩
 obtain ⟨s4, h4⟩ : ∃ s4, (Lnum 1 s3).2 = s4 := ⟨_, rfl⟩
 obtain ⟨s5, h5⟩ : ∃ s5, (Lnum 1 s4).2 = s5 := ⟨_, rfl⟩
 obtain ⟨s6, h6⟩ : ∃ s6, (Lnum 1 s5).2 = s6 := ⟨_, rfl⟩
 have b1 : Bts s1.1 := h1 ▸ Ltxt_bts hbt
 have b2 : Bts s2.1 := h2 ▸ Lnum_bts b1
 have b3 : Bts s3.1 := h3 ▸ Lnum_bts b2
 have b4 : Bts s4.1 := h4 ▸ Lnum_bts b3
 have b5 : Bts s5.1 := h5 ▸ Lnum_bts b4
 have b6 : Bts s6.1 := h6 ▸ Lnum_bts b5
 have E : Hid (Lcfg s = (⟨(Ltxt s).1, (Lnum 1 s1).1, (Lnum 1 s2).1, (Lnum 1 s3).1, (Lnum 1 s4).1, (Lnum 1 s5).1⟩, s6)) := Lib.hid (by subst h6 h5 h4 h3 h2 h1; rfl)
 generalize Lcfg s = z at *
 have T0 := Lib.hid (fun w hr => rdtxt_any rb sb s w hr hne hbt)
 rw [h1] at T0
 generalize (Ltxt s).1 = v0 at *
 have T1 := Lib.hid (fun w hr => rdnum_any rb sb s1 1 w hr hne (by decide) b1)
 rw [h2] at T1
 generalize (Lnum 1 s1).1 = v1 at *
 have T2 := Lib.hid (fun w hr => rdnum_any rb sb s2 1 w hr hne (by decide) b2)
 rw [h3] at T2
 generalize (Lnum 1 s2).1 = v2 at *
 have T3 := Lib.hid (fun w hr => rdnum_any rb sb s3 1 w hr hne (by decide) b3)
 rw [h4] at T3
 generalize (Lnum 1 s3).1 = v3 at *
 have T4 := Lib.hid (fun w hr => rdnum_any rb sb s4 1 w hr hne (by decide) b4)
 rw [h5] at T4
 generalize (Lnum 1 s4).1 = v4 at *
 have T5 := Lib.hid (fun w hr => rdnum_any rb sb s5 1 w hr hne (by decide) b5)
 rw [h6] at T5
 generalize (Lnum 1 s5).1 = v5 at *
 have HR := Lib.hid hr
 clear hr hbt b1 b2 b3 b4 b5 b6 h1 h2 h3 h4 h5 h6
 go_enter Tryz.func92, Tryz.ntmps92
 go_wp2_with fail
 have G0 : Grow.G w (w.alloc (.cells #[.string ⟨#[]⟩, .int .i64 0, .int .i64 0, .int .i64 0, .int .i64 0, .int .i64 0] 23)) := Grow.G.alloc (Grow.G.refl _) _
 have B0 := Lib.hid (Blk.new w #[.string ⟨#[]⟩, .int .i64 0, .int .i64 0, .int .i64 0, .int .i64 0, .int .i64 0] 23)
 refine (T0.out _ (HR.out.grow G0)).mono ?_
 rintro e w1 ⟨rfl, r1, c1⟩
 have D1 := Lib.hid (And.intro r1 c1)
 clear r1 c1 T0 HR
 go_wp2_with fail
 refine (T1.out _ D1.out.1).mono ?_
 rintro e w2 ⟨rfl, r1, c1⟩
 have D2 := Lib.hid (And.intro r1 (Chg.trans D1.out.2 c1))
 clear r1 c1 T1 D1
 go_wp2_with fail
 refine (T2.out _ D2.out.1).mono ?_
 rintro e w3 ⟨rfl, r1, c1⟩
 have D3 := Lib.hid (And.intro r1 (Chg.trans D2.out.2 c1))
 clear r1 c1 T2 D2
 go_wp2_with fail
 refine (T3.out _ D3.out.1).mono ?_
 rintro e w4 ⟨rfl, r1, c1⟩
 have D4 := Lib.hid (And.intro r1 (Chg.trans D3.out.2 c1))
 clear r1 c1 T3 D3
 go_wp2_with fail
 refine (T4.out _ D4.out.1).mono ?_
 rintro e w5 ⟨rfl, r1, c1⟩
 have D5 := Lib.hid (And.intro r1 (Chg.trans D4.out.2 c1))
 clear r1 c1 T4 D4
 go_wp2_with fail
 refine (T5.out _ D5.out.1).mono ?_
 rintro e w6 ⟨rfl, r1, c1⟩
 have D6 := Lib.hid (And.intro r1 (Chg.trans D5.out.2 c1))
 clear r1 c1 T5 D5
 have nb : ¬ w.heap.size = rb := by omega
 have B6 := B0.out.chg D6.out.2 nb
 have l6 := B6.lt
 have e0 := (B6.cell 0)
 have f0 := B6.free 0
 have e1 := (B6.cell 1)
 have f1 := B6.free 1
 have e2 := (B6.cell 2)
 have f2 := B6.free 2
 have e3 := (B6.cell 3)
 have f3 := B6.free 3
 have e4 := (B6.cell 4)
 have f4 := B6.free 4
 have e5 := (B6.cell 5)
 have f5 := B6.free 5
 simp at e0 e1 e2 e3 e4 e5
 have D := Lib.hid D6.out
 have BF := Lib.hid ((((((B6.set 0 (.string v0)).set 1 (.int .i64 v1)).set 2 (.int .i64 v2)).set 3 (.int .i64 v3)).set 4 (.int .i64 v4)).set 5 (.int .i64 v5))
 clear D6 B6 B0
 go_wp2_with fail
 have B7 := BF.out
 have CS : Chg (fun k => k = w.heap.size) w6 _ := (Chg.setCell (G := fun k => k = w.heap.size) (Chg.setCell (G := fun k => k = w.heap.size) (Chg.setCell (G := fun k => k = w.heap.size) (Chg.setCell (G := fun k => k = w.heap.size) (Chg.setCell (G := fun k => k = w.heap.size) (Chg.setCell (G := fun k => k = w.heap.size) (Chg.refl _ _) (fun _ => rfl) 0 (.string v0)) (fun _ => rfl) 1 (.int .i64 v1)) (fun _ => rfl) 2 (.int .i64 v2)) (fun _ => rfl) 3 (.int .i64 v3)) (fun _ => rfl) 4 (.int .i64 v4)) (fun _ => rfl) 5 (.int .i64 v5))
 have CH := Chg.join (Chg.trans (Chg.grow (G := fun k => k = rb) G0) D.out.2) CS (fun i hi e => by omega)
 have RZ := D.out.1.chg CS (fun e => by omega) (fun e => by omega)
 refine bodyPost_ret (v := .agg #[.string v0, .int .i64 v1, .int .i64 v2, .int .i64 v3, .int .i64 v4, .int .i64 v5]) (by simp [results, Tryz.results92, go_sem, B7.cell]) rfl ⟨?_, ?_, CH⟩
 ·
  rw [E.out]; rfl
 ·
  rw [E.out]; exact RZ

theorem TgtSl.chg {w w' : World} {a : Option Addr} {ts : List Tgt} {G : Nat → Prop} (h : TgtSl w a ts) (k : Chg G w w') (hg : ∀ b off, a = some ⟨b, off, none⟩ → ¬ G b) : TgtSl w' a ts :=
 h.imp id fun ⟨b, off, ha, hc⟩ => ⟨b, off, ha, fun i hi => ⟨k.cell (hc i hi).c0 (hg b off ha), k.cell (hc i hi).c1 (hg b off ha), k.cell (hc i hi).c2 (hg b off ha)⟩⟩
/-- Targets that a call has laid out by itself. -/
def OwnTs (w : World) (base : Nat) (v : Value) (ts : List Tgt) : Prop := w.ownsRow base 39 3 v ts.length (flatT ts)
theorem OwnTs.tgts {w : World} {base n c : Nat} {a : Option Addr} {ts : List Tgt} (h : OwnTs w base (.slice a n c) ts) : TgtSl w a ts ∧ ∀ b off, a = some ⟨b, off, none⟩ → base ≤ b ∧ b < w.heap.size := by
 rcases h.2 with ⟨h0, h1⟩ | ⟨g, cap, cur, hv, hb, hg, rest⟩
 ·
  cases h0
  exact ⟨.inl (List.eq_nil_of_length_eq_zero h1), fun b off e => (by cases e)⟩
 ·
  injection hv with e1 e2 e3
  subst e1 e2 e3
  have := own_tgts h
  exact ⟨this.2.1, fun b off e => (by cases e; exact ⟨hb, this.2.2.2.2⟩)⟩
theorem flatT_snoc (ts : List Tgt) (t : Tgt) : flatT (ts ++ [t]) = flatT ts ++ [.string t.rv, .string t.tg, .int .i64 t.pc] := by unfold flatT; rw [List.flatMap_append]; rfl
theorem evd {w : World} {g : Nat} {cs : Array Value} {T : TypeId} (h : Blk w g cs T) {i : Nat} {v : Value} (hv : cs[i]? = some v) : w.cell? ⟨g, i, none⟩ = some v := (h.cell i).trans hv
theorem run_tgt : ∀ (s : LS) (n : Nat), Ltgts (n + 1) s = ((Ltgts n s).1 ++ [⟨(Ltxt (Ltgts n s).2).1, (Ltxt (Ltxt (Ltgts n s).2).2).1, (Lnum 1 (Ltxt (Ltxt (Ltgts n s).2).2).2).1⟩], (Lnum 1 (Ltxt (Ltxt (Ltgts n s).2).2).2).2) := fun s n => rfl
set_option maxHeartbeats 4000000 in
theorem rdrt_any (rb sb : Nat) (s : LS) (w : World) (hr : RdAt w rb sb s) (hne : sb ≠ rb) (hsb : sb < w.heap.size) (hbt : Bts s.1) :
  Calls Tryz.prog 99 #[.pointer (some ⟨rb, 0, none⟩)] w fun e w' => ∃ a c, e = .returned (.agg #[.string (Lrt s).1.1, .string (Lrt s).1.2.1, .slice a (Lrt s).1.2.2.2.length c, .int .i64 (Lrt s).1.2.2.1]) ∧ OwnTs w' w.heap.size (.slice a (Lrt s).1.2.2.2.length c) (Lrt s).1.2.2.2 ∧ RdAt w' rb sb (Lrt s).2 ∧ Chg (fun k => k = rb) w w' := by
 have hlt := hr.lt
 obtain ⟨s1, h1⟩ : ∃ s1, (Ltxt s).2 = s1 := ⟨_, rfl⟩
 obtain ⟨s2, h2⟩ : ∃ s2, (Ltxt s1).2 = s2 := ⟨_, rfl⟩
 obtain ⟨s3, h3⟩ : ∃ s3, (Lnum 1 s2).2 = s3 := ⟨_, rfl⟩
 obtain ⟨s4, h4⟩ : ∃ s4, (Lnum 1 s3).2 = s4 := ⟨_, rfl⟩
 have b1 : Bts s1.1 := h1 ▸ Ltxt_bts hbt
 have b2 : Bts s2.1 := h2 ▸ Ltxt_bts b1
 have b3 : Bts s3.1 := h3 ▸ Lnum_bts b2
 have b4 : Bts s4.1 := h4 ▸ Lnum_bts b3
 have nb := Lnum_bd (k := 1) b3
 have NN : Hid ((Lnum 1 s3).1 = ((Lnum 1 s3).1.toNat : Int)) := Lib.hid (Int.toNat_of_nonneg nb.1).symm
 have E : Hid (Lrt s = (((Ltxt s).1, (Ltxt s1).1, (Lnum 1 s2).1, (Ltgts (Lnum 1 s3).1.toNat s4).1), (Ltgts (Lnum 1 s3).1.toNat s4).2)) := Lib.hid (by subst h4 h3 h2 h1; rfl)
 generalize Lrt s = z at *
 have T0 := Lib.hid (fun w hr => rdtxt_any rb sb s w hr hne hbt)
 rw [h1] at T0
 have T1 := Lib.hid (fun w hr => rdtxt_any rb sb s1 w hr hne b1)
 rw [h2] at T1
 have T2 := Lib.hid (fun w hr => rdnum_any rb sb s2 1 w hr hne (by decide) b2)
 rw [h3] at T2
 have T3 := Lib.hid (fun w hr => rdnum_any rb sb s3 1 w hr hne (by decide) b3)
 rw [h4] at T3
 generalize (Ltxt s).1 = rn at *
 generalize (Ltxt s1).1 = rc at *
 generalize (Lnum 1 s2).1 = rr at *
 generalize (Lnum 1 s3).1.toNat = n at *
 generalize (Lnum 1 s3).1 = n' at *
 obtain rfl := NN.out
 have BT := Lib.hid (fun k => Ltgts_bts b4 k)
 have LN := Lib.hid (fun k => Ltgts_len s4 k)
 have hn : n ≤ 255 := by omega
 have HR := Lib.hid hr
 clear hr hbt b1 b2 b3 b4 h1 h2 h3 h4 nb NN
 go_enter Tryz.func99, Tryz.ntmps99
 go_wp2_with fail
 have G0 : Grow.G w (w.alloc (.cells #[.string ⟨#[]⟩, .string ⟨#[]⟩, .slice none 0 0, .int .i64 0] 26)) := Grow.G.alloc (Grow.G.refl _) _
 have B0 := Lib.hid (Blk.new w #[.string ⟨#[]⟩, .string ⟨#[]⟩, .slice none 0 0, .int .i64 0] 26)
 refine (T0.out _ (HR.out.grow G0)).mono ?_
 rintro e w1 ⟨rfl, r1, c1⟩
 have D1 := Lib.hid (And.intro r1 c1)
 clear r1 c1 T0 HR
 go_wp2_with fail
 refine (T1.out _ D1.out.1).mono ?_
 rintro e w2 ⟨rfl, r1, c1⟩
 have D2 := Lib.hid (And.intro r1 (Chg.trans D1.out.2 c1))
 clear r1 c1 T1 D1
 go_wp2_with fail
 refine (T2.out _ D2.out.1).mono ?_
 rintro e w3 ⟨rfl, r1, c1⟩
 have D3 := Lib.hid (And.intro r1 (Chg.trans D2.out.2 c1))
 clear r1 c1 T2 D2
 go_wp2_with fail
 have D4 := Lib.hid (And.intro (D3.out.1.grow (show Grow.G w3 (w3.alloc (.cells #[.string rn, .string rc, .slice none 0 0, .int .i64 rr] 26)) from Grow.G.alloc (Grow.G.refl _) _)) (And.intro (Blk.new w3 #[.string rn, .string rc, .slice none 0 0, .int .i64 rr] 26) (Chg.alloc (Chg.trans (Chg.grow G0) D3.out.2) (.cells #[.string rn, .string rc, .slice none 0 0, .int .i64 rr] 26))))
 have st : w.heap.size < w3.heap.size := by have := D3.out.2.size; simp at this; omega
 have BR3 := Lib.hid ((B0.out.chg D3.out.2 (fun e => by omega)).alloc (.cells #[.string rn, .string rc, .slice none 0 0, .int .i64 rr] 26))
 refine (T3.out _ D4.out.1).mono ?_
 rintro e w5 ⟨rfl, r1, c1⟩
 have D5 := Lib.hid (And.intro r1 (And.intro (D4.out.2.1.chg c1 (fun e => by omega)) (And.intro (BR3.out.chg c1 (fun e => by omega)) (Chg.trans D4.out.2.2 c1))))
 clear r1 c1 T3 D4 D3 BR3 B0
 go_wp2_with fail
 generalize w3.heap.size = tb at *
 clear G0
 go_loopw [13] (fun ii wr => ∃ i : Nat, i ≤ n ∧ ii = .int .i64 i ∧ Hid (∃ a c, Blk wr tb #[.string rn, .string rc, .slice a i c, .int .i64 rr] 26 ∧ OwnTs wr (tb + 1) (.slice a i c) (Ltgts i s4).1 ∧ RdAt wr rb sb (Ltgts i s4).2 ∧ Blk wr w.heap.size #[.string ⟨#[]⟩, .string ⟨#[]⟩, .slice none 0 0, .int .i64 0] 26 ∧ Chg (fun k => k = rb) w wr)) (fun ii _ => n - (intOf ii).toNat)
 case atStart => exact ⟨0, by omega, rfl, Lib.hid ⟨none, 0, D5.out.2.1, ⟨rfl, .inl ⟨rfl, rfl⟩⟩, D5.out.1, D5.out.2.2.1, D5.out.2.2.2⟩⟩
 case round =>
  obtain ⟨i, hi, rfl, OI⟩ := hrel
  by_cases hlt2 : i < n
  ·
   obtain ⟨a, c, bt, ow, rd, br, ch⟩ := OI.out
   have sr := ch.size
   have tl := bt.lt
   have NRB : ∀ k, (Value.slice a i c).ownBlock = some k → ¬ k = rb := fun k hk e => by have := (ow.lt k hk).1; omega
   have NTB : ¬ (tb = rb ∨ (Value.slice a i c).ownBlock = some tb) := fun e => by
    rcases e with e | e
    ·
     omega
    ·
     have := (ow.lt tb e).1; omega
   have NWB : ¬ (w.heap.size = rb ∨ (Value.slice a i c).ownBlock = some w.heap.size) := fun e => by
    rcases e with e | e
    ·
     omega
    ·
     have := (ow.lt _ e).1; omega
   have NT := Lib.hid (And.intro NTB NWB)
   have KC := Lib.hid (fun (w' : World) (h : Chg (fun k => k = rb ∨ (Value.slice a i c).ownBlock = some k) wr w') => (⟨h.cell (evd bt (i := 2) rfl) NTB, trivial⟩ : w'.cell? ⟨tb, 2, none⟩ = some (.slice a i c) ∧ True))
   have HB1 := Lib.hid (BT.out i)
   have TN := Lib.hid (run_tgt s4 i)
   have LL := Lib.hid (LN.out i)
   have LL1 := Lib.hid (LN.out (i + 1))
   generalize Ltgts i s4 = x at *
   obtain ⟨ts, q0⟩ := x
   dsimp only at *
   have hb1 : Bts (Ltxt q0).2.1 := Ltxt_bts HB1.out
   have hb2 : Bts (Ltxt (Ltxt q0).2).2.1 := Ltxt_bts hb1
   have X0 := Lib.hid (fun w hr => rdtxt_any rb sb q0 w hr hne HB1.out)
   have X1 := Lib.hid (fun w hr => rdtxt_any rb sb (Ltxt q0).2 w hr hne hb1)
   have X2 := Lib.hid (fun w hr => rdnum_any rb sb (Ltxt (Ltxt q0).2).2 1 w hr hne (by decide) hb2)
   clear hb1 hb2
   generalize (Ltxt q0).1 = u0 at *
   generalize (Ltxt q0).2 = q1 at *
   generalize (Ltxt q1).1 = u1 at *
   generalize (Ltxt q1).2 = q2 at *
   generalize (Lnum 1 q2).1 = u2 at *
   generalize (Lnum 1 q2).2 = q3 at *
   obtain ⟨i0, hi, hz0, hz1, hz2⟩ := info_parts infoT
   have HI := Lib.hid hi; have HZ0 := Lib.hid hz0; have HZ1 := Lib.hid hz1; have HZ2 := Lib.hid hz2
   have HB := Lib.hid bt
   have HO : Hid (wr.ownsRow (tb + 1) 39 3 (.slice a i c) i (flatT ts)) := Lib.hid (by have := ow; unfold OwnTs at this; rwa [LL.out] at this)
   have HD := Lib.hid rd
   have HW := Lib.hid (And.intro br ch)
   have NR := Lib.hid NRB
   clear hi hz0 hz1 hz2 bt ow rd br ch NTB NWB NRB OI
   go_wp2_with fail
   refine Evo2.start' (ℓ := some 12) (S := Chg (fun k => k = rb ∨ (Value.slice a i c).ownBlock = some k)) (E := Grow.G) (by kernel_rfl) ⟨Chg.pre _, by decide +kernel, (by intro c a d v w h; cases d <;> exact h), by decide +kernel⟩ (fun ok => ?_)
   refine Evo2.va ok 0 _ _ ?_
   first | (refine Evo2.vl ok 1 KC.out (Chg.refl (fun k => k = rb ∨ (Value.slice a i c).ownBlock = some k) _) _ _ ?_) | (refine Evo2.va ok 1 _ _ ?_)
   refine Evo2.va ok 2 _ _ ?_
   refine Evo2.va ok 4 _ _ ?_
   refine Evo2.va ok 6 _ _ ?_
   refine Evo2.all [3] (by decide +kernel) rfl ?_
   intro wp1 gp1 iq hq
   simp only [List.mem_cons, List.mem_nil_iff, or_false] at hq
   have AP1 := Chg.trans (Chg.refl (fun k => k = rb ∨ (Value.slice a i c).ownBlock = some k) _) (Chg.grow gp1)
   subst hq
   refine Evo2.enters 111 _ (by rfl) (by rfl) (by go_simp; exact ⟨rfl, rfl⟩) ?_
   refine (X0.out _ (HD.out.grow gp1)).mono ?_
   rintro e wc1 ⟨rfl, r1, c1⟩; have CH1 := c1.mono (G' := fun k => k = rb ∨ (Value.slice a i c).ownBlock = some k) (fun _ _ h => .inl h); have W1 := c1.own (own_later HO.out gp1) NR.out
   refine ⟨_, rfl, .inr CH1, ?_⟩
   have AC1 := Chg.trans AP1 CH1
   simp only [Act.put, L0, L1, L2]
   refine Evo2.all [5] (by decide +kernel) rfl ?_
   intro wp2 gp2 iq hq
   simp only [List.mem_cons, List.mem_nil_iff, or_false] at hq
   have AP2 := Chg.trans AC1 (Chg.grow gp2)
   subst hq
   refine Evo2.enters 111 _ (by rfl) (by rfl) (by go_simp; exact ⟨rfl, rfl⟩) ?_
   refine (X1.out _ (r1.grow gp2)).mono ?_
   rintro e wc2 ⟨rfl, r2, c2⟩; have CH2 := c2.mono (G' := fun k => k = rb ∨ (Value.slice a i c).ownBlock = some k) (fun _ _ h => .inl h); have W2 := c2.own (own_later W1 gp2) NR.out
   refine ⟨_, rfl, .inr CH2, ?_⟩
   have AC2 := Chg.trans AP2 CH2
   simp only [Act.put, L0, L1, L2]
   refine Evo2.all [7] (by decide +kernel) rfl ?_
   intro wp3 gp3 iq hq
   simp only [List.mem_cons, List.mem_nil_iff, or_false] at hq
   have AP3 := Chg.trans AC2 (Chg.grow gp3)
   subst hq
   refine Evo2.enters 104 _ (by rfl) (by rfl) (by go_simp; exact ⟨rfl, rfl⟩) ?_
   refine (X2.out _ (r2.grow gp3)).mono ?_
   rintro e wc3 ⟨rfl, r3, c3⟩; have CH3 := c3.mono (G' := fun k => k = rb ∨ (Value.slice a i c).ownBlock = some k) (fun _ _ h => .inl h); have W3 := c3.own (own_later W2 gp3) NR.out
   refine ⟨_, rfl, .inr CH3, ?_⟩
   have AC3 := Chg.trans AP3 CH3
   simp only [Act.put, L0, L1, L2]
   refine Evo2.va ok 8 _ _ ?_
   refine Evo2.all [9] (by decide +kernel) rfl ?_
   intro wp4 gp4 iq hq
   simp only [List.mem_cons, List.mem_nil_iff, or_false] at hq
   have AP4 := Chg.trans AC3 (Chg.grow gp4)
   subst hq
   refine Evo2.runs (by rfl) (by rfl) (fun K' hK' => ?_)
   (try obtain ⟨q1, q2⟩ := KC.out wp4 AP4)
   go_simp
   (try (simp only [Evo.after_value, Evo.after_skip]))
   refine hK'.out _ _ ?_
   clear hK'
   simp only [Act.put, L0, L1, L2]
   (try clear q1 q2)
   refine ⟨.inr (Chg.alloc (Chg.refl _ _) _), ?_⟩
   generalize hG4 : World.alloc wp4 _ = wg4
   have GG4 : Grow.G wp4 wg4 := hG4 ▸ Grow.G.alloc (Grow.G.refl _) _
   have NC4 := (congrArg (fun W : World => W.heap[wp4.heap.size]?) hG4).symm.trans (MapKept.heap_alloc wp4 _).1
   have NL4 : wp4.heap.size < wg4.heap.size := by rw [← hG4]; simp
   clear hG4
   refine Evo2.all [10] (by decide +kernel) rfl ?_
   intro wp5 gp5 iq hq
   simp only [List.mem_cons, List.mem_nil_iff, or_false] at hq
   have AP5 := Chg.trans (Chg.trans AP4 (Chg.grow GG4)) (Chg.grow gp5)
   have NC4 := (gp5.block _ NL4).trans NC4
   have NL4 := Nat.lt_of_lt_of_le NL4 gp5.size
   subst hq
   refine Fr.own_fr (by rfl) (by rfl) (Operand.tmp 16) (Operand.tmp 24) 24 (by rfl) (tb + 1) 39 i0 (.agg #[.string ⟨#[]⟩, .string ⟨#[]⟩, .int .i64 0]) 3 40 Tryz.underlying24 HI.out HZ0.out HZ1.out HZ2.out rfl (by decide) _ _ _ (by rfl) (own_later W3 ?_) _ 1 1 [.string u0, .string u1, .int .i64 u2] (by rfl) rfl (news_blk NC4) ?_ ?_ ?_ ?_ ?_ 
   ·
    exact (gp4.trans GG4).trans gp5 
   ·
    intro u hu; simp at hu; rcases hu with rfl | rfl | rfl <;> rfl 
   ·
    unfold maxLen; omega 
   ·
    omega 
   ·
    have := AP5.size; omega
   intro vw5 wc5 OW5 fr5
   obtain ⟨g9, c9, rfl, hg9⟩ := own_some OW5 (by omega); have CH5 := (Chg.ofFr fr5).mono (G' := fun k => k = rb ∨ (Value.slice a i c).ownBlock = some k) (fun _ _ h => .inr h)
   refine ⟨.inr CH5, ?_⟩
   have AC5 := Chg.trans AP5 CH5
   simp only [Act.put, L0, L1, L2]
   refine Evo2.va ok 11 _ _ ?_
   refine Evo2.all [12] (by decide +kernel) rfl ?_
   intro wp6 gp6 iq hq
   simp only [List.mem_cons, List.mem_nil_iff, or_false] at hq
   have AP6 := Chg.trans AC5 (Chg.grow gp6)
   subst hq
   refine Evo2.runs (by rfl) (by rfl) (fun K' hK' => ?_)
   (try obtain ⟨q1, q2⟩ := KC.out wp6 AP6)
   have BG := HB.out.chg AP6 NT.out.1; have gl := BG.lt; have e0 := evd BG (i := 2) rfl; have f0 := BG.free 2; clear BG
   go_simp
   (try (simp only [Evo.after_value, Evo.after_skip]))
   refine hK'.out _ _ ?_
   clear hK'
   simp only [Act.put, L0, L1, L2]
   (try clear gl e0 f0)
   (try clear q1 q2)
   refine ⟨.inl (by first | rfl | trivial), ?_⟩
   refine Evo2.done (by decide +kernel) (fun wz gz => ?_)
   have NR' := NR.out
   have rowlt : ∀ k, (Value.slice a i c).ownBlock = some k → tb + 1 ≤ k := fun k hk => (HO.out.lt k hk).1
   have BG := ((HB.out.chg AP6 NT.out.1).set 2 (.slice (some ⟨g9, 0, none⟩) (i + 1) c9)).grow gz
   have BW := ((HW.out.1.chg AP6 NT.out.2).other (b := tb) (by omega) 2 (.slice (some ⟨g9, 0, none⟩) (i + 1) c9)).grow gz
   have CS : Chg (fun k => k = tb) wp6 (wp6.setCell ⟨tb, 2, none⟩ (.slice (some ⟨g9, 0, none⟩) (i + 1) c9)) := Chg.setCell (G := fun k => k = tb) (Chg.refl _ _) (fun _ => rfl) _ _
   have RZ := (((((r3.grow ((gp4.trans GG4).trans gp5)).chg (Chg.ofFr fr5) (fun e => NR.out rb e rfl) (fun e => by have := rowlt sb e; omega)).grow gp6).chg CS (fun e => by omega) (fun e => by omega)).grow gz)
   have OZ := own_later (CS.own (own_later OW5 gp6) (fun k hk e => by have hk : g9 = k := Option.some.inj hk; have e : k = tb := e; omega)) gz
   have CZ := (Chg.join (HW.out.2) AP6 (fun k hk e => by
    rcases e with e | e
    ·
     exact e
    ·
     have := rowlt k e; omega)).join (Chg.trans CS (Chg.grow gz)) (fun k hk e => by have e : k = tb := e; have hk : k < w.heap.size := hk; exact absurd hk (by omega))
   clear NR' rowlt CS
   have RES := Lib.hid (And.intro BG (And.intro OZ (And.intro RZ (And.intro BW CZ))))
   clear BG OZ RZ BW CZ gz gp1 gp2 gp3 gp4 gp5 gp6 GG4 NC4 NL4 AP1 AP2 AP3 AP4 AP5 AP6 AC1 AC2 AC3 AC5 CH1 CH2 CH3 CH5 fr5 OW5 W1 W2 W3 r1 r2 r3 c1 c2 c3 ok
   go_wp2_with fail
   go_roundw
   case rel =>
    refine ⟨i + 1, by omega, by go_num, Lib.hid ⟨some ⟨g9, 0, none⟩, c9, ?_, ?_, ?_, RES.out.2.2.2.1, RES.out.2.2.2.2⟩⟩
    ·
     exact RES.out.1
    ·
     unfold OwnTs
     rw [LL1.out, TN.out]
     simp only [flatT_snoc]
     exact RES.out.2.1
    ·
     rw [TN.out]; exact RES.out.2.2.1
   case measure => simp [intOf]; omega
  ·
   obtain rfl : i = n := by omega
   obtain ⟨a, c, bt, ow, rd, br, ch⟩ := OI.out
   have e0 := evd bt (i := 0) rfl; have e1 := evd bt (i := 1) rfl; have e2 := evd bt (i := 2) rfl; have e3 := evd bt (i := 3) rfl
   have h0 := evd br (i := 0) rfl; have h1 := evd br (i := 1) rfl; have h2 := evd br (i := 2) rfl; have h3 := evd br (i := 3) rfl
   have f0 := br.free 0; have f1 := br.free 1; have f2 := br.free 2; have f3 := br.free 3
   have BF := Lib.hid ((((br.set 0 (.string rn)).set 1 (.string rc)).set 2 (.slice a i c)).set 3 (.int .i64 rr))
   have sr := ch.size
   have LLi := LN.out i
   have HX := Lib.hid (And.intro ow (And.intro rd ch))
   have HL := Lib.hid LLi
   clear bt br ow rd ch OI LLi
   go_wp2_with fail
   have B7 := BF.out
   have CS : Chg (fun k => k = w.heap.size) wr _ := (Chg.setCell (G := fun k => k = w.heap.size) (Chg.setCell (G := fun k => k = w.heap.size) (Chg.setCell (G := fun k => k = w.heap.size) (Chg.setCell (G := fun k => k = w.heap.size) (Chg.refl _ _) (fun _ => rfl) 0 (.string rn)) (fun _ => rfl) 1 (.string rc)) (fun _ => rfl) 2 (.slice a i c)) (fun _ => rfl) 3 (.int .i64 rr))
   refine bodyPost_ret (v := .agg #[.string rn, .string rc, .slice a i c, .int .i64 rr]) (by simp [results, Tryz.results99, go_sem, B7.cell]) rfl ⟨a, c, ?_, ?_, ?_, ?_⟩
   ·
    rw [E.out]; simp only [HL.out]
   ·
    rw [E.out]
    simp only [HL.out]
    exact own_base (CS.own HX.out.1 (fun k hk e => by have := (HX.out.1.lt k hk).1; omega)) (by omega)
   ·
    rw [E.out]
    exact HX.out.2.1.chg CS (fun e => by omega) (fun e => by omega)
   ·
    exact HX.out.2.2.join CS (fun k hk e => by omega)
end Go.Proofs.YtnkekdmikopdgaaGreat

/- My own texts Law2a, ArgT, Law2b, RouteM, RouteW, OwnT, RouteP, SameP, laid in one file. -/
import Derived.Test.YtlnffdkaleapbaaGreatZ3
import Derived.Test.YtlnffdkaleapbaaGreatZ36
import Derived.Test.YtlnffdkaleapbaaGreatZ2
import Derived.Deep.DeepCutAuto

/- damperlaw2's helpers: config, Config, Few, known. -/
namespace Go.Proofs.YtlnffdkaleapbaaGreat
set_option maxRecDepth 100000
set_option linter.unusedVariables false
set_option linter.unusedSimpArgs false
set_option linter.unnecessarySimpa false
open Go.RowKit

def names3 : List ByteArray := [⟨#[119, 101, 98]⟩, ⟨#[97, 112, 105]⟩, ⟨#[97, 45, 98]⟩]
def name3 (n : Int) : ByteArray := names3.getD (withinI n 3).toNat ⟨#[]⟩
def gCfg (c : Cfg) (n : Int) : Cfg := ⟨name3 n, withinI c.im 256, 1 + withinI c.co 8, withinI c.mn (1 + withinI c.mx 10 + 1), 1 + withinI c.mx 10, withinI c.gr 31⟩
def Cfg.wf (c : Cfg) : Prop := wf64 c.im ∧ wf64 c.co ∧ wf64 c.mn ∧ wf64 c.mx ∧ wf64 c.gr
theorem w3_cases (n : Int) : withinI n 3 = 0 ∨ withinI n 3 = 1 ∨ withinI n 3 = 2 := by have := withinI_range n 3 (by omega); omega

set_option maxRecDepth 100000 in
set_option maxHeartbeats 1000000 in
theorem gcfg_any (c : Cfg) (n : Int) (w : World) (hc : c.wf) (hn : wf64 n) :
    Calls Tryz.prog 7 #[c.v, .int .i64 n] w fun x w' => x = .returned (gCfg c n).v ∧ Below w.heap.size w w' := by
  obtain ⟨nm, im, co, mn, mx, gr⟩ := c
  obtain ⟨h1, h2, h3, h4, h5⟩ := hc
  simp only at h1 h2 h3 h4 h5
  have r1 := withinI_range im 256 (by omega)
  have r2 := withinI_range co 8 (by omega)
  have r4 := withinI_range mx 10 (by omega)
  have r5 := withinI_range gr 31 (by omega)
  have W0 := Lib.hid (fun w => within2_any n 3 w (by omega) (by omega) hn.1 hn.2)
  have W1 := Lib.hid (fun w => within2_any im 256 w (by omega) (by omega) h1.1 h1.2)
  have W2 := Lib.hid (fun w => within2_any co 8 w (by omega) (by omega) h2.1 h2.2)
  have W4 := Lib.hid (fun w => within2_any mx 10 w (by omega) (by omega) h4.1 h4.2)
  have W3 := Lib.hid (fun w => within2_any mn (1 + withinI mx 10 + 1) w (by omega) (by omega) h3.1 h3.2)
  have W5 := Lib.hid (fun w => within2_any gr 31 w (by omega) (by omega) h5.1 h5.2)
  have N3 := w3_cases n
  unfold Cfg.v gCfg name3
  simp only
  generalize withinI n 3 = q0 at *
  generalize withinI im 256 = q1 at *
  generalize withinI co 8 = q2 at *
  generalize withinI mx 10 = q4 at *
  generalize withinI mn (1 + q4 + 1) = q3 at *
  generalize withinI gr 31 = q5 at *
  clear hn h1 h2 h3 h4 h5
  rcases N3 with rfl | rfl | rfl
  all_goals
    go_enter Tryz.func7, Tryz.ntmps7
    go_wp2_with fail
    refine (W0.out _).mono ?_
    rintro e wx ⟨rfl, rfl⟩
    go_wp2_with fail
    refine (W1.out _).mono ?_
    rintro e wx ⟨rfl, rfl⟩
    go_wp2_with fail
    refine (W2.out _).mono ?_
    rintro e wx ⟨rfl, rfl⟩
    go_wp2_with fail
    refine (W4.out _).mono ?_
    rintro e wx ⟨rfl, rfl⟩
    go_wp2_with fail
    refine (W3.out _).mono ?_
    rintro e wx ⟨rfl, rfl⟩
    go_wp2_with fail
    refine (W5.out _).mono ?_
    rintro e wx ⟨rfl, rfl⟩
    go_wp2_with fail
    exact bodyPost_ret (v := .agg #[.string _, .int .i64 q1, .int .i64 (1 + q2), .int .i64 q3, .int .i64 (1 + q4), .int .i64 q5]) (by simp [results, Tryz.results7, go_sem, names3]) rfl ⟨rfl, by (repeat (first | with_reducible exact Grow.G.refl _ | with_reducible exact Below.refl _ _ | with_reducible refine Grow.G.alloc ?_ _ | with_reducible refine Grow.G.trans ?_ hb1 | ((with_reducible refine Below.setCell ?_ ?_ _); rotate_left; (focus (first | omega | (simp; done) | (simp; omega)))) | with_reducible assumption | with_reducible refine Grow.G.trans ?_ (by with_reducible assumption)))⟩
end Go.Proofs.YtlnffdkaleapbaaGreat

/- How a configuration, a route that came in read. -/
namespace Go.Proofs.YtlnffdkaleapbaaGreat
set_option maxRecDepth 100000
set_option linter.unusedVariables false
set_option linter.unusedSimpArgs false
open Go.ChangeShapes Go.WideShapes Go.ChangeAt Go.RowKit Go.Args

section
variable {H : Type} {enc : TypeId × Value → H} {W : World}
def Cfg.cells (c : Cfg) : List Value := [.string c.nm, .int .i64 c.im, .int .i64 c.co, .int .i64 c.mn, .int .i64 c.mx, .int .i64 c.gr]
theorem cfg_rd {cs : List Value} {d : DataW H} (h : Rd enc Tryz.prog W 31 cs d) (hs : Sz Tryz.prog 31 d) : ∃ c : Cfg, cs = c.cells ∧ c.wf ∧ c.nm.size ≤ reachBytes := by
  obtain ⟨hl, hf⟩ := h.struct Tryz.underlying31 hs
  obtain ⟨x0, x1, x2, x3, x4, x5, rfl⟩ := list6 (hl.trans (show Tryz.prog.cellsOf 31 = 6 by kernel_rfl))
  obtain ⟨d0, r0, s0⟩ := hf 0 _ rfl
  obtain ⟨d1, r1, s1⟩ := hf 1 _ rfl
  obtain ⟨d2, r2, s2⟩ := hf 2 _ rfl
  obtain ⟨d3, r3, s3⟩ := hf 3 _ rfl
  obtain ⟨d4, r4, s4⟩ := hf 4 _ rfl
  obtain ⟨d5, r5, s5⟩ := hf 5 _ rfl
  clear hf
  obtain ⟨nm, e0, b0⟩ := r0.string Tryz.underlying9 s0
  obtain ⟨im, e1, b1⟩ := rd_i64 r1
  obtain ⟨co, e2, b2⟩ := rd_i64 r2
  obtain ⟨mn, e3, b3⟩ := rd_i64 r3
  obtain ⟨mx, e4, b4⟩ := rd_i64 r4
  obtain ⟨gr, e5, b5⟩ := rd_i64 r5
  have cS : Tryz.prog.cellsOf 9 = 1 := by kernel_rfl
  have cI : Tryz.prog.cellsOf 3 = 1 := by kernel_rfl
  simp [cS] at e0
  simp [cI] at e1 e2 e3 e4 e5
  exact ⟨⟨nm, im, co, mn, mx, gr⟩, by simp [Cfg.cells, *], ⟨b1, b2, b3, b4, b5⟩, b0⟩
def Tgt.cells (t : Tgt) : List Value := [.string t.rv, .string t.tg, .int .i64 t.pc]
end
end Go.Proofs.YtlnffdkaleapbaaGreat

/- Configurations written out; the configuration that damperlaw2.Config makes may be. -/
namespace Go.Proofs.YtlnffdkaleapbaaGreat
set_option maxRecDepth 100000
set_option linter.unusedVariables false
set_option linter.unusedSimpArgs false
set_option linter.unnecessarySimpa false
open Go.RowKit

theorem name3_ok (n : Int) : nameB 16 (name3 n) = true ∧ (name3 n).size ≤ 3 := by
  unfold name3
  rcases w3_cases n with h | h | h <;> rw [h] <;> decide +kernel
theorem gCfg_ok (c : Cfg) (n : Int) : (gCfg c n).err = 0 := by
  unfold gCfg Cfg.err Cfg.num
  have r1 := withinI_range c.im 256 (by omega)
  have r2 := withinI_range c.co 8 (by omega)
  have r4 := withinI_range c.mx 10 (by omega)
  have r5 := withinI_range c.gr 31 (by omega)
  have r3 := withinI_range c.mn (1 + withinI c.mx 10 + 1) (by omega)
  simp only [(name3_ok n).1, if_true]
  have h1 : inB (withinI c.im 256) 0 255 = true := decide_eq_true (by omega)
  have h2 : inB (1 + withinI c.co 8) 1 8 = true := decide_eq_true (by omega)
  have h3 : inB (1 + withinI c.mx 10) 1 10 = true := decide_eq_true (by omega)
  have h4 : inB (withinI c.mn (1 + withinI c.mx 10 + 1)) 0 (1 + withinI c.mx 10) = true := decide_eq_true (by omega)
  have h5 : inB (withinI c.gr 31) 0 30 = true := decide_eq_true (by omega)
  simp only [h1, h2, h3, h4, h5, Bool.and_self, if_true]

def frontN : List ByteArray := [⟨#[102, 114, 111, 110, 116]⟩, ⟨#[98, 97, 99, 107]⟩, ⟨#[114, 45, 49]⟩]
def rtName (n : Int) : ByteArray := frontN.getD (withinI n 3).toNat ⟨#[]⟩
def rtCf (n : Int) : ByteArray := name3 (n.tdiv 3)
def kAt (zs : List Int) (i : Nat) : Int := if i + 1 < zs.length then zs.getD (i + 1) 0 else i
def byte1 (n : Nat) : ByteArray := ⟨#[UInt8.ofNat n]⟩
def rvOf (cf : ByteArray) (k : Int) : ByteArray := if 0 < withinI (k.tdiv 101) 3 then cf ++ ⟨#[45]⟩ ++ byte1 (49 + (withinI (k.tdiv 303) 4).toNat) else ⟨#[]⟩
def tgOf (k : Int) (i : Nat) : ByteArray := if withinI (k.tdiv 1212) 3 = 0 then ⟨#[116]⟩ ++ byte1 (48 + i) else ⟨#[]⟩
def pcOf (k : Int) (i n : Nat) (left : Int) : Int := if i + 1 = n then left else withinI k (left + 1)
def gRun (cf : ByteArray) (zs : List Int) (n : Nat) : Nat → Int × List Tgt
  | 0 => (100, [])
  | i + 1 => ((gRun cf zs n i).1 - pcOf (kAt zs i) i n (gRun cf zs n i).1, (gRun cf zs n i).2 ++ [⟨rvOf cf (kAt zs i), tgOf (kAt zs i) i, pcOf (kAt zs i) i n (gRun cf zs n i).1⟩])
theorem gRun_s (cf : ByteArray) (zs : List Int) (n i : Nat) : gRun cf zs n (i + 1) = ((gRun cf zs n i).1 - pcOf (kAt zs i) i n (gRun cf zs n i).1, (gRun cf zs n i).2 ++ [⟨rvOf cf (kAt zs i), tgOf (kAt zs i) i, pcOf (kAt zs i) i n (gRun cf zs n i).1⟩]) := rfl
theorem strE_nil : strE ⟨#[]⟩ = true := by decide +kernel
def nT (zs : List Int) : Nat := if zs.length = 0 then 1 else 1 + (withinI (zs.getD 0 0) 6).toNat
def gTs (cf : ByteArray) (zs : List Int) : List Tgt := (gRun cf zs (nT zs) (nT zs)).2

theorem nT_range (zs : List Int) : 1 ≤ nT zs ∧ nT zs ≤ 6 := by
  unfold nT
  have := withinI_range (zs.getD 0 0) 6 (by omega)
  split <;> omega
theorem gRun_left (cf : ByteArray) (zs : List Int) (n : Nat) : ∀ i, 0 ≤ (gRun cf zs n i).1 ∧ (gRun cf zs n i).1 ≤ 100
  | 0 => by simp [gRun]
  | i + 1 => by
    have h := gRun_left cf zs n i
    have h2 := withinI_range (kAt zs i) ((gRun cf zs n i).1 + 1) (by omega)
    rw [gRun_s]
    unfold pcOf
    simp only
    split <;> omega
theorem gRun_pc (cf : ByteArray) (zs : List Int) (n i : Nat) : 0 ≤ pcOf (kAt zs i) i n (gRun cf zs n i).1 ∧ pcOf (kAt zs i) i n (gRun cf zs n i).1 ≤ (gRun cf zs n i).1 := by
  have h := gRun_left cf zs n i
  have h2 := withinI_range (kAt zs i) ((gRun cf zs n i).1 + 1) (by omega)
  unfold pcOf
  split <;> omega
theorem gRun_len (cf : ByteArray) (zs : List Int) (n : Nat) : ∀ i, (gRun cf zs n i).2.length = i
  | 0 => rfl
  | i + 1 => by rw [gRun_s]; simp [gRun_len cf zs n i]
theorem gRun_sum (cf : ByteArray) (zs : List Int) (n : Nat) : ∀ i, sumT (gRun cf zs n i).2 + (gRun cf zs n i).1 = 100
  | 0 => by simp [gRun, sumT]
  | i + 1 => by
    have h := gRun_sum cf zs n i
    rw [gRun_s]
    unfold sumT at *
    simp only [List.map_append, List.map_singleton, List.sum_append, List.sum_singleton]
    omega
theorem gRun_getD (cf : ByteArray) (zs : List Int) (n : Nat) : ∀ i j, j < i → (gRun cf zs n i).2.getD j tg0 = ⟨rvOf cf (kAt zs j), tgOf (kAt zs j) j, pcOf (kAt zs j) j n (gRun cf zs n j).1⟩
  | 0, j, h => by omega
  | i + 1, j, h => by
    have hl := gRun_len cf zs n i
    rw [gRun_s]
    simp only
    by_cases e : j = i
    · subst e
      rw [List.getD_eq_getElem?_getD, List.getElem?_append_right (by omega), hl]
      simp
    · rw [List.getD_eq_getElem?_getD, List.getElem?_append_left (by omega), ← List.getD_eq_getElem?_getD]
      exact gRun_getD cf zs n i j (by omega)
theorem gTs_len (cf : ByteArray) (zs : List Int) : (gTs cf zs).length = nT zs := gRun_len cf zs _ _
theorem gTs_sum (cf : ByteArray) (zs : List Int) : sumT (gTs cf zs) = 100 := by
  have h := gRun_sum cf zs (nT zs) (nT zs)
  have h1 := nT_range zs
  obtain ⟨m, hm⟩ : ∃ m, nT zs = m + 1 := ⟨nT zs - 1, by omega⟩
  have h2 : (gRun cf zs (nT zs) (m + 1)).1 = 0 := by
    rw [gRun_s]
    unfold pcOf
    simp only
    rw [if_pos hm.symm]; omega
  rw [← hm] at h2
  unfold gTs
  omega

theorem name3_at (n : Int) : name3 n = ⟨#[119, 101, 98]⟩ ∨ name3 n = ⟨#[97, 112, 105]⟩ ∨ name3 n = ⟨#[97, 45, 98]⟩ := by
  unfold name3
  rcases w3_cases n with h | h | h <;> rw [h]
  · exact .inl rfl
  · exact .inr (.inl rfl)
  · exact .inr (.inr rfl)
theorem rev3 : ∀ q, q < 4 → revB ((⟨#[119, 101, 98]⟩ : ByteArray) ++ ⟨#[45]⟩ ++ byte1 (49 + q)) = true ∧ revB ((⟨#[97, 112, 105]⟩ : ByteArray) ++ ⟨#[45]⟩ ++ byte1 (49 + q)) = true ∧ revB ((⟨#[97, 45, 98]⟩ : ByteArray) ++ ⟨#[45]⟩ ++ byte1 (49 + q)) = true := by decide +kernel
theorem tag6 : ∀ i, i < 6 → nameB 8 ((⟨#[116]⟩ : ByteArray) ++ byte1 (48 + i)) = true := by decide +kernel
theorem byte1_size (n : Nat) : (byte1 n).size = 1 := rfl
theorem rvOf_ok (n k : Int) : (strE (rvOf (rtCf n) k) || revB (rvOf (rtCf n) k)) = true ∧ (rvOf (rtCf n) k).size ≤ 5 := by
  have hq := withinI_range (k.tdiv 303) 4 (by omega)
  unfold rvOf
  split
  · have h := rev3 (withinI (k.tdiv 303) 4).toNat (by omega)
    refine ⟨?_, ?_⟩
    · unfold rtCf
      rcases name3_at (n.tdiv 3) with e | e | e <;> rw [e]
      · rw [h.1, Bool.or_true]
      · rw [h.2.1, Bool.or_true]
      · rw [h.2.2, Bool.or_true]
    · have := (name3_ok (n.tdiv 3)).2
      rw [ByteArray.size_append, ByteArray.size_append, byte1_size]
      show (name3 (n.tdiv 3)).size + 1 + 1 ≤ 5; omega
  · exact ⟨by rw [strE_nil]; rfl, by decide⟩
theorem tgOf_ok (k : Int) (i : Nat) (hi : i < 6) : (strE (tgOf k i) || nameB 8 (tgOf k i)) = true ∧ (tgOf k i).size ≤ 2 := by
  unfold tgOf
  split
  · exact ⟨by rw [tag6 i hi, Bool.or_true], by rw [ByteArray.size_append, byte1_size]; decide⟩
  · exact ⟨by rw [strE_nil]; rfl, by decide⟩
theorem tag_ne : ∀ i, i < 6 → ∀ j, j < 6 → i ≠ j → ((⟨#[116]⟩ : ByteArray) ++ byte1 (48 + i)).toList ≠ ((⟨#[116]⟩ : ByteArray) ++ byte1 (48 + j)).toList := by decide +kernel
theorem gRun_at (n : Int) (zs : List Int) (j : Nat) (hj : j < nT zs) : ((gTs (rtCf n) zs).getD j tg0).err = 0 ∧ ((gTs (rtCf n) zs).getD j tg0).ok := by
  have h6 := nT_range zs
  unfold gTs
  rw [gRun_getD _ _ _ _ j hj]
  have h1 := rvOf_ok n (kAt zs j)
  have h2 := tgOf_ok (kAt zs j) j (by omega)
  have h3 := gRun_pc (rtCf n) zs (nT zs) j
  have h4 := gRun_left (rtCf n) zs (nT zs) j
  generalize pcOf (kAt zs j) j (nT zs) (gRun (rtCf n) zs (nT zs) j).1 = p at *
  refine ⟨?_, ?_⟩
  · unfold Tgt.err Tgt.nmd
    simp only
    rw [h1.1, h2.1, inB_iff.2 ⟨by omega, by omega⟩]; rfl
  · refine ⟨?_, ?_, ?_⟩
    · simp only; omega
    · simp only; omega
    · simp only; exact ⟨by omega, by omega⟩
theorem gTs_each (n : Int) (zs : List Int) : eachE (gTs (rtCf n) zs) = 0 := eachE_none fun j hj => (gRun_at n zs j (by rw [gTs_len] at hj; exact hj)).1
theorem dup_none : ∀ (L : List ByteArray) (seen : List ByteArray), (∀ i, i < L.length → strE (L.getD i ⟨#[]⟩) = false → L.getD i ⟨#[]⟩ ∉ seen ∧ ∀ j, j < i → L.getD j ⟨#[]⟩ ≠ L.getD i ⟨#[]⟩) → dupF seen L = false
  | [], _, _ => rfl
  | t :: l, seen, h => by
    unfold dupF
    rw [Bool.or_eq_false_iff]
    refine ⟨?_, dup_none l _ fun i hi he => ?_⟩
    · cases he : strE t with
      | true => rfl
      | false =>
        have := (h 0 (by simp) (by simpa using he)).1
        rw [Bool.not_false, Bool.true_and, Bool.eq_false_iff]
        intro hc
        exact this (by simpa using (Lib.containsS_iff _ _).1 hc)
    · have h1 := h (i + 1) (by simpa using hi) (by simpa using he)
      refine ⟨?_, fun j hj => by simpa using h1.2 (j + 1) (by omega)⟩
      rw [List.mem_append, List.mem_singleton, not_or]
      exact ⟨by simpa using h1.1, fun e => h1.2 0 (by omega) (by simpa using e.symm)⟩
theorem gTs_dup (n : Int) (zs : List Int) : dupT (gTs (rtCf n) zs) = false := by
  unfold dupT
  refine dup_none _ _ fun i hi he => ⟨by simp, fun j hj e => ?_⟩
  rw [List.length_map, gTs_len] at hi
  have h6 := nT_range zs
  have ei : ((gTs (rtCf n) zs).map Tgt.tg).getD i ⟨#[]⟩ = tgOf (kAt zs i) i := by
    rw [getD_map Tgt.tg _ i tg0 ⟨#[]⟩ (by rw [gTs_len]; omega)]; unfold gTs; rw [gRun_getD _ _ _ _ i hi]
  have ej : ((gTs (rtCf n) zs).map Tgt.tg).getD j ⟨#[]⟩ = tgOf (kAt zs j) j := by
    rw [getD_map Tgt.tg _ j tg0 ⟨#[]⟩ (by rw [gTs_len]; omega)]; unfold gTs; rw [gRun_getD _ _ _ _ j (by omega)]
  rw [ei] at he e
  rw [ej] at e
  unfold tgOf at he e
  by_cases h1 : withinI ((kAt zs i).tdiv 1212) 3 = 0
  · rw [if_pos h1] at he e
    by_cases h2 : withinI ((kAt zs j).tdiv 1212) 3 = 0
    · rw [if_pos h2] at e
      exact tag_ne j (by omega) i (by omega) (by omega) (by rw [e])
    · rw [if_neg h2] at e
      have := congrArg ByteArray.size e
      rw [ByteArray.size_append, byte1_size] at this
      have h0 : (⟨#[]⟩ : ByteArray).size = 0 := rfl
      omega
  · rw [if_neg h1, strE_nil] at he; cases he
theorem gRoute_ok (n : Int) (zs : List Int) (roll : Int) (hr : 0 ≤ roll ∧ roll ≤ 60) : routeE (rtName n) (rtCf n) (gTs (rtCf n) zs) roll = 0 := by
  have h1 : nameB 16 (rtName n) = true := by
    unfold rtName
    rcases w3_cases n with h | h | h <;> rw [h] <;> decide +kernel
  have h6 := nT_range zs
  rw [routeE_each h1 (show nameB 16 (rtCf n) = true from (name3_ok _).1) (inB_iff.2 hr) (inB_iff.2 (by rw [gTs_len]; omega)), if_pos (gTs_each n zs), gTs_dup, gTs_sum]
  rfl
theorem rtName_size (n : Int) : (rtName n).size ≤ 5 := by
  unfold rtName
  rcases w3_cases n with h | h | h <;> rw [h] <;> decide

theorem front_at (k : Nat) (hk : k < 3) : ([.string ⟨#[102, 114, 111, 110, 116]⟩, .string ⟨#[98, 97, 99, 107]⟩, .string ⟨#[114, 45, 49]⟩] : List Value)[k]'(by simpa using hk) = .string (frontN.getD k ⟨#[]⟩) := listMap Value.string frontN _ k (by simpa [frontN] using hk)
theorem cf_at (k : Nat) (hk : k < 3) : ([.string ⟨#[119, 101, 98]⟩, .string ⟨#[97, 112, 105]⟩, .string ⟨#[97, 45, 98]⟩] : List Value)[k]'(by simpa using hk) = .string (names3.getD k ⟨#[]⟩) := listMap Value.string names3 _ k (by simpa [names3] using hk)
def flatT (ts : List Tgt) : List Value := ts.flatMap fun t => [.string t.rv, .string t.tg, .int .i64 t.pc]

theorem infoT : (Tryz.prog.info? 84).map (fun i => (i.zero, i.size, i.bytes)) = some (some (.agg #[.string ⟨#[]⟩, .string ⟨#[]⟩, .int .i64 0]), 3, 40) := by kernel_rfl
structure RtLoop (w wr : World) (g : Nat) (nm cf : ByteArray) (rl : Int) (v : Value) (i : Nat) (ts : List Tgt) : Prop where
  c0 : wr.cell? ⟨g, 0, none⟩ = some (.string nm)
  c1 : wr.cell? ⟨g, 1, none⟩ = some (.string cf)
  c2 : wr.cell? ⟨g, 2, none⟩ = some v
  c3 : wr.cell? ⟨g, 3, none⟩ = some (.int .i64 rl)
  f2 : wr.frozen? ⟨g, 2, none⟩ = false
  own : wr.ownsRow (g + 1) 84 3 v i (flatT ts)
  grow0 : Grow.G (w.alloc (.cells #[.string ⟨#[]⟩, .string ⟨#[]⟩, .slice none 0 0, .int .i64 0] 45)) wr
  lt : g < wr.heap.size
  base : w.heap.size + 1 ≤ g

theorem RtLoop.grow {w wr : World} {g : Nat} {nm cf : ByteArray} {rl : Int} {v : Value} {i : Nat} {ts : List Tgt} (h : RtLoop w wr g nm cf rl v i ts) : Grow.G w wr := Grow.G.trans (Grow.G.alloc (Grow.G.refl w) _) h.grow0

set_option maxRecDepth 100000 in
set_option maxHeartbeats 16000000 in
theorem groute_walk (n : Int) (a : Option Addr) (zs : List Int) (cap : Nat) (roll : Int) (w : World) (hn : wf64 n) (hz : IntAt w a zs) (hl : zs.length ≤ maxLen) (hr : wf64 roll) :
    Calls Tryz.prog 11 #[.int .i64 n, .slice a zs.length cap, .int .i64 roll] w fun e w' => (∃ b c, e = .returned (rtV (rtName n) (rtCf n) (.slice (some ⟨b, 0, none⟩) (nT zs) c) (withinI roll 61)) ∧ w'.ownsRow w.heap.size 84 3 (.slice (some ⟨b, 0, none⟩) (nT zs) c) (nT zs) (flatT (gTs (rtCf n) zs))) ∧ Below w.heap.size w w' := by
  have HZ := Lib.hid hz
  clear hz
  unfold maxLen at hl
  generalize hlz : zs.length = lz at *
  have LZ := Lib.hid hlz
  clear hlz
  have W0 := Lib.hid (fun w => within2_any n 3 w (by omega) (by omega) hn.1 hn.2)
  have hn3 := tdiv_wf hn 3 (by omega)
  have wr3 := wrap_wf hn3
  have W1 := Lib.hid (fun w => within2_any (n.tdiv 3) 3 w (by omega) (by omega) hn3.1 hn3.2)
  have W2 := Lib.hid (fun w => within2_any roll 61 w (by omega) (by omega) hr.1 hr.2)
  have r0 := withinI_range n 3 (by omega)
  have r1 := withinI_range (n.tdiv 3) 3 (by omega)
  have W0 := Lib.hid (fun w => Evo.same (W0.out w))
  have W1 := Lib.hid (fun w => Evo.same (W1.out w))
  have W2 := Lib.hid (fun w => Evo.same (W2.out w))
  have NM : Hid (rtName n = frontN.getD (withinI n 3).toNat ⟨#[]⟩) := Lib.hid rfl
  have CF : Hid (rtCf n = names3.getD (withinI (n.tdiv 3) 3).toNat ⟨#[]⟩) := Lib.hid rfl
  have z0 := rtName_size n
  have z1 := (name3_ok (n.tdiv 3)).2
  change (rtCf n).size ≤ 3 at z1
  generalize rtName n = nm at *
  generalize rtCf n = cf at *
  generalize withinI n 3 = q0 at *
  generalize withinI (n.tdiv 3) 3 = q1 at *
  generalize withinI roll 61 = rl at *
  obtain ⟨k0, rfl⟩ := Int.eq_ofNat_of_zero_le r0.1
  obtain ⟨k1, rfl⟩ := Int.eq_ofNat_of_zero_le r1.1
  have hk0 : k0 < 3 := by omega
  have hk1 : k1 < 3 := by omega
  have at0 := front_at k0 hk0
  have at1 := cf_at k1 hk1
  rw [← show nm = frontN.getD k0 ⟨#[]⟩ from NM.out] at at0
  rw [← show cf = names3.getD k1 ⟨#[]⟩ from CF.out] at at1
  have a0 := r0.1; have a1 := r0.2; have a2 := r1.1; have a3 := r1.2
  clear NM CF r0 r1
  go_enter Tryz.func11, Tryz.ntmps11
  go_upto_region 1 with fail
  go_cut [7] (fun s7 wx => ∃ g : Nat, s7 = .pointer (some ⟨g, 0, none⟩) ∧ w.heap.size + 1 ≤ g ∧ g < wx.heap.size ∧ wx.cell? ⟨g, 0, none⟩ = some (.string nm) ∧ wx.cell? ⟨g, 1, none⟩ = some (.string cf) ∧ wx.cell? ⟨g, 2, none⟩ = some (.slice none 0 0) ∧ wx.cell? ⟨g, 3, none⟩ = some (.int .i64 rl) ∧ wx.frozen? ⟨g, 2, none⟩ = false ∧ Grow.G (w.alloc (.cells #[.string ⟨#[]⟩, .string ⟨#[]⟩, .slice none 0 0, .int .i64 0] 45)) wx)
  case first =>
    have AT0 := Lib.hid (show ([.string ⟨#[102, 114, 111, 110, 116]⟩, .string ⟨#[98, 97, 99, 107]⟩, .string ⟨#[114, 45, 49]⟩] : List Value)[k0]? = some (.string nm) from by rw [← at0]; exact List.getElem?_eq_getElem _)
    have AT1 := Lib.hid (show ([.string ⟨#[119, 101, 98]⟩, .string ⟨#[97, 112, 105]⟩, .string ⟨#[97, 45, 98]⟩] : List Value)[k1]? = some (.string cf) from by rw [← at1]; exact List.getElem?_eq_getElem _)
    clear at0 at1
    refine Evo2.start' (ℓ := some 15) (S := Chg (fun _ => False)) (E := Grow.G) (by kernel_rfl) ⟨Chg.pre _, by decide +kernel, (by intro c a d v w h; cases d <;> exact h), by decide +kernel⟩ (fun ok => ?_)
    refine Evo2.va ok 1 _ _ ?_
    (refine Evo2.cal ok 2 ?_ 19 ?_ ?_ ?_ ?_; rotate_left 2; (focus (intro w'; go_simp <;> with_reducible rfl)); (focus (intro w' g'; with_reducible exact W0.out w')); simp only [Act.put, L0, L1, L2])
    refine Evo2.va ok 6 _ _ ?_
    refine Evo2.va ok 7 _ _ ?_
    (refine Evo2.cal ok 8 ?_ 19 ?_ ?_ ?_ ?_; rotate_left 2; (focus (intro w'; go_simp <;> with_reducible rfl)); (focus (intro w' g'; with_reducible exact W1.out w')); simp only [Act.put, L0, L1, L2])
    refine Evo2.va ok 11 _ _ ?_
    (refine Evo2.cal ok 12 ?_ 19 ?_ ?_ ?_ ?_; rotate_left 2; (focus (intro w'; go_simp <;> with_reducible rfl)); (focus (intro w' g'; with_reducible exact W2.out w')); simp only [Act.put, L0, L1, L2])
    refine Evo2.all [0, 5, 14] (by decide +kernel) rfl ?_
    intro wp1 gp1 iq hq
    simp only [List.mem_cons, List.mem_nil_iff, or_false] at hq
    have AP1 := Chg.trans (Chg.refl (fun _ => False) _) (Chg.grow gp1)
    (try have NG := Lib.hid (Blk.grow NG.out gp1))
    rcases hq with rfl | rfl | rfl
    ·
      refine Evo2.runs (by rfl) (by rfl) (fun K' hK' => ?_)
      go_simp
      (try (simp only [Evo.after_value, Evo.after_skip]))
      refine hK'.out _ _ ?_
      clear hK'
      simp only [Act.put, L0, L1, L2]
      refine ⟨.inr (Chg.alloc (Chg.refl _ _) _), ?_⟩
      generalize hG1 : World.alloc wp1 _ = wg1
      have GG1 : Grow.G wp1 wg1 := hG1 ▸ Grow.G.alloc (Grow.G.refl _) _
      have NC1 := (congrArg (fun W : World => W.heap[wp1.heap.size]?) hG1).symm.trans (MapKept.heap_alloc wp1 _).1
      have NL1 : wp1.heap.size < wg1.heap.size := by rw [← hG1]; simp
      clear hG1
      (try have NG := Lib.hid (Blk.grow NG.out GG1))
      refine Evo2.va ok 3 _ _ ?_
      first | (refine Evo2.val ok 4 ?_ ?_ ?_; rotate_left; (intro w' hg; have nq := (fun w' b (h : Blk w' b ([.string ⟨#[102, 114, 111, 110, 116]⟩, .string ⟨#[98, 97, 99, 107]⟩, .string ⟨#[114, 45, 49]⟩] : List Value).toArray 9) => h.at AT0.out) _ _ (hg.blk NC1 (by intro q; first | exact q | (have h1 := AP1.size; have h2 := NL1; (try dsimp only at q); omega))); go_simp <;> with_reducible rfl); simp only [Act.put, L0, L1, L2]) | (refine Evo2.val ok 4 ?_ ?_ ?_; rotate_left; (intro w' hg; have nq := (fun w' b (h : Blk w' b ([.string ⟨#[119, 101, 98]⟩, .string ⟨#[97, 112, 105]⟩, .string ⟨#[97, 45, 98]⟩] : List Value).toArray 9) => h.at AT1.out) _ _ (hg.blk NC1 (by intro q; first | exact q | (have h1 := AP1.size; have h2 := NL1; (try dsimp only at q); omega))); go_simp <;> with_reducible rfl); simp only [Act.put, L0, L1, L2]) | (refine Evo2.va ok 4 _ _ ?_) | (refine Evo2.val ok 4 ?_ ?_ ?_; rotate_left; (intro w' hg; have nq := fun j => Blk.cell (w := w') (hg.blk NC1 (by intro q; first | exact q | (have h1 := AP1.size; have h2 := NL1; (try dsimp only at q); omega))) j; go_simp <;> with_reducible rfl); simp only [Act.put, L0, L1, L2])
      refine Evo2.all [5, 14] (by decide +kernel) rfl ?_
      intro wp2 gp2 iq hq
      simp only [List.mem_cons, List.mem_nil_iff, or_false] at hq
      have AP2 := Chg.trans (Chg.trans AP1 (Chg.grow GG1)) (Chg.grow gp2)
      (try have NG := Lib.hid (Blk.grow NG.out gp2))
      have NC1 := (gp2.block _ NL1).trans NC1
      have NL1 := Nat.lt_of_lt_of_le NL1 gp2.size
      rcases hq with rfl | rfl
      ·
        refine Evo2.runs (by rfl) (by rfl) (fun K' hK' => ?_)
        go_simp
        (try (simp only [Evo.after_value, Evo.after_skip]))
        refine hK'.out _ _ ?_
        clear hK'
        simp only [Act.put, L0, L1, L2]
        refine ⟨.inr (Chg.alloc (Chg.refl _ _) _), ?_⟩
        generalize hG2 : World.alloc wp2 _ = wg2
        have GG2 : Grow.G wp2 wg2 := hG2 ▸ Grow.G.alloc (Grow.G.refl _) _
        have NC1 := (GG2.block _ NL1).trans NC1
        have NL1 := Nat.lt_of_lt_of_le NL1 GG2.size
        have NC2 := (congrArg (fun W : World => W.heap[wp2.heap.size]?) hG2).symm.trans (MapKept.heap_alloc wp2 _).1
        have NL2 : wp2.heap.size < wg2.heap.size := by rw [← hG2]; simp
        clear hG2
        (try have NG := Lib.hid (Blk.grow NG.out GG2))
        refine Evo2.va ok 9 _ _ ?_
        first | (refine Evo2.val ok 10 ?_ ?_ ?_; rotate_left; (intro w' hg; have nq := (fun w' b (h : Blk w' b ([.string ⟨#[102, 114, 111, 110, 116]⟩, .string ⟨#[98, 97, 99, 107]⟩, .string ⟨#[114, 45, 49]⟩] : List Value).toArray 9) => h.at AT0.out) _ _ (hg.blk NC1 (by intro q; first | exact q | (have h1 := AP1.size; have h2 := NL1; (try dsimp only at q); omega))); go_simp <;> with_reducible rfl); simp only [Act.put, L0, L1, L2]) | (refine Evo2.val ok 10 ?_ ?_ ?_; rotate_left; (intro w' hg; have nq := (fun w' b (h : Blk w' b ([.string ⟨#[119, 101, 98]⟩, .string ⟨#[97, 112, 105]⟩, .string ⟨#[97, 45, 98]⟩] : List Value).toArray 9) => h.at AT1.out) _ _ (hg.blk NC1 (by intro q; first | exact q | (have h1 := AP1.size; have h2 := NL1; (try dsimp only at q); omega))); go_simp <;> with_reducible rfl); simp only [Act.put, L0, L1, L2]) | (refine Evo2.val ok 10 ?_ ?_ ?_; rotate_left; (intro w' hg; have nq := (fun w' b (h : Blk w' b ([.string ⟨#[102, 114, 111, 110, 116]⟩, .string ⟨#[98, 97, 99, 107]⟩, .string ⟨#[114, 45, 49]⟩] : List Value).toArray 9) => h.at AT0.out) _ _ (hg.blk NC2 (by intro q; first | exact q | (have h1 := AP2.size; have h2 := NL2; (try dsimp only at q); omega))); go_simp <;> with_reducible rfl); simp only [Act.put, L0, L1, L2]) | (refine Evo2.val ok 10 ?_ ?_ ?_; rotate_left; (intro w' hg; have nq := (fun w' b (h : Blk w' b ([.string ⟨#[119, 101, 98]⟩, .string ⟨#[97, 112, 105]⟩, .string ⟨#[97, 45, 98]⟩] : List Value).toArray 9) => h.at AT1.out) _ _ (hg.blk NC2 (by intro q; first | exact q | (have h1 := AP2.size; have h2 := NL2; (try dsimp only at q); omega))); go_simp <;> with_reducible rfl); simp only [Act.put, L0, L1, L2]) | (refine Evo2.va ok 10 _ _ ?_) | (refine Evo2.val ok 10 ?_ ?_ ?_; rotate_left; (intro w' hg; have nq := fun j => Blk.cell (w := w') (hg.blk NC1 (by intro q; first | exact q | (have h1 := AP1.size; have h2 := NL1; (try dsimp only at q); omega))) j; go_simp <;> with_reducible rfl); simp only [Act.put, L0, L1, L2]) | (refine Evo2.val ok 10 ?_ ?_ ?_; rotate_left; (intro w' hg; have nq := fun j => Blk.cell (w := w') (hg.blk NC2 (by intro q; first | exact q | (have h1 := AP2.size; have h2 := NL2; (try dsimp only at q); omega))) j; go_simp <;> with_reducible rfl); simp only [Act.put, L0, L1, L2])
        refine Evo2.va ok 13 _ _ ?_
        refine Evo2.all [14] (by decide +kernel) rfl ?_
        intro wp3 gp3 iq hq
        simp only [List.mem_cons, List.mem_nil_iff, or_false] at hq
        have AP3 := Chg.trans (Chg.trans AP2 (Chg.grow GG2)) (Chg.grow gp3)
        (try have NG := Lib.hid (Blk.grow NG.out gp3))
        have NC1 := (gp3.block _ NL1).trans NC1
        have NL1 := Nat.lt_of_lt_of_le NL1 gp3.size
        have NC2 := (gp3.block _ NL2).trans NC2
        have NL2 := Nat.lt_of_lt_of_le NL2 gp3.size
        subst hq
        refine Evo2.runs (by rfl) (by rfl) (fun K' hK' => ?_)
        go_simp
        (try (simp only [Evo.after_value, Evo.after_skip]))
        refine hK'.out _ _ ?_
        clear hK'
        simp only [Act.put, L0, L1, L2]
        refine ⟨.inr (Chg.alloc (Chg.refl _ _) _), ?_⟩
        generalize hG3 : World.alloc wp3 _ = wg3
        have GG3 : Grow.G wp3 wg3 := hG3 ▸ Grow.G.alloc (Grow.G.refl _) _
        have NC1 := (GG3.block _ NL1).trans NC1
        have NL1 := Nat.lt_of_lt_of_le NL1 GG3.size
        have NC2 := (GG3.block _ NL2).trans NC2
        have NL2 := Nat.lt_of_lt_of_le NL2 GG3.size
        have NC3 := (congrArg (fun W : World => W.heap[wp3.heap.size]?) hG3).symm.trans (MapKept.heap_alloc wp3 _).1
        have NL3 : wp3.heap.size < wg3.heap.size := by rw [← hG3]; simp
        clear hG3
        have NG : Hid (Blk _ _ _ _) := Lib.hid NC3; have HG1 := Lib.hid (show w.heap.size + 1 ≤ wp3.heap.size from by have := AP3.size; simp at this; omega)
        refine Evo2.all [15] (by decide +kernel) rfl ?_
        intro wp4 gp4 iq hq
        simp only [List.mem_cons, List.mem_nil_iff, or_false] at hq
        have AP4 := Chg.trans (Chg.trans AP3 (Chg.grow GG3)) (Chg.grow gp4)
        (try have NG := Lib.hid (Blk.grow NG.out gp4))
        have NC1 := (gp4.block _ NL1).trans NC1
        have NL1 := Nat.lt_of_lt_of_le NL1 gp4.size
        have NC2 := (gp4.block _ NL2).trans NC2
        have NL2 := Nat.lt_of_lt_of_le NL2 gp4.size
        have NC3 := (gp4.block _ NL3).trans NC3
        have NL3 := Nat.lt_of_lt_of_le NL3 gp4.size
        subst hq
        refine Evo2.runs (by rfl) (by rfl) (fun K' hK' => ?_)
        have BQ := NG.out; have gl := BQ.lt; have e0 := BQ.at (k := 0) rfl; have f0 := BQ.free 0; have e1 := BQ.at (k := 1) rfl; have f1 := BQ.free 1; have e2 := BQ.at (k := 2) rfl; have f2 := BQ.free 2; have e3 := BQ.at (k := 3) rfl; have f3 := BQ.free 3; clear BQ
        go_simp
        (try (simp only [Evo.after_value, Evo.after_skip]))
        refine hK'.out _ _ ?_
        clear hK'
        simp only [Act.put, L0, L1, L2]
        (try clear gl e0 f0 e1 f1 e2 f2 e3 f3)
        refine ⟨.inl (by first | rfl | trivial), ?_⟩
        refine Evo2.done (by decide +kernel) (fun wz gz => ?_)
        have BF := ((((NG.out.set 0 (.string nm)).set 1 (.string cf)).set 2 (.slice none 0 0)).set 3 (.int .i64 rl)).grow gz 
        simp only [List.setIfInBounds_toArray, List.set_cons_zero, List.set_cons_succ] at BF 
        have GF : Grow.G _ wz := Below.trans (Below.setCell (Below.setCell (Below.setCell (Below.setCell (chg_none0 AP4) (by have := HG1.out; simp; omega) _) (by have := HG1.out; simp; omega) _) (by have := HG1.out; simp; omega) _) (by have := HG1.out; simp; omega) _) (Below.mono gz (by have := AP4.size; simpa [World.setCell] using this)) 
        have HBF := Lib.hid BF 
        have HGF := Lib.hid GF 
        clear BF GF gz NG 
        go_wp2_with fail 
        go_meet 
        exact ⟨_, rfl, HG1.out, HBF.out.lt, HBF.out.at (k := 0) rfl, HBF.out.at (k := 1) rfl, HBF.out.at (k := 2) rfl, HBF.out.at (k := 3) rfl, HBF.out.free 2, HGF.out⟩
      ·
        refine Evo2.runs (by rfl) (by rfl) (fun K' hK' => ?_)
        go_simp
        (try (simp only [Evo.after_value, Evo.after_skip]))
        refine hK'.out _ _ ?_
        clear hK'
        simp only [Act.put, L0, L1, L2]
        refine ⟨.inr (Chg.alloc (Chg.refl _ _) _), ?_⟩
        generalize hG2 : World.alloc wp2 _ = wg2
        have GG2 : Grow.G wp2 wg2 := hG2 ▸ Grow.G.alloc (Grow.G.refl _) _
        have NC1 := (GG2.block _ NL1).trans NC1
        have NL1 := Nat.lt_of_lt_of_le NL1 GG2.size
        have NC2 := (congrArg (fun W : World => W.heap[wp2.heap.size]?) hG2).symm.trans (MapKept.heap_alloc wp2 _).1
        have NL2 : wp2.heap.size < wg2.heap.size := by rw [← hG2]; simp
        clear hG2
        have NG : Hid (Blk _ _ _ _) := Lib.hid NC2; have HG1 := Lib.hid (show w.heap.size + 1 ≤ wp2.heap.size from by have := AP2.size; simp at this; omega)
        refine Evo2.all [5] (by decide +kernel) rfl ?_
        intro wp3 gp3 iq hq
        simp only [List.mem_cons, List.mem_nil_iff, or_false] at hq
        have AP3 := Chg.trans (Chg.trans AP2 (Chg.grow GG2)) (Chg.grow gp3)
        (try have NG := Lib.hid (Blk.grow NG.out gp3))
        have NC1 := (gp3.block _ NL1).trans NC1
        have NL1 := Nat.lt_of_lt_of_le NL1 gp3.size
        have NC2 := (gp3.block _ NL2).trans NC2
        have NL2 := Nat.lt_of_lt_of_le NL2 gp3.size
        subst hq
        refine Evo2.runs (by rfl) (by rfl) (fun K' hK' => ?_)
        go_simp
        (try (simp only [Evo.after_value, Evo.after_skip]))
        refine hK'.out _ _ ?_
        clear hK'
        simp only [Act.put, L0, L1, L2]
        refine ⟨.inr (Chg.alloc (Chg.refl _ _) _), ?_⟩
        generalize hG3 : World.alloc wp3 _ = wg3
        have GG3 : Grow.G wp3 wg3 := hG3 ▸ Grow.G.alloc (Grow.G.refl _) _
        have NC1 := (GG3.block _ NL1).trans NC1
        have NL1 := Nat.lt_of_lt_of_le NL1 GG3.size
        have NC2 := (GG3.block _ NL2).trans NC2
        have NL2 := Nat.lt_of_lt_of_le NL2 GG3.size
        have NC3 := (congrArg (fun W : World => W.heap[wp3.heap.size]?) hG3).symm.trans (MapKept.heap_alloc wp3 _).1
        have NL3 : wp3.heap.size < wg3.heap.size := by rw [← hG3]; simp
        clear hG3
        (try have NG := Lib.hid (Blk.grow NG.out GG3))
        refine Evo2.va ok 9 _ _ ?_
        first | (refine Evo2.val ok 10 ?_ ?_ ?_; rotate_left; (intro w' hg; have nq := (fun w' b (h : Blk w' b ([.string ⟨#[102, 114, 111, 110, 116]⟩, .string ⟨#[98, 97, 99, 107]⟩, .string ⟨#[114, 45, 49]⟩] : List Value).toArray 9) => h.at AT0.out) _ _ (hg.blk NC1 (by intro q; first | exact q | (have h1 := AP1.size; have h2 := NL1; (try dsimp only at q); omega))); go_simp <;> with_reducible rfl); simp only [Act.put, L0, L1, L2]) | (refine Evo2.val ok 10 ?_ ?_ ?_; rotate_left; (intro w' hg; have nq := (fun w' b (h : Blk w' b ([.string ⟨#[119, 101, 98]⟩, .string ⟨#[97, 112, 105]⟩, .string ⟨#[97, 45, 98]⟩] : List Value).toArray 9) => h.at AT1.out) _ _ (hg.blk NC1 (by intro q; first | exact q | (have h1 := AP1.size; have h2 := NL1; (try dsimp only at q); omega))); go_simp <;> with_reducible rfl); simp only [Act.put, L0, L1, L2]) | (refine Evo2.val ok 10 ?_ ?_ ?_; rotate_left; (intro w' hg; have nq := (fun w' b (h : Blk w' b ([.string ⟨#[102, 114, 111, 110, 116]⟩, .string ⟨#[98, 97, 99, 107]⟩, .string ⟨#[114, 45, 49]⟩] : List Value).toArray 9) => h.at AT0.out) _ _ (hg.blk NC2 (by intro q; first | exact q | (have h1 := AP2.size; have h2 := NL2; (try dsimp only at q); omega))); go_simp <;> with_reducible rfl); simp only [Act.put, L0, L1, L2]) | (refine Evo2.val ok 10 ?_ ?_ ?_; rotate_left; (intro w' hg; have nq := (fun w' b (h : Blk w' b ([.string ⟨#[119, 101, 98]⟩, .string ⟨#[97, 112, 105]⟩, .string ⟨#[97, 45, 98]⟩] : List Value).toArray 9) => h.at AT1.out) _ _ (hg.blk NC2 (by intro q; first | exact q | (have h1 := AP2.size; have h2 := NL2; (try dsimp only at q); omega))); go_simp <;> with_reducible rfl); simp only [Act.put, L0, L1, L2]) | (refine Evo2.val ok 10 ?_ ?_ ?_; rotate_left; (intro w' hg; have nq := (fun w' b (h : Blk w' b ([.string ⟨#[102, 114, 111, 110, 116]⟩, .string ⟨#[98, 97, 99, 107]⟩, .string ⟨#[114, 45, 49]⟩] : List Value).toArray 9) => h.at AT0.out) _ _ (hg.blk NC3 (by intro q; first | exact q | (have h1 := AP3.size; have h2 := NL3; (try dsimp only at q); omega))); go_simp <;> with_reducible rfl); simp only [Act.put, L0, L1, L2]) | (refine Evo2.val ok 10 ?_ ?_ ?_; rotate_left; (intro w' hg; have nq := (fun w' b (h : Blk w' b ([.string ⟨#[119, 101, 98]⟩, .string ⟨#[97, 112, 105]⟩, .string ⟨#[97, 45, 98]⟩] : List Value).toArray 9) => h.at AT1.out) _ _ (hg.blk NC3 (by intro q; first | exact q | (have h1 := AP3.size; have h2 := NL3; (try dsimp only at q); omega))); go_simp <;> with_reducible rfl); simp only [Act.put, L0, L1, L2]) | (refine Evo2.va ok 10 _ _ ?_) | (refine Evo2.val ok 10 ?_ ?_ ?_; rotate_left; (intro w' hg; have nq := fun j => Blk.cell (w := w') (hg.blk NC1 (by intro q; first | exact q | (have h1 := AP1.size; have h2 := NL1; (try dsimp only at q); omega))) j; go_simp <;> with_reducible rfl); simp only [Act.put, L0, L1, L2]) | (refine Evo2.val ok 10 ?_ ?_ ?_; rotate_left; (intro w' hg; have nq := fun j => Blk.cell (w := w') (hg.blk NC2 (by intro q; first | exact q | (have h1 := AP2.size; have h2 := NL2; (try dsimp only at q); omega))) j; go_simp <;> with_reducible rfl); simp only [Act.put, L0, L1, L2]) | (refine Evo2.val ok 10 ?_ ?_ ?_; rotate_left; (intro w' hg; have nq := fun j => Blk.cell (w := w') (hg.blk NC3 (by intro q; first | exact q | (have h1 := AP3.size; have h2 := NL3; (try dsimp only at q); omega))) j; go_simp <;> with_reducible rfl); simp only [Act.put, L0, L1, L2])
        refine Evo2.va ok 13 _ _ ?_
        refine Evo2.all [15] (by decide +kernel) rfl ?_
        intro wp4 gp4 iq hq
        simp only [List.mem_cons, List.mem_nil_iff, or_false] at hq
        have AP4 := Chg.trans (Chg.trans AP3 (Chg.grow GG3)) (Chg.grow gp4)
        (try have NG := Lib.hid (Blk.grow NG.out gp4))
        have NC1 := (gp4.block _ NL1).trans NC1
        have NL1 := Nat.lt_of_lt_of_le NL1 gp4.size
        have NC2 := (gp4.block _ NL2).trans NC2
        have NL2 := Nat.lt_of_lt_of_le NL2 gp4.size
        have NC3 := (gp4.block _ NL3).trans NC3
        have NL3 := Nat.lt_of_lt_of_le NL3 gp4.size
        subst hq
        refine Evo2.runs (by rfl) (by rfl) (fun K' hK' => ?_)
        have BQ := NG.out; have gl := BQ.lt; have e0 := BQ.at (k := 0) rfl; have f0 := BQ.free 0; have e1 := BQ.at (k := 1) rfl; have f1 := BQ.free 1; have e2 := BQ.at (k := 2) rfl; have f2 := BQ.free 2; have e3 := BQ.at (k := 3) rfl; have f3 := BQ.free 3; clear BQ
        go_simp
        (try (simp only [Evo.after_value, Evo.after_skip]))
        refine hK'.out _ _ ?_
        clear hK'
        simp only [Act.put, L0, L1, L2]
        (try clear gl e0 f0 e1 f1 e2 f2 e3 f3)
        refine ⟨.inl (by first | rfl | trivial), ?_⟩
        refine Evo2.done (by decide +kernel) (fun wz gz => ?_)
        have BF := ((((NG.out.set 0 (.string nm)).set 1 (.string cf)).set 2 (.slice none 0 0)).set 3 (.int .i64 rl)).grow gz 
        simp only [List.setIfInBounds_toArray, List.set_cons_zero, List.set_cons_succ] at BF 
        have GF : Grow.G _ wz := Below.trans (Below.setCell (Below.setCell (Below.setCell (Below.setCell (chg_none0 AP4) (by have := HG1.out; simp; omega) _) (by have := HG1.out; simp; omega) _) (by have := HG1.out; simp; omega) _) (by have := HG1.out; simp; omega) _) (Below.mono gz (by have := AP4.size; simpa [World.setCell] using this)) 
        have HBF := Lib.hid BF 
        have HGF := Lib.hid GF 
        clear BF GF gz NG 
        go_wp2_with fail 
        go_meet 
        exact ⟨_, rfl, HG1.out, HBF.out.lt, HBF.out.at (k := 0) rfl, HBF.out.at (k := 1) rfl, HBF.out.at (k := 2) rfl, HBF.out.at (k := 3) rfl, HBF.out.free 2, HGF.out⟩
    ·
      refine Evo2.runs (by rfl) (by rfl) (fun K' hK' => ?_)
      go_simp
      (try (simp only [Evo.after_value, Evo.after_skip]))
      refine hK'.out _ _ ?_
      clear hK'
      simp only [Act.put, L0, L1, L2]
      refine ⟨.inr (Chg.alloc (Chg.refl _ _) _), ?_⟩
      generalize hG1 : World.alloc wp1 _ = wg1
      have GG1 : Grow.G wp1 wg1 := hG1 ▸ Grow.G.alloc (Grow.G.refl _) _
      have NC1 := (congrArg (fun W : World => W.heap[wp1.heap.size]?) hG1).symm.trans (MapKept.heap_alloc wp1 _).1
      have NL1 : wp1.heap.size < wg1.heap.size := by rw [← hG1]; simp
      clear hG1
      (try have NG := Lib.hid (Blk.grow NG.out GG1))
      refine Evo2.va ok 9 _ _ ?_
      first | (refine Evo2.val ok 10 ?_ ?_ ?_; rotate_left; (intro w' hg; have nq := (fun w' b (h : Blk w' b ([.string ⟨#[102, 114, 111, 110, 116]⟩, .string ⟨#[98, 97, 99, 107]⟩, .string ⟨#[114, 45, 49]⟩] : List Value).toArray 9) => h.at AT0.out) _ _ (hg.blk NC1 (by intro q; first | exact q | (have h1 := AP1.size; have h2 := NL1; (try dsimp only at q); omega))); go_simp <;> with_reducible rfl); simp only [Act.put, L0, L1, L2]) | (refine Evo2.val ok 10 ?_ ?_ ?_; rotate_left; (intro w' hg; have nq := (fun w' b (h : Blk w' b ([.string ⟨#[119, 101, 98]⟩, .string ⟨#[97, 112, 105]⟩, .string ⟨#[97, 45, 98]⟩] : List Value).toArray 9) => h.at AT1.out) _ _ (hg.blk NC1 (by intro q; first | exact q | (have h1 := AP1.size; have h2 := NL1; (try dsimp only at q); omega))); go_simp <;> with_reducible rfl); simp only [Act.put, L0, L1, L2]) | (refine Evo2.va ok 10 _ _ ?_) | (refine Evo2.val ok 10 ?_ ?_ ?_; rotate_left; (intro w' hg; have nq := fun j => Blk.cell (w := w') (hg.blk NC1 (by intro q; first | exact q | (have h1 := AP1.size; have h2 := NL1; (try dsimp only at q); omega))) j; go_simp <;> with_reducible rfl); simp only [Act.put, L0, L1, L2])
      refine Evo2.all [0, 14] (by decide +kernel) rfl ?_
      intro wp2 gp2 iq hq
      simp only [List.mem_cons, List.mem_nil_iff, or_false] at hq
      have AP2 := Chg.trans (Chg.trans AP1 (Chg.grow GG1)) (Chg.grow gp2)
      (try have NG := Lib.hid (Blk.grow NG.out gp2))
      have NC1 := (gp2.block _ NL1).trans NC1
      have NL1 := Nat.lt_of_lt_of_le NL1 gp2.size
      rcases hq with rfl | rfl
      ·
        refine Evo2.runs (by rfl) (by rfl) (fun K' hK' => ?_)
        go_simp
        (try (simp only [Evo.after_value, Evo.after_skip]))
        refine hK'.out _ _ ?_
        clear hK'
        simp only [Act.put, L0, L1, L2]
        refine ⟨.inr (Chg.alloc (Chg.refl _ _) _), ?_⟩
        generalize hG2 : World.alloc wp2 _ = wg2
        have GG2 : Grow.G wp2 wg2 := hG2 ▸ Grow.G.alloc (Grow.G.refl _) _
        have NC1 := (GG2.block _ NL1).trans NC1
        have NL1 := Nat.lt_of_lt_of_le NL1 GG2.size
        have NC2 := (congrArg (fun W : World => W.heap[wp2.heap.size]?) hG2).symm.trans (MapKept.heap_alloc wp2 _).1
        have NL2 : wp2.heap.size < wg2.heap.size := by rw [← hG2]; simp
        clear hG2
        (try have NG := Lib.hid (Blk.grow NG.out GG2))
        refine Evo2.va ok 3 _ _ ?_
        first | (refine Evo2.val ok 4 ?_ ?_ ?_; rotate_left; (intro w' hg; have nq := (fun w' b (h : Blk w' b ([.string ⟨#[102, 114, 111, 110, 116]⟩, .string ⟨#[98, 97, 99, 107]⟩, .string ⟨#[114, 45, 49]⟩] : List Value).toArray 9) => h.at AT0.out) _ _ (hg.blk NC1 (by intro q; first | exact q | (have h1 := AP1.size; have h2 := NL1; (try dsimp only at q); omega))); go_simp <;> with_reducible rfl); simp only [Act.put, L0, L1, L2]) | (refine Evo2.val ok 4 ?_ ?_ ?_; rotate_left; (intro w' hg; have nq := (fun w' b (h : Blk w' b ([.string ⟨#[119, 101, 98]⟩, .string ⟨#[97, 112, 105]⟩, .string ⟨#[97, 45, 98]⟩] : List Value).toArray 9) => h.at AT1.out) _ _ (hg.blk NC1 (by intro q; first | exact q | (have h1 := AP1.size; have h2 := NL1; (try dsimp only at q); omega))); go_simp <;> with_reducible rfl); simp only [Act.put, L0, L1, L2]) | (refine Evo2.val ok 4 ?_ ?_ ?_; rotate_left; (intro w' hg; have nq := (fun w' b (h : Blk w' b ([.string ⟨#[102, 114, 111, 110, 116]⟩, .string ⟨#[98, 97, 99, 107]⟩, .string ⟨#[114, 45, 49]⟩] : List Value).toArray 9) => h.at AT0.out) _ _ (hg.blk NC2 (by intro q; first | exact q | (have h1 := AP2.size; have h2 := NL2; (try dsimp only at q); omega))); go_simp <;> with_reducible rfl); simp only [Act.put, L0, L1, L2]) | (refine Evo2.val ok 4 ?_ ?_ ?_; rotate_left; (intro w' hg; have nq := (fun w' b (h : Blk w' b ([.string ⟨#[119, 101, 98]⟩, .string ⟨#[97, 112, 105]⟩, .string ⟨#[97, 45, 98]⟩] : List Value).toArray 9) => h.at AT1.out) _ _ (hg.blk NC2 (by intro q; first | exact q | (have h1 := AP2.size; have h2 := NL2; (try dsimp only at q); omega))); go_simp <;> with_reducible rfl); simp only [Act.put, L0, L1, L2]) | (refine Evo2.va ok 4 _ _ ?_) | (refine Evo2.val ok 4 ?_ ?_ ?_; rotate_left; (intro w' hg; have nq := fun j => Blk.cell (w := w') (hg.blk NC1 (by intro q; first | exact q | (have h1 := AP1.size; have h2 := NL1; (try dsimp only at q); omega))) j; go_simp <;> with_reducible rfl); simp only [Act.put, L0, L1, L2]) | (refine Evo2.val ok 4 ?_ ?_ ?_; rotate_left; (intro w' hg; have nq := fun j => Blk.cell (w := w') (hg.blk NC2 (by intro q; first | exact q | (have h1 := AP2.size; have h2 := NL2; (try dsimp only at q); omega))) j; go_simp <;> with_reducible rfl); simp only [Act.put, L0, L1, L2])
        refine Evo2.va ok 13 _ _ ?_
        refine Evo2.all [14] (by decide +kernel) rfl ?_
        intro wp3 gp3 iq hq
        simp only [List.mem_cons, List.mem_nil_iff, or_false] at hq
        have AP3 := Chg.trans (Chg.trans AP2 (Chg.grow GG2)) (Chg.grow gp3)
        (try have NG := Lib.hid (Blk.grow NG.out gp3))
        have NC1 := (gp3.block _ NL1).trans NC1
        have NL1 := Nat.lt_of_lt_of_le NL1 gp3.size
        have NC2 := (gp3.block _ NL2).trans NC2
        have NL2 := Nat.lt_of_lt_of_le NL2 gp3.size
        subst hq
        refine Evo2.runs (by rfl) (by rfl) (fun K' hK' => ?_)
        go_simp
        (try (simp only [Evo.after_value, Evo.after_skip]))
        refine hK'.out _ _ ?_
        clear hK'
        simp only [Act.put, L0, L1, L2]
        refine ⟨.inr (Chg.alloc (Chg.refl _ _) _), ?_⟩
        generalize hG3 : World.alloc wp3 _ = wg3
        have GG3 : Grow.G wp3 wg3 := hG3 ▸ Grow.G.alloc (Grow.G.refl _) _
        have NC1 := (GG3.block _ NL1).trans NC1
        have NL1 := Nat.lt_of_lt_of_le NL1 GG3.size
        have NC2 := (GG3.block _ NL2).trans NC2
        have NL2 := Nat.lt_of_lt_of_le NL2 GG3.size
        have NC3 := (congrArg (fun W : World => W.heap[wp3.heap.size]?) hG3).symm.trans (MapKept.heap_alloc wp3 _).1
        have NL3 : wp3.heap.size < wg3.heap.size := by rw [← hG3]; simp
        clear hG3
        have NG : Hid (Blk _ _ _ _) := Lib.hid NC3; have HG1 := Lib.hid (show w.heap.size + 1 ≤ wp3.heap.size from by have := AP3.size; simp at this; omega)
        refine Evo2.all [15] (by decide +kernel) rfl ?_
        intro wp4 gp4 iq hq
        simp only [List.mem_cons, List.mem_nil_iff, or_false] at hq
        have AP4 := Chg.trans (Chg.trans AP3 (Chg.grow GG3)) (Chg.grow gp4)
        (try have NG := Lib.hid (Blk.grow NG.out gp4))
        have NC1 := (gp4.block _ NL1).trans NC1
        have NL1 := Nat.lt_of_lt_of_le NL1 gp4.size
        have NC2 := (gp4.block _ NL2).trans NC2
        have NL2 := Nat.lt_of_lt_of_le NL2 gp4.size
        have NC3 := (gp4.block _ NL3).trans NC3
        have NL3 := Nat.lt_of_lt_of_le NL3 gp4.size
        subst hq
        refine Evo2.runs (by rfl) (by rfl) (fun K' hK' => ?_)
        have BQ := NG.out; have gl := BQ.lt; have e0 := BQ.at (k := 0) rfl; have f0 := BQ.free 0; have e1 := BQ.at (k := 1) rfl; have f1 := BQ.free 1; have e2 := BQ.at (k := 2) rfl; have f2 := BQ.free 2; have e3 := BQ.at (k := 3) rfl; have f3 := BQ.free 3; clear BQ
        go_simp
        (try (simp only [Evo.after_value, Evo.after_skip]))
        refine hK'.out _ _ ?_
        clear hK'
        simp only [Act.put, L0, L1, L2]
        (try clear gl e0 f0 e1 f1 e2 f2 e3 f3)
        refine ⟨.inl (by first | rfl | trivial), ?_⟩
        refine Evo2.done (by decide +kernel) (fun wz gz => ?_)
        have BF := ((((NG.out.set 0 (.string nm)).set 1 (.string cf)).set 2 (.slice none 0 0)).set 3 (.int .i64 rl)).grow gz 
        simp only [List.setIfInBounds_toArray, List.set_cons_zero, List.set_cons_succ] at BF 
        have GF : Grow.G _ wz := Below.trans (Below.setCell (Below.setCell (Below.setCell (Below.setCell (chg_none0 AP4) (by have := HG1.out; simp; omega) _) (by have := HG1.out; simp; omega) _) (by have := HG1.out; simp; omega) _) (by have := HG1.out; simp; omega) _) (Below.mono gz (by have := AP4.size; simpa [World.setCell] using this)) 
        have HBF := Lib.hid BF 
        have HGF := Lib.hid GF 
        clear BF GF gz NG 
        go_wp2_with fail 
        go_meet 
        exact ⟨_, rfl, HG1.out, HBF.out.lt, HBF.out.at (k := 0) rfl, HBF.out.at (k := 1) rfl, HBF.out.at (k := 2) rfl, HBF.out.at (k := 3) rfl, HBF.out.free 2, HGF.out⟩
      ·
        refine Evo2.runs (by rfl) (by rfl) (fun K' hK' => ?_)
        go_simp
        (try (simp only [Evo.after_value, Evo.after_skip]))
        refine hK'.out _ _ ?_
        clear hK'
        simp only [Act.put, L0, L1, L2]
        refine ⟨.inr (Chg.alloc (Chg.refl _ _) _), ?_⟩
        generalize hG2 : World.alloc wp2 _ = wg2
        have GG2 : Grow.G wp2 wg2 := hG2 ▸ Grow.G.alloc (Grow.G.refl _) _
        have NC1 := (GG2.block _ NL1).trans NC1
        have NL1 := Nat.lt_of_lt_of_le NL1 GG2.size
        have NC2 := (congrArg (fun W : World => W.heap[wp2.heap.size]?) hG2).symm.trans (MapKept.heap_alloc wp2 _).1
        have NL2 : wp2.heap.size < wg2.heap.size := by rw [← hG2]; simp
        clear hG2
        have NG : Hid (Blk _ _ _ _) := Lib.hid NC2; have HG1 := Lib.hid (show w.heap.size + 1 ≤ wp2.heap.size from by have := AP2.size; simp at this; omega)
        refine Evo2.all [0] (by decide +kernel) rfl ?_
        intro wp3 gp3 iq hq
        simp only [List.mem_cons, List.mem_nil_iff, or_false] at hq
        have AP3 := Chg.trans (Chg.trans AP2 (Chg.grow GG2)) (Chg.grow gp3)
        (try have NG := Lib.hid (Blk.grow NG.out gp3))
        have NC1 := (gp3.block _ NL1).trans NC1
        have NL1 := Nat.lt_of_lt_of_le NL1 gp3.size
        have NC2 := (gp3.block _ NL2).trans NC2
        have NL2 := Nat.lt_of_lt_of_le NL2 gp3.size
        subst hq
        refine Evo2.runs (by rfl) (by rfl) (fun K' hK' => ?_)
        go_simp
        (try (simp only [Evo.after_value, Evo.after_skip]))
        refine hK'.out _ _ ?_
        clear hK'
        simp only [Act.put, L0, L1, L2]
        refine ⟨.inr (Chg.alloc (Chg.refl _ _) _), ?_⟩
        generalize hG3 : World.alloc wp3 _ = wg3
        have GG3 : Grow.G wp3 wg3 := hG3 ▸ Grow.G.alloc (Grow.G.refl _) _
        have NC1 := (GG3.block _ NL1).trans NC1
        have NL1 := Nat.lt_of_lt_of_le NL1 GG3.size
        have NC2 := (GG3.block _ NL2).trans NC2
        have NL2 := Nat.lt_of_lt_of_le NL2 GG3.size
        have NC3 := (congrArg (fun W : World => W.heap[wp3.heap.size]?) hG3).symm.trans (MapKept.heap_alloc wp3 _).1
        have NL3 : wp3.heap.size < wg3.heap.size := by rw [← hG3]; simp
        clear hG3
        (try have NG := Lib.hid (Blk.grow NG.out GG3))
        refine Evo2.va ok 3 _ _ ?_
        first | (refine Evo2.val ok 4 ?_ ?_ ?_; rotate_left; (intro w' hg; have nq := (fun w' b (h : Blk w' b ([.string ⟨#[102, 114, 111, 110, 116]⟩, .string ⟨#[98, 97, 99, 107]⟩, .string ⟨#[114, 45, 49]⟩] : List Value).toArray 9) => h.at AT0.out) _ _ (hg.blk NC1 (by intro q; first | exact q | (have h1 := AP1.size; have h2 := NL1; (try dsimp only at q); omega))); go_simp <;> with_reducible rfl); simp only [Act.put, L0, L1, L2]) | (refine Evo2.val ok 4 ?_ ?_ ?_; rotate_left; (intro w' hg; have nq := (fun w' b (h : Blk w' b ([.string ⟨#[119, 101, 98]⟩, .string ⟨#[97, 112, 105]⟩, .string ⟨#[97, 45, 98]⟩] : List Value).toArray 9) => h.at AT1.out) _ _ (hg.blk NC1 (by intro q; first | exact q | (have h1 := AP1.size; have h2 := NL1; (try dsimp only at q); omega))); go_simp <;> with_reducible rfl); simp only [Act.put, L0, L1, L2]) | (refine Evo2.val ok 4 ?_ ?_ ?_; rotate_left; (intro w' hg; have nq := (fun w' b (h : Blk w' b ([.string ⟨#[102, 114, 111, 110, 116]⟩, .string ⟨#[98, 97, 99, 107]⟩, .string ⟨#[114, 45, 49]⟩] : List Value).toArray 9) => h.at AT0.out) _ _ (hg.blk NC2 (by intro q; first | exact q | (have h1 := AP2.size; have h2 := NL2; (try dsimp only at q); omega))); go_simp <;> with_reducible rfl); simp only [Act.put, L0, L1, L2]) | (refine Evo2.val ok 4 ?_ ?_ ?_; rotate_left; (intro w' hg; have nq := (fun w' b (h : Blk w' b ([.string ⟨#[119, 101, 98]⟩, .string ⟨#[97, 112, 105]⟩, .string ⟨#[97, 45, 98]⟩] : List Value).toArray 9) => h.at AT1.out) _ _ (hg.blk NC2 (by intro q; first | exact q | (have h1 := AP2.size; have h2 := NL2; (try dsimp only at q); omega))); go_simp <;> with_reducible rfl); simp only [Act.put, L0, L1, L2]) | (refine Evo2.val ok 4 ?_ ?_ ?_; rotate_left; (intro w' hg; have nq := (fun w' b (h : Blk w' b ([.string ⟨#[102, 114, 111, 110, 116]⟩, .string ⟨#[98, 97, 99, 107]⟩, .string ⟨#[114, 45, 49]⟩] : List Value).toArray 9) => h.at AT0.out) _ _ (hg.blk NC3 (by intro q; first | exact q | (have h1 := AP3.size; have h2 := NL3; (try dsimp only at q); omega))); go_simp <;> with_reducible rfl); simp only [Act.put, L0, L1, L2]) | (refine Evo2.val ok 4 ?_ ?_ ?_; rotate_left; (intro w' hg; have nq := (fun w' b (h : Blk w' b ([.string ⟨#[119, 101, 98]⟩, .string ⟨#[97, 112, 105]⟩, .string ⟨#[97, 45, 98]⟩] : List Value).toArray 9) => h.at AT1.out) _ _ (hg.blk NC3 (by intro q; first | exact q | (have h1 := AP3.size; have h2 := NL3; (try dsimp only at q); omega))); go_simp <;> with_reducible rfl); simp only [Act.put, L0, L1, L2]) | (refine Evo2.va ok 4 _ _ ?_) | (refine Evo2.val ok 4 ?_ ?_ ?_; rotate_left; (intro w' hg; have nq := fun j => Blk.cell (w := w') (hg.blk NC1 (by intro q; first | exact q | (have h1 := AP1.size; have h2 := NL1; (try dsimp only at q); omega))) j; go_simp <;> with_reducible rfl); simp only [Act.put, L0, L1, L2]) | (refine Evo2.val ok 4 ?_ ?_ ?_; rotate_left; (intro w' hg; have nq := fun j => Blk.cell (w := w') (hg.blk NC2 (by intro q; first | exact q | (have h1 := AP2.size; have h2 := NL2; (try dsimp only at q); omega))) j; go_simp <;> with_reducible rfl); simp only [Act.put, L0, L1, L2]) | (refine Evo2.val ok 4 ?_ ?_ ?_; rotate_left; (intro w' hg; have nq := fun j => Blk.cell (w := w') (hg.blk NC3 (by intro q; first | exact q | (have h1 := AP3.size; have h2 := NL3; (try dsimp only at q); omega))) j; go_simp <;> with_reducible rfl); simp only [Act.put, L0, L1, L2])
        refine Evo2.va ok 13 _ _ ?_
        refine Evo2.all [15] (by decide +kernel) rfl ?_
        intro wp4 gp4 iq hq
        simp only [List.mem_cons, List.mem_nil_iff, or_false] at hq
        have AP4 := Chg.trans (Chg.trans AP3 (Chg.grow GG3)) (Chg.grow gp4)
        (try have NG := Lib.hid (Blk.grow NG.out gp4))
        have NC1 := (gp4.block _ NL1).trans NC1
        have NL1 := Nat.lt_of_lt_of_le NL1 gp4.size
        have NC2 := (gp4.block _ NL2).trans NC2
        have NL2 := Nat.lt_of_lt_of_le NL2 gp4.size
        have NC3 := (gp4.block _ NL3).trans NC3
        have NL3 := Nat.lt_of_lt_of_le NL3 gp4.size
        subst hq
        refine Evo2.runs (by rfl) (by rfl) (fun K' hK' => ?_)
        have BQ := NG.out; have gl := BQ.lt; have e0 := BQ.at (k := 0) rfl; have f0 := BQ.free 0; have e1 := BQ.at (k := 1) rfl; have f1 := BQ.free 1; have e2 := BQ.at (k := 2) rfl; have f2 := BQ.free 2; have e3 := BQ.at (k := 3) rfl; have f3 := BQ.free 3; clear BQ
        go_simp
        (try (simp only [Evo.after_value, Evo.after_skip]))
        refine hK'.out _ _ ?_
        clear hK'
        simp only [Act.put, L0, L1, L2]
        (try clear gl e0 f0 e1 f1 e2 f2 e3 f3)
        refine ⟨.inl (by first | rfl | trivial), ?_⟩
        refine Evo2.done (by decide +kernel) (fun wz gz => ?_)
        have BF := ((((NG.out.set 0 (.string nm)).set 1 (.string cf)).set 2 (.slice none 0 0)).set 3 (.int .i64 rl)).grow gz 
        simp only [List.setIfInBounds_toArray, List.set_cons_zero, List.set_cons_succ] at BF 
        have GF : Grow.G _ wz := Below.trans (Below.setCell (Below.setCell (Below.setCell (Below.setCell (chg_none0 AP4) (by have := HG1.out; simp; omega) _) (by have := HG1.out; simp; omega) _) (by have := HG1.out; simp; omega) _) (by have := HG1.out; simp; omega) _) (Below.mono gz (by have := AP4.size; simpa [World.setCell] using this)) 
        have HBF := Lib.hid BF 
        have HGF := Lib.hid GF 
        clear BF GF gz NG 
        go_wp2_with fail 
        go_meet 
        exact ⟨_, rfl, HG1.out, HBF.out.lt, HBF.out.at (k := 0) rfl, HBF.out.at (k := 1) rfl, HBF.out.at (k := 2) rfl, HBF.out.at (k := 3) rfl, HBF.out.free 2, HGF.out⟩
    ·
      refine Evo2.runs (by rfl) (by rfl) (fun K' hK' => ?_)
      go_simp
      (try (simp only [Evo.after_value, Evo.after_skip]))
      refine hK'.out _ _ ?_
      clear hK'
      simp only [Act.put, L0, L1, L2]
      refine ⟨.inr (Chg.alloc (Chg.refl _ _) _), ?_⟩
      generalize hG1 : World.alloc wp1 _ = wg1
      have GG1 : Grow.G wp1 wg1 := hG1 ▸ Grow.G.alloc (Grow.G.refl _) _
      have NC1 := (congrArg (fun W : World => W.heap[wp1.heap.size]?) hG1).symm.trans (MapKept.heap_alloc wp1 _).1
      have NL1 : wp1.heap.size < wg1.heap.size := by rw [← hG1]; simp
      clear hG1
      have NG : Hid (Blk _ _ _ _) := Lib.hid NC1; have HG1 := Lib.hid (show w.heap.size + 1 ≤ wp1.heap.size from by have := AP1.size; simp at this; omega)
      refine Evo2.all [0, 5] (by decide +kernel) rfl ?_
      intro wp2 gp2 iq hq
      simp only [List.mem_cons, List.mem_nil_iff, or_false] at hq
      have AP2 := Chg.trans (Chg.trans AP1 (Chg.grow GG1)) (Chg.grow gp2)
      (try have NG := Lib.hid (Blk.grow NG.out gp2))
      have NC1 := (gp2.block _ NL1).trans NC1
      have NL1 := Nat.lt_of_lt_of_le NL1 gp2.size
      rcases hq with rfl | rfl
      ·
        refine Evo2.runs (by rfl) (by rfl) (fun K' hK' => ?_)
        go_simp
        (try (simp only [Evo.after_value, Evo.after_skip]))
        refine hK'.out _ _ ?_
        clear hK'
        simp only [Act.put, L0, L1, L2]
        refine ⟨.inr (Chg.alloc (Chg.refl _ _) _), ?_⟩
        generalize hG2 : World.alloc wp2 _ = wg2
        have GG2 : Grow.G wp2 wg2 := hG2 ▸ Grow.G.alloc (Grow.G.refl _) _
        have NC1 := (GG2.block _ NL1).trans NC1
        have NL1 := Nat.lt_of_lt_of_le NL1 GG2.size
        have NC2 := (congrArg (fun W : World => W.heap[wp2.heap.size]?) hG2).symm.trans (MapKept.heap_alloc wp2 _).1
        have NL2 : wp2.heap.size < wg2.heap.size := by rw [← hG2]; simp
        clear hG2
        (try have NG := Lib.hid (Blk.grow NG.out GG2))
        refine Evo2.va ok 3 _ _ ?_
        first | (refine Evo2.val ok 4 ?_ ?_ ?_; rotate_left; (intro w' hg; have nq := (fun w' b (h : Blk w' b ([.string ⟨#[102, 114, 111, 110, 116]⟩, .string ⟨#[98, 97, 99, 107]⟩, .string ⟨#[114, 45, 49]⟩] : List Value).toArray 9) => h.at AT0.out) _ _ (hg.blk NC1 (by intro q; first | exact q | (have h1 := AP1.size; have h2 := NL1; (try dsimp only at q); omega))); go_simp <;> with_reducible rfl); simp only [Act.put, L0, L1, L2]) | (refine Evo2.val ok 4 ?_ ?_ ?_; rotate_left; (intro w' hg; have nq := (fun w' b (h : Blk w' b ([.string ⟨#[119, 101, 98]⟩, .string ⟨#[97, 112, 105]⟩, .string ⟨#[97, 45, 98]⟩] : List Value).toArray 9) => h.at AT1.out) _ _ (hg.blk NC1 (by intro q; first | exact q | (have h1 := AP1.size; have h2 := NL1; (try dsimp only at q); omega))); go_simp <;> with_reducible rfl); simp only [Act.put, L0, L1, L2]) | (refine Evo2.val ok 4 ?_ ?_ ?_; rotate_left; (intro w' hg; have nq := (fun w' b (h : Blk w' b ([.string ⟨#[102, 114, 111, 110, 116]⟩, .string ⟨#[98, 97, 99, 107]⟩, .string ⟨#[114, 45, 49]⟩] : List Value).toArray 9) => h.at AT0.out) _ _ (hg.blk NC2 (by intro q; first | exact q | (have h1 := AP2.size; have h2 := NL2; (try dsimp only at q); omega))); go_simp <;> with_reducible rfl); simp only [Act.put, L0, L1, L2]) | (refine Evo2.val ok 4 ?_ ?_ ?_; rotate_left; (intro w' hg; have nq := (fun w' b (h : Blk w' b ([.string ⟨#[119, 101, 98]⟩, .string ⟨#[97, 112, 105]⟩, .string ⟨#[97, 45, 98]⟩] : List Value).toArray 9) => h.at AT1.out) _ _ (hg.blk NC2 (by intro q; first | exact q | (have h1 := AP2.size; have h2 := NL2; (try dsimp only at q); omega))); go_simp <;> with_reducible rfl); simp only [Act.put, L0, L1, L2]) | (refine Evo2.va ok 4 _ _ ?_) | (refine Evo2.val ok 4 ?_ ?_ ?_; rotate_left; (intro w' hg; have nq := fun j => Blk.cell (w := w') (hg.blk NC1 (by intro q; first | exact q | (have h1 := AP1.size; have h2 := NL1; (try dsimp only at q); omega))) j; go_simp <;> with_reducible rfl); simp only [Act.put, L0, L1, L2]) | (refine Evo2.val ok 4 ?_ ?_ ?_; rotate_left; (intro w' hg; have nq := fun j => Blk.cell (w := w') (hg.blk NC2 (by intro q; first | exact q | (have h1 := AP2.size; have h2 := NL2; (try dsimp only at q); omega))) j; go_simp <;> with_reducible rfl); simp only [Act.put, L0, L1, L2])
        refine Evo2.all [5] (by decide +kernel) rfl ?_
        intro wp3 gp3 iq hq
        simp only [List.mem_cons, List.mem_nil_iff, or_false] at hq
        have AP3 := Chg.trans (Chg.trans AP2 (Chg.grow GG2)) (Chg.grow gp3)
        (try have NG := Lib.hid (Blk.grow NG.out gp3))
        have NC1 := (gp3.block _ NL1).trans NC1
        have NL1 := Nat.lt_of_lt_of_le NL1 gp3.size
        have NC2 := (gp3.block _ NL2).trans NC2
        have NL2 := Nat.lt_of_lt_of_le NL2 gp3.size
        subst hq
        refine Evo2.runs (by rfl) (by rfl) (fun K' hK' => ?_)
        go_simp
        (try (simp only [Evo.after_value, Evo.after_skip]))
        refine hK'.out _ _ ?_
        clear hK'
        simp only [Act.put, L0, L1, L2]
        refine ⟨.inr (Chg.alloc (Chg.refl _ _) _), ?_⟩
        generalize hG3 : World.alloc wp3 _ = wg3
        have GG3 : Grow.G wp3 wg3 := hG3 ▸ Grow.G.alloc (Grow.G.refl _) _
        have NC1 := (GG3.block _ NL1).trans NC1
        have NL1 := Nat.lt_of_lt_of_le NL1 GG3.size
        have NC2 := (GG3.block _ NL2).trans NC2
        have NL2 := Nat.lt_of_lt_of_le NL2 GG3.size
        have NC3 := (congrArg (fun W : World => W.heap[wp3.heap.size]?) hG3).symm.trans (MapKept.heap_alloc wp3 _).1
        have NL3 : wp3.heap.size < wg3.heap.size := by rw [← hG3]; simp
        clear hG3
        (try have NG := Lib.hid (Blk.grow NG.out GG3))
        refine Evo2.va ok 9 _ _ ?_
        first | (refine Evo2.val ok 10 ?_ ?_ ?_; rotate_left; (intro w' hg; have nq := (fun w' b (h : Blk w' b ([.string ⟨#[102, 114, 111, 110, 116]⟩, .string ⟨#[98, 97, 99, 107]⟩, .string ⟨#[114, 45, 49]⟩] : List Value).toArray 9) => h.at AT0.out) _ _ (hg.blk NC1 (by intro q; first | exact q | (have h1 := AP1.size; have h2 := NL1; (try dsimp only at q); omega))); go_simp <;> with_reducible rfl); simp only [Act.put, L0, L1, L2]) | (refine Evo2.val ok 10 ?_ ?_ ?_; rotate_left; (intro w' hg; have nq := (fun w' b (h : Blk w' b ([.string ⟨#[119, 101, 98]⟩, .string ⟨#[97, 112, 105]⟩, .string ⟨#[97, 45, 98]⟩] : List Value).toArray 9) => h.at AT1.out) _ _ (hg.blk NC1 (by intro q; first | exact q | (have h1 := AP1.size; have h2 := NL1; (try dsimp only at q); omega))); go_simp <;> with_reducible rfl); simp only [Act.put, L0, L1, L2]) | (refine Evo2.val ok 10 ?_ ?_ ?_; rotate_left; (intro w' hg; have nq := (fun w' b (h : Blk w' b ([.string ⟨#[102, 114, 111, 110, 116]⟩, .string ⟨#[98, 97, 99, 107]⟩, .string ⟨#[114, 45, 49]⟩] : List Value).toArray 9) => h.at AT0.out) _ _ (hg.blk NC2 (by intro q; first | exact q | (have h1 := AP2.size; have h2 := NL2; (try dsimp only at q); omega))); go_simp <;> with_reducible rfl); simp only [Act.put, L0, L1, L2]) | (refine Evo2.val ok 10 ?_ ?_ ?_; rotate_left; (intro w' hg; have nq := (fun w' b (h : Blk w' b ([.string ⟨#[119, 101, 98]⟩, .string ⟨#[97, 112, 105]⟩, .string ⟨#[97, 45, 98]⟩] : List Value).toArray 9) => h.at AT1.out) _ _ (hg.blk NC2 (by intro q; first | exact q | (have h1 := AP2.size; have h2 := NL2; (try dsimp only at q); omega))); go_simp <;> with_reducible rfl); simp only [Act.put, L0, L1, L2]) | (refine Evo2.val ok 10 ?_ ?_ ?_; rotate_left; (intro w' hg; have nq := (fun w' b (h : Blk w' b ([.string ⟨#[102, 114, 111, 110, 116]⟩, .string ⟨#[98, 97, 99, 107]⟩, .string ⟨#[114, 45, 49]⟩] : List Value).toArray 9) => h.at AT0.out) _ _ (hg.blk NC3 (by intro q; first | exact q | (have h1 := AP3.size; have h2 := NL3; (try dsimp only at q); omega))); go_simp <;> with_reducible rfl); simp only [Act.put, L0, L1, L2]) | (refine Evo2.val ok 10 ?_ ?_ ?_; rotate_left; (intro w' hg; have nq := (fun w' b (h : Blk w' b ([.string ⟨#[119, 101, 98]⟩, .string ⟨#[97, 112, 105]⟩, .string ⟨#[97, 45, 98]⟩] : List Value).toArray 9) => h.at AT1.out) _ _ (hg.blk NC3 (by intro q; first | exact q | (have h1 := AP3.size; have h2 := NL3; (try dsimp only at q); omega))); go_simp <;> with_reducible rfl); simp only [Act.put, L0, L1, L2]) | (refine Evo2.va ok 10 _ _ ?_) | (refine Evo2.val ok 10 ?_ ?_ ?_; rotate_left; (intro w' hg; have nq := fun j => Blk.cell (w := w') (hg.blk NC1 (by intro q; first | exact q | (have h1 := AP1.size; have h2 := NL1; (try dsimp only at q); omega))) j; go_simp <;> with_reducible rfl); simp only [Act.put, L0, L1, L2]) | (refine Evo2.val ok 10 ?_ ?_ ?_; rotate_left; (intro w' hg; have nq := fun j => Blk.cell (w := w') (hg.blk NC2 (by intro q; first | exact q | (have h1 := AP2.size; have h2 := NL2; (try dsimp only at q); omega))) j; go_simp <;> with_reducible rfl); simp only [Act.put, L0, L1, L2]) | (refine Evo2.val ok 10 ?_ ?_ ?_; rotate_left; (intro w' hg; have nq := fun j => Blk.cell (w := w') (hg.blk NC3 (by intro q; first | exact q | (have h1 := AP3.size; have h2 := NL3; (try dsimp only at q); omega))) j; go_simp <;> with_reducible rfl); simp only [Act.put, L0, L1, L2])
        refine Evo2.va ok 13 _ _ ?_
        refine Evo2.all [15] (by decide +kernel) rfl ?_
        intro wp4 gp4 iq hq
        simp only [List.mem_cons, List.mem_nil_iff, or_false] at hq
        have AP4 := Chg.trans (Chg.trans AP3 (Chg.grow GG3)) (Chg.grow gp4)
        (try have NG := Lib.hid (Blk.grow NG.out gp4))
        have NC1 := (gp4.block _ NL1).trans NC1
        have NL1 := Nat.lt_of_lt_of_le NL1 gp4.size
        have NC2 := (gp4.block _ NL2).trans NC2
        have NL2 := Nat.lt_of_lt_of_le NL2 gp4.size
        have NC3 := (gp4.block _ NL3).trans NC3
        have NL3 := Nat.lt_of_lt_of_le NL3 gp4.size
        subst hq
        refine Evo2.runs (by rfl) (by rfl) (fun K' hK' => ?_)
        have BQ := NG.out; have gl := BQ.lt; have e0 := BQ.at (k := 0) rfl; have f0 := BQ.free 0; have e1 := BQ.at (k := 1) rfl; have f1 := BQ.free 1; have e2 := BQ.at (k := 2) rfl; have f2 := BQ.free 2; have e3 := BQ.at (k := 3) rfl; have f3 := BQ.free 3; clear BQ
        go_simp
        (try (simp only [Evo.after_value, Evo.after_skip]))
        refine hK'.out _ _ ?_
        clear hK'
        simp only [Act.put, L0, L1, L2]
        (try clear gl e0 f0 e1 f1 e2 f2 e3 f3)
        refine ⟨.inl (by first | rfl | trivial), ?_⟩
        refine Evo2.done (by decide +kernel) (fun wz gz => ?_)
        have BF := ((((NG.out.set 0 (.string nm)).set 1 (.string cf)).set 2 (.slice none 0 0)).set 3 (.int .i64 rl)).grow gz 
        simp only [List.setIfInBounds_toArray, List.set_cons_zero, List.set_cons_succ] at BF 
        have GF : Grow.G _ wz := Below.trans (Below.setCell (Below.setCell (Below.setCell (Below.setCell (chg_none0 AP4) (by have := HG1.out; simp; omega) _) (by have := HG1.out; simp; omega) _) (by have := HG1.out; simp; omega) _) (by have := HG1.out; simp; omega) _) (Below.mono gz (by have := AP4.size; simpa [World.setCell] using this)) 
        have HBF := Lib.hid BF 
        have HGF := Lib.hid GF 
        clear BF GF gz NG 
        go_wp2_with fail 
        go_meet 
        exact ⟨_, rfl, HG1.out, HBF.out.lt, HBF.out.at (k := 0) rfl, HBF.out.at (k := 1) rfl, HBF.out.at (k := 2) rfl, HBF.out.at (k := 3) rfl, HBF.out.free 2, HGF.out⟩
      ·
        refine Evo2.runs (by rfl) (by rfl) (fun K' hK' => ?_)
        go_simp
        (try (simp only [Evo.after_value, Evo.after_skip]))
        refine hK'.out _ _ ?_
        clear hK'
        simp only [Act.put, L0, L1, L2]
        refine ⟨.inr (Chg.alloc (Chg.refl _ _) _), ?_⟩
        generalize hG2 : World.alloc wp2 _ = wg2
        have GG2 : Grow.G wp2 wg2 := hG2 ▸ Grow.G.alloc (Grow.G.refl _) _
        have NC1 := (GG2.block _ NL1).trans NC1
        have NL1 := Nat.lt_of_lt_of_le NL1 GG2.size
        have NC2 := (congrArg (fun W : World => W.heap[wp2.heap.size]?) hG2).symm.trans (MapKept.heap_alloc wp2 _).1
        have NL2 : wp2.heap.size < wg2.heap.size := by rw [← hG2]; simp
        clear hG2
        (try have NG := Lib.hid (Blk.grow NG.out GG2))
        refine Evo2.va ok 9 _ _ ?_
        first | (refine Evo2.val ok 10 ?_ ?_ ?_; rotate_left; (intro w' hg; have nq := (fun w' b (h : Blk w' b ([.string ⟨#[102, 114, 111, 110, 116]⟩, .string ⟨#[98, 97, 99, 107]⟩, .string ⟨#[114, 45, 49]⟩] : List Value).toArray 9) => h.at AT0.out) _ _ (hg.blk NC1 (by intro q; first | exact q | (have h1 := AP1.size; have h2 := NL1; (try dsimp only at q); omega))); go_simp <;> with_reducible rfl); simp only [Act.put, L0, L1, L2]) | (refine Evo2.val ok 10 ?_ ?_ ?_; rotate_left; (intro w' hg; have nq := (fun w' b (h : Blk w' b ([.string ⟨#[119, 101, 98]⟩, .string ⟨#[97, 112, 105]⟩, .string ⟨#[97, 45, 98]⟩] : List Value).toArray 9) => h.at AT1.out) _ _ (hg.blk NC1 (by intro q; first | exact q | (have h1 := AP1.size; have h2 := NL1; (try dsimp only at q); omega))); go_simp <;> with_reducible rfl); simp only [Act.put, L0, L1, L2]) | (refine Evo2.val ok 10 ?_ ?_ ?_; rotate_left; (intro w' hg; have nq := (fun w' b (h : Blk w' b ([.string ⟨#[102, 114, 111, 110, 116]⟩, .string ⟨#[98, 97, 99, 107]⟩, .string ⟨#[114, 45, 49]⟩] : List Value).toArray 9) => h.at AT0.out) _ _ (hg.blk NC2 (by intro q; first | exact q | (have h1 := AP2.size; have h2 := NL2; (try dsimp only at q); omega))); go_simp <;> with_reducible rfl); simp only [Act.put, L0, L1, L2]) | (refine Evo2.val ok 10 ?_ ?_ ?_; rotate_left; (intro w' hg; have nq := (fun w' b (h : Blk w' b ([.string ⟨#[119, 101, 98]⟩, .string ⟨#[97, 112, 105]⟩, .string ⟨#[97, 45, 98]⟩] : List Value).toArray 9) => h.at AT1.out) _ _ (hg.blk NC2 (by intro q; first | exact q | (have h1 := AP2.size; have h2 := NL2; (try dsimp only at q); omega))); go_simp <;> with_reducible rfl); simp only [Act.put, L0, L1, L2]) | (refine Evo2.va ok 10 _ _ ?_) | (refine Evo2.val ok 10 ?_ ?_ ?_; rotate_left; (intro w' hg; have nq := fun j => Blk.cell (w := w') (hg.blk NC1 (by intro q; first | exact q | (have h1 := AP1.size; have h2 := NL1; (try dsimp only at q); omega))) j; go_simp <;> with_reducible rfl); simp only [Act.put, L0, L1, L2]) | (refine Evo2.val ok 10 ?_ ?_ ?_; rotate_left; (intro w' hg; have nq := fun j => Blk.cell (w := w') (hg.blk NC2 (by intro q; first | exact q | (have h1 := AP2.size; have h2 := NL2; (try dsimp only at q); omega))) j; go_simp <;> with_reducible rfl); simp only [Act.put, L0, L1, L2])
        refine Evo2.all [0] (by decide +kernel) rfl ?_
        intro wp3 gp3 iq hq
        simp only [List.mem_cons, List.mem_nil_iff, or_false] at hq
        have AP3 := Chg.trans (Chg.trans AP2 (Chg.grow GG2)) (Chg.grow gp3)
        (try have NG := Lib.hid (Blk.grow NG.out gp3))
        have NC1 := (gp3.block _ NL1).trans NC1
        have NL1 := Nat.lt_of_lt_of_le NL1 gp3.size
        have NC2 := (gp3.block _ NL2).trans NC2
        have NL2 := Nat.lt_of_lt_of_le NL2 gp3.size
        subst hq
        refine Evo2.runs (by rfl) (by rfl) (fun K' hK' => ?_)
        go_simp
        (try (simp only [Evo.after_value, Evo.after_skip]))
        refine hK'.out _ _ ?_
        clear hK'
        simp only [Act.put, L0, L1, L2]
        refine ⟨.inr (Chg.alloc (Chg.refl _ _) _), ?_⟩
        generalize hG3 : World.alloc wp3 _ = wg3
        have GG3 : Grow.G wp3 wg3 := hG3 ▸ Grow.G.alloc (Grow.G.refl _) _
        have NC1 := (GG3.block _ NL1).trans NC1
        have NL1 := Nat.lt_of_lt_of_le NL1 GG3.size
        have NC2 := (GG3.block _ NL2).trans NC2
        have NL2 := Nat.lt_of_lt_of_le NL2 GG3.size
        have NC3 := (congrArg (fun W : World => W.heap[wp3.heap.size]?) hG3).symm.trans (MapKept.heap_alloc wp3 _).1
        have NL3 : wp3.heap.size < wg3.heap.size := by rw [← hG3]; simp
        clear hG3
        (try have NG := Lib.hid (Blk.grow NG.out GG3))
        refine Evo2.va ok 3 _ _ ?_
        first | (refine Evo2.val ok 4 ?_ ?_ ?_; rotate_left; (intro w' hg; have nq := (fun w' b (h : Blk w' b ([.string ⟨#[102, 114, 111, 110, 116]⟩, .string ⟨#[98, 97, 99, 107]⟩, .string ⟨#[114, 45, 49]⟩] : List Value).toArray 9) => h.at AT0.out) _ _ (hg.blk NC1 (by intro q; first | exact q | (have h1 := AP1.size; have h2 := NL1; (try dsimp only at q); omega))); go_simp <;> with_reducible rfl); simp only [Act.put, L0, L1, L2]) | (refine Evo2.val ok 4 ?_ ?_ ?_; rotate_left; (intro w' hg; have nq := (fun w' b (h : Blk w' b ([.string ⟨#[119, 101, 98]⟩, .string ⟨#[97, 112, 105]⟩, .string ⟨#[97, 45, 98]⟩] : List Value).toArray 9) => h.at AT1.out) _ _ (hg.blk NC1 (by intro q; first | exact q | (have h1 := AP1.size; have h2 := NL1; (try dsimp only at q); omega))); go_simp <;> with_reducible rfl); simp only [Act.put, L0, L1, L2]) | (refine Evo2.val ok 4 ?_ ?_ ?_; rotate_left; (intro w' hg; have nq := (fun w' b (h : Blk w' b ([.string ⟨#[102, 114, 111, 110, 116]⟩, .string ⟨#[98, 97, 99, 107]⟩, .string ⟨#[114, 45, 49]⟩] : List Value).toArray 9) => h.at AT0.out) _ _ (hg.blk NC2 (by intro q; first | exact q | (have h1 := AP2.size; have h2 := NL2; (try dsimp only at q); omega))); go_simp <;> with_reducible rfl); simp only [Act.put, L0, L1, L2]) | (refine Evo2.val ok 4 ?_ ?_ ?_; rotate_left; (intro w' hg; have nq := (fun w' b (h : Blk w' b ([.string ⟨#[119, 101, 98]⟩, .string ⟨#[97, 112, 105]⟩, .string ⟨#[97, 45, 98]⟩] : List Value).toArray 9) => h.at AT1.out) _ _ (hg.blk NC2 (by intro q; first | exact q | (have h1 := AP2.size; have h2 := NL2; (try dsimp only at q); omega))); go_simp <;> with_reducible rfl); simp only [Act.put, L0, L1, L2]) | (refine Evo2.val ok 4 ?_ ?_ ?_; rotate_left; (intro w' hg; have nq := (fun w' b (h : Blk w' b ([.string ⟨#[102, 114, 111, 110, 116]⟩, .string ⟨#[98, 97, 99, 107]⟩, .string ⟨#[114, 45, 49]⟩] : List Value).toArray 9) => h.at AT0.out) _ _ (hg.blk NC3 (by intro q; first | exact q | (have h1 := AP3.size; have h2 := NL3; (try dsimp only at q); omega))); go_simp <;> with_reducible rfl); simp only [Act.put, L0, L1, L2]) | (refine Evo2.val ok 4 ?_ ?_ ?_; rotate_left; (intro w' hg; have nq := (fun w' b (h : Blk w' b ([.string ⟨#[119, 101, 98]⟩, .string ⟨#[97, 112, 105]⟩, .string ⟨#[97, 45, 98]⟩] : List Value).toArray 9) => h.at AT1.out) _ _ (hg.blk NC3 (by intro q; first | exact q | (have h1 := AP3.size; have h2 := NL3; (try dsimp only at q); omega))); go_simp <;> with_reducible rfl); simp only [Act.put, L0, L1, L2]) | (refine Evo2.va ok 4 _ _ ?_) | (refine Evo2.val ok 4 ?_ ?_ ?_; rotate_left; (intro w' hg; have nq := fun j => Blk.cell (w := w') (hg.blk NC1 (by intro q; first | exact q | (have h1 := AP1.size; have h2 := NL1; (try dsimp only at q); omega))) j; go_simp <;> with_reducible rfl); simp only [Act.put, L0, L1, L2]) | (refine Evo2.val ok 4 ?_ ?_ ?_; rotate_left; (intro w' hg; have nq := fun j => Blk.cell (w := w') (hg.blk NC2 (by intro q; first | exact q | (have h1 := AP2.size; have h2 := NL2; (try dsimp only at q); omega))) j; go_simp <;> with_reducible rfl); simp only [Act.put, L0, L1, L2]) | (refine Evo2.val ok 4 ?_ ?_ ?_; rotate_left; (intro w' hg; have nq := fun j => Blk.cell (w := w') (hg.blk NC3 (by intro q; first | exact q | (have h1 := AP3.size; have h2 := NL3; (try dsimp only at q); omega))) j; go_simp <;> with_reducible rfl); simp only [Act.put, L0, L1, L2])
        refine Evo2.va ok 13 _ _ ?_
        refine Evo2.all [15] (by decide +kernel) rfl ?_
        intro wp4 gp4 iq hq
        simp only [List.mem_cons, List.mem_nil_iff, or_false] at hq
        have AP4 := Chg.trans (Chg.trans AP3 (Chg.grow GG3)) (Chg.grow gp4)
        (try have NG := Lib.hid (Blk.grow NG.out gp4))
        have NC1 := (gp4.block _ NL1).trans NC1
        have NL1 := Nat.lt_of_lt_of_le NL1 gp4.size
        have NC2 := (gp4.block _ NL2).trans NC2
        have NL2 := Nat.lt_of_lt_of_le NL2 gp4.size
        have NC3 := (gp4.block _ NL3).trans NC3
        have NL3 := Nat.lt_of_lt_of_le NL3 gp4.size
        subst hq
        refine Evo2.runs (by rfl) (by rfl) (fun K' hK' => ?_)
        have BQ := NG.out; have gl := BQ.lt; have e0 := BQ.at (k := 0) rfl; have f0 := BQ.free 0; have e1 := BQ.at (k := 1) rfl; have f1 := BQ.free 1; have e2 := BQ.at (k := 2) rfl; have f2 := BQ.free 2; have e3 := BQ.at (k := 3) rfl; have f3 := BQ.free 3; clear BQ
        go_simp
        (try (simp only [Evo.after_value, Evo.after_skip]))
        refine hK'.out _ _ ?_
        clear hK'
        simp only [Act.put, L0, L1, L2]
        (try clear gl e0 f0 e1 f1 e2 f2 e3 f3)
        refine ⟨.inl (by first | rfl | trivial), ?_⟩
        refine Evo2.done (by decide +kernel) (fun wz gz => ?_)
        have BF := ((((NG.out.set 0 (.string nm)).set 1 (.string cf)).set 2 (.slice none 0 0)).set 3 (.int .i64 rl)).grow gz 
        simp only [List.setIfInBounds_toArray, List.set_cons_zero, List.set_cons_succ] at BF 
        have GF : Grow.G _ wz := Below.trans (Below.setCell (Below.setCell (Below.setCell (Below.setCell (chg_none0 AP4) (by have := HG1.out; simp; omega) _) (by have := HG1.out; simp; omega) _) (by have := HG1.out; simp; omega) _) (by have := HG1.out; simp; omega) _) (Below.mono gz (by have := AP4.size; simpa [World.setCell] using this)) 
        have HBF := Lib.hid BF 
        have HGF := Lib.hid GF 
        clear BF GF gz NG 
        go_wp2_with fail 
        go_meet 
        exact ⟨_, rfl, HG1.out, HBF.out.lt, HBF.out.at (k := 0) rfl, HBF.out.at (k := 1) rfl, HBF.out.at (k := 2) rfl, HBF.out.at (k := 3) rfl, HBF.out.free 2, HGF.out⟩
  case rest =>
    obtain ⟨g, rfl, hg1, hg2, c0, c1, c2, c3, f2, hG⟩ := hcut
    have HG := Lib.hid hG
    have N6 := nT_range zs
    have NT : Hid (nT zs = if lz = 0 then 1 else 1 + (withinI (zs.getD 0 0) 6).toNat) := Lib.hid (by rw [← LZ.out]; rfl)
    clear hG at0 at1 wr3 a0 a1 a2 a3 hk0 hk1
    generalize hN : nT zs = N at *
    have HN := Lib.hid hN
    clear hN
    go_upto_if 29 with fail
    go_cut [9] (fun s9 wx => s9 = .int .i64 N ∧ wc = wx)
    case first =>
      by_cases hz0 : lz = 0
      · have e1 : Hid (N = 1) := Lib.hid (by rw [NT.out, if_pos hz0])
        have hd : ¬ 0 < lz := by omega
        clear hz0
        go_wp2_with fail
        go_meet
        exact ⟨by rw [e1.out]; rfl, rfl⟩
      · obtain ⟨b, off, rfl, hc, hw⟩ := (HZ.out.at (Grow.G.trans (Grow.G.alloc (Grow.G.refl w) _) HG.out) (show 0 < zs.length by rw [LZ.out]; omega))
        have hc : wc.cell? ⟨b, off, none⟩ = some (.int .i64 (zs.getD 0 0)) := hc
        have e1 : Hid (N = 1 + (withinI (zs.getD 0 0) 6).toNat) := Lib.hid (by rw [NT.out, if_neg hz0])
        have hd : 0 < lz := by omega
        have W6 := Lib.hid (fun w => within2_any (zs.getD 0 0) 6 w (by omega) (by omega) hw.1 hw.2)
        have r6 := withinI_range (zs.getD 0 0) 6 (by omega)
        generalize zs.getD 0 0 = z at *
        generalize withinI z 6 = q at *
        clear hz0
        go_wp2_with fail
        refine (W6.out _).mono ?_
        rintro e wx ⟨rfl, rfl⟩
        go_wp2_with fail
        go_meet
        exact ⟨by rw [e1.out]; congr 1; omega, rfl⟩
    case rest =>
      obtain ⟨rfl, rfl⟩ := hcut
      go_wp2_with fail
      have hG := HG.out
      have RT := Lib.hid (show RtLoop w wc g nm cf rl (.slice none 0 0) 0 (gRun cf zs N 0).2 from ⟨c0, c1, c2, c3, f2, World.ownsRow_nil _ _ _ _, hG, hg2, hg1⟩)
      clear c0 c1 c2 c3 f2 hG HG hg2
      obtain ⟨i0, hi, hz0, hz1, hz2⟩ := info_parts infoT
      have HI := Lib.hid hi; have HZ0 := Lib.hid hz0; have HZ1 := Lib.hid hz1; have HZ2 := Lib.hid hz2
      clear hi hz0 hz1 hz2
      go_loopg [8, 10] N (fun gg s8 s10 wr => ∃ (i : Nat) (sa : Option Addr) (sc : Nat), gg = N - i ∧ i ≤ N ∧ s10 = .int .i64 i ∧ s8 = .int .i64 (gRun cf zs N i).1 ∧ RtLoop w wr g nm cf rl (.slice sa i sc) i (gRun cf zs N i).2)
      case atStart => exact ⟨0, none, 0, rfl, by omega, rfl, rfl, RT.out⟩
      case round =>
        clear RT
        obtain ⟨i, sa, sc, rfl, hiN, rfl, rfl, hR⟩ := hrel
        have R := Lib.hid hR
        have GL := gRun_left cf zs N i
        by_cases hlt : i < N
        · have GS := Lib.hid (gRun_s cf zs N i)
          have KA : Hid (kAt zs i = if i + 1 < lz then zs.getD (i + 1) 0 else i) := Lib.hid (by rw [← LZ.out]; rfl)
          have c0 := hR.c0; have c1 := hR.c1; have c2 := hR.c2; have c3 := hR.c3; have f2 := hR.f2; have hg3 := hR.lt
          clear hR
          have PC : Hid (pcOf (kAt zs i) i N (gRun cf zs N i).1 = if i + 1 = N then (gRun cf zs N i).1 else withinI (kAt zs i) ((gRun cf zs N i).1 + 1)) := Lib.hid rfl
          have KW : wf64 (kAt zs i) := by
            rw [KA.out]; split
            · exact (HZ.out.at (Grow.G.refl w) (by rw [LZ.out]; assumption)).choose_spec.choose_spec.2.2
            · exact ⟨by omega, by omega⟩
          generalize hk : kAt zs i = kk at *
          generalize (gRun cf zs N i).1 = lf at *
          have HK := Lib.hid hk
          clear hk
          go_upto_if 45 with fail
          go_cut [11] (fun s11 wx => s11 = .int .i64 kk ∧ wr = wx)
          case first =>
            by_cases hz : i + 1 < lz
            · obtain ⟨b, off, rfl, hc, hw⟩ := (HZ.out.at R.out.grow (show i + 1 < zs.length by rw [LZ.out]; exact hz))
              have e1 : Hid (kk = zs.getD (i + 1) 0) := Lib.hid (by rw [KA.out, if_pos hz])
              generalize zs.getD (i + 1) 0 = z at *
              go_wp2_with fail
              go_meet
              exact ⟨by rw [e1.out], rfl⟩
            · have e1 : Hid (kk = i) := Lib.hid (by rw [KA.out, if_neg hz])
              go_wp2_with fail
              go_meet
              exact ⟨by rw [e1.out], rfl⟩
          case rest =>
            obtain ⟨rfl, rfl⟩ := hcut
            have W1 := Lib.hid (fun w => within2_any kk (lf + 1) w (by omega) (by omega) KW.1 KW.2)
            go_upto_if 59 with (first | (go_at_call 19; (with_reducible refine (W1.out _).mono ?_); rintro e w' ⟨rfl, rfl⟩))
            go_cut [12] (fun s12 wx => s12 = .pointer (some ⟨wr.heap.size, 0, none⟩) ∧ wx = wr.alloc (.cells #[.string ⟨#[]⟩, .string ⟨#[]⟩, .int .i64 (pcOf kk i N lf)] 84))
            case first =>
              by_cases hz : i + 1 = N
              · have e1 : Hid (pcOf kk i N lf = lf) := Lib.hid (by rw [PC.out, if_pos hz])
                have hd : (i : Int) = (N : Int) - 1 := by omega
                clear hz
                go_wp2_with fail
                go_meet
                exact ⟨rfl, by rw [e1.out]⟩
              · have e1 : Hid (pcOf kk i N lf = withinI kk (lf + 1)) := Lib.hid (by rw [PC.out, if_neg hz])
                have hd : ¬ (i : Int) = (N : Int) - 1 := by omega
                clear hz
                go_wp2_with fail
                go_meet
                exact ⟨rfl, by rw [e1.out]⟩
            case rest =>
              obtain ⟨rfl, rfl⟩ := hcut
              clear W1
              have PB : 0 ≤ pcOf kk i N lf ∧ pcOf kk i N lf ≤ lf := by
                have h2 := withinI_range kk (lf + 1) (by omega)
                rw [PC.out]; split <;> omega
              generalize hP : pcOf kk i N lf = pc at *
              have k101 := tdiv_wf KW 101 (by omega)
              have k303 := tdiv_wf KW 303 (by omega)
              have k1212 := tdiv_wf KW 1212 (by omega)
              have W2 := Lib.hid (fun w => within2_any (kk.tdiv 101) 3 w (by omega) (by omega) k101.1 k101.2)
              have W3 := Lib.hid (fun w => Evo.same (within2_any (kk.tdiv 303) 4 w (by omega) (by omega) k303.1 k303.2))
              have W4 := Lib.hid (fun w => within2_any (kk.tdiv 1212) 3 w (by omega) (by omega) k1212.1 k1212.2)
              have w303 := wrap_wf k303
              have RV : Hid (rvOf cf kk = if 0 < withinI (kk.tdiv 101) 3 then cf ++ ⟨#[45]⟩ ++ byte1 (49 + (withinI (kk.tdiv 303) 4).toNat) else ⟨#[]⟩) := Lib.hid rfl
              have TV : Hid (tgOf kk i = if withinI (kk.tdiv 1212) 3 = 0 then ⟨#[116]⟩ ++ byte1 (48 + i) else ⟨#[]⟩) := Lib.hid rfl
              have r303 := withinI_range (kk.tdiv 303) 4 (by omega)
              generalize withinI (kk.tdiv 101) 3 = q101 at *
              generalize withinI (kk.tdiv 303) 4 = q303 at *
              generalize withinI (kk.tdiv 1212) 3 = q1212 at *
              have ka := k101.1; have kb := k101.2; have kc := k303.1; have kd := k303.2; have ke := k1212.1; have kf := k1212.2
              clear k101 k303 k1212
              go_upto_if 65 with (first | (go_at_call 19; (with_reducible refine (W2.out _).mono ?_); rintro e w' ⟨rfl, rfl⟩))
              go_cut [12] (fun s12 wx => s12 = .pointer (some ⟨wr.heap.size, 0, none⟩) ∧ wx.cell? ⟨wr.heap.size, 0, none⟩ = some (.string (rvOf cf kk)) ∧ wx.cell? ⟨wr.heap.size, 1, none⟩ = some (.string ⟨#[]⟩) ∧ wx.cell? ⟨wr.heap.size, 2, none⟩ = some (.int .i64 pc) ∧ wx.frozen? ⟨wr.heap.size, 1, none⟩ = false ∧ Hid (wr.heap.size < wx.heap.size) ∧ Hid (Grow.G wr wx))
              case first =>
                by_cases hz : 0 < q101
                · have e1 : Hid (rvOf cf kk = cf ++ ⟨#[45]⟩ ++ byte1 (49 + q303.toNat)) := Lib.hid (by rw [RV.out, if_pos hz])
                  have hcv := fun (w' : World) (b : Nat) (h : w'.cell? ⟨b, 0, none⟩ = some (.int .u8 (49 + q303))) => run_convert_bytes_arg (P := Tryz.prog) w' 85 5 Tryz.underlying85 Tryz.underlying5 b 0 1 1 [49 + q303] rfl (fun i hi => by
                    obtain rfl : i = 0 := by omega
                    exact h) 9 Tryz.underlying9
                  have wu : IntKind.u8.wrap (49 + q303) = 49 + q303 := by rw [IntKind.wrap_u8]; omega
                  have wi : IntKind.i64.wrap (49 + q303) = 49 + q303 := wrap_wf ⟨by omega, by omega⟩
                  have sz3 : (strOfNums [49 + q303]).size = 1 := rfl
                  have SE : Hid (strOfNums [49 + q303] = byte1 (49 + q303.toNat)) := Lib.hid (by unfold strOfNums byte1; simp only [List.map_cons, List.map_nil]; congr; omega)
                  generalize strOfNums [49 + q303] = sx at *
                  have BT := Lib.hid (Blk.new wr ([.string ⟨#[]⟩, .string ⟨#[]⟩, .int .i64 pc] : List Value).toArray 84)
                  have c1' := cell_later (Grow.G.alloc (Grow.G.refl wr) (.cells ([.string ⟨#[]⟩, .string ⟨#[]⟩, .int .i64 pc] : List Value).toArray 84)) c1
                  have KC := Lib.hid (fun (w' : World) (h : Chg (fun _ => False) (wr.alloc (.cells ([.string ⟨#[]⟩, .string ⟨#[]⟩, .int .i64 pc] : List Value).toArray 84)) w') => (⟨h.cell c1' id, trivial⟩ : w'.cell? ⟨g, 1, none⟩ = some (.string cf) ∧ True))
                  clear c1'
                  go_wp2_with fail
                  refine Evo2.start' (ℓ := some 12) (S := Chg (fun _ => False)) (E := Grow.G) (by kernel_rfl) ⟨Chg.pre _, by decide +kernel, (by intro c a d v w h; cases d <;> exact h), by decide +kernel⟩ (fun ok => ?_)
                  refine Evo2.va ok 0 _ _ ?_
                  first | (refine Evo2.vl ok 1 KC.out (Chg.refl (fun _ => False) _) _ _ ?_) | (refine Evo2.va ok 1 _ _ ?_)
                  refine Evo2.va ok 2 _ _ ?_
                  refine Evo2.va ok 3 _ _ ?_
                  refine Evo2.va ok 4 _ _ ?_
                  (refine Evo2.cal ok 5 ?_ 19 ?_ ?_ ?_ ?_; rotate_left 2; (focus (intro w'; go_simp <;> with_reducible rfl)); (focus (intro w' g'; with_reducible exact W3.out w')); simp only [Act.put, L0, L1, L2])
                  refine Evo2.va ok 6 _ _ ?_
                  first | (refine Evo2.vl ok 7 KC.out (Chg.refl (fun _ => False) _) _ _ ?_) | (refine Evo2.va ok 7 _ _ ?_)
                  refine Evo2.all [8] (by decide +kernel) rfl ?_
                  intro wp1 gp1 iq hq
                  simp only [List.mem_cons, List.mem_nil_iff, or_false] at hq
                  have AP1 := Chg.trans (Chg.refl (fun _ => False) _) (Chg.grow gp1)
                  subst hq
                  refine Evo2.runs (by rfl) (by rfl) (fun K' hK' => ?_)
                  (try obtain ⟨q1, q2⟩ := KC.out wp1 AP1)
                  go_simp
                  (try (simp only [Evo.after_value, Evo.after_skip]))
                  refine hK'.out _ _ ?_
                  clear hK'
                  simp only [Act.put, L0, L1, L2]
                  (try clear q1 q2)
                  refine ⟨.inr (Chg.alloc (Chg.refl _ _) _), ?_⟩
                  generalize hG1 : World.alloc wp1 _ = wg1
                  have GG1 : Grow.G wp1 wg1 := hG1 ▸ Grow.G.alloc (Grow.G.refl _) _
                  have NC1 := (congrArg (fun W : World => W.heap[wp1.heap.size]?) hG1).symm.trans (MapKept.heap_alloc wp1 _).1
                  have NL1 : wp1.heap.size < wg1.heap.size := by rw [← hG1]; simp
                  clear hG1
                  first | (refine Evo2.val ok 9 ?_ ?_ ?_; rotate_left; (intro w' hg; have nq := (fun w' b (h : Blk w' b _ _) => hcv w' b (h.at (k := 0) rfl)) _ _ (hg.blk NC1 (by intro q; first | exact q | (have h1 := AP1.size; have h2 := NL1; (try dsimp only at q); omega))); go_simp <;> with_reducible rfl); simp only [Act.put, L0, L1, L2]) | (refine Evo2.vl ok 9 KC.out (Chg.trans AP1 (Chg.grow GG1)) _ _ ?_) | (refine Evo2.va ok 9 _ _ ?_) | (refine Evo2.val ok 9 ?_ ?_ ?_; rotate_left; (intro w' hg; have nq := fun j => Blk.cell (w := w') (hg.blk NC1 (by intro q; first | exact q | (have h1 := AP1.size; have h2 := NL1; (try dsimp only at q); omega))) j; go_simp <;> with_reducible rfl); simp only [Act.put, L0, L1, L2])
                  refine Evo2.va ok 10 _ _ ?_
                  refine Evo2.va ok 11 _ _ ?_
                  refine Evo2.all [12] (by decide +kernel) rfl ?_
                  intro wp2 gp2 iq hq
                  simp only [List.mem_cons, List.mem_nil_iff, or_false] at hq
                  have AP2 := Chg.trans (Chg.trans AP1 (Chg.grow GG1)) (Chg.grow gp2)
                  have NC1 := (gp2.block _ NL1).trans NC1
                  have NL1 := Nat.lt_of_lt_of_le NL1 gp2.size
                  subst hq
                  refine Evo2.runs (by rfl) (by rfl) (fun K' hK' => ?_)
                  (try obtain ⟨q1, q2⟩ := KC.out wp2 AP2)
                  have BQ := BT.out.chg AP2 id; have gl := BQ.lt; have e0 := BQ.at (k := 0) rfl; have f0 := BQ.free 0; clear BQ
                  go_simp
                  (try (simp only [Evo.after_value, Evo.after_skip]))
                  refine hK'.out _ _ ?_
                  clear hK'
                  simp only [Act.put, L0, L1, L2]
                  (try clear gl e0 f0)
                  (try clear q1 q2)
                  refine ⟨.inl (by first | rfl | trivial), ?_⟩
                  refine Evo2.done (by decide +kernel) (fun wz gz => ?_)
                  have BF := ((BT.out.chg AP2 id).set 0 (.string (cf ++ ⟨#[45]⟩ ++ sx))).grow gz 
                  simp only [List.setIfInBounds_toArray, List.set_cons_zero, List.set_cons_succ] at BF 
                  have GF : Grow.G wr wz := Below.trans (Below.setCell (Grow.G.trans (Grow.G.alloc (Grow.G.refl wr) _) (chg_none0 AP2)) (Nat.le_refl _) _) (Below.mono gz (by have := AP2.size; simp at this; simp [World.setCell]; omega)) 
                  have HBF := Lib.hid BF 
                  have HGF := Lib.hid GF 
                  clear BF GF gz BT KC 
                  go_wp2_with fail 
                  go_meet 
                  exact ⟨rfl, by rw [e1.out, ← SE.out]; exact HBF.out.at (k := 0) rfl, HBF.out.at (k := 1) rfl, HBF.out.at (k := 2) rfl, HBF.out.free 1, Lib.hid HBF.out.lt, Lib.hid HGF.out⟩
                · have e1 : Hid (rvOf cf kk = ⟨#[]⟩) := Lib.hid (by rw [RV.out, if_neg hz])
                  go_wp2_with fail
                  go_meet
                  exact ⟨rfl, by rw [e1.out]; go_simp, by go_simp, by go_simp, by go_simp, (by show _ < _; simp), Grow.G.alloc (Grow.G.refl _) _⟩
              case rest =>
                obtain ⟨rfl, d0, d1, d2, df, hb, hg⟩ := hcut
                have hb' := hb.out
                have g0 := cell_later hg.out c0; have g1 := cell_later hg.out c1; have g2 := cell_later hg.out c2; have g3 := cell_later hg.out c3
                have gf := (bcell hg.out).2.1 g 2 hg3
                rw [f2] at gf
                clear c0 c1 c2 c3 f2 z0 z1 r303
                obtain ⟨wa, rfl⟩ : ∃ wa : World, wa = wc := ⟨_, rfl⟩
                go_upto_if 81 with (first | (go_at_call 19; (with_reducible refine (W4.out _).mono ?_); rintro e w' ⟨rfl, rfl⟩))
                go_cut [12] (fun s12 wx => s12 = .pointer (some ⟨wr.heap.size, 0, none⟩) ∧ wx.cell? ⟨wr.heap.size, 0, none⟩ = some (.string (rvOf cf kk)) ∧ wx.cell? ⟨wr.heap.size, 1, none⟩ = some (.string (tgOf kk i)) ∧ wx.cell? ⟨wr.heap.size, 2, none⟩ = some (.int .i64 pc) ∧ Hid (wr.heap.size < wx.heap.size) ∧ wx.cell? ⟨g, 0, none⟩ = some (.string nm) ∧ wx.cell? ⟨g, 1, none⟩ = some (.string cf) ∧ wx.cell? ⟨g, 2, none⟩ = some (.slice sa i sc) ∧ wx.cell? ⟨g, 3, none⟩ = some (.int .i64 rl) ∧ wx.frozen? ⟨g, 2, none⟩ = false ∧ Hid (Grow.G wr wx))
                case first =>
                  by_cases hz : q1212 = 0
                  · have e1 : Hid (tgOf kk i = ⟨#[116]⟩ ++ byte1 (48 + i)) := Lib.hid (by rw [TV.out, if_pos hz])
                    have hcv := fun (w' : World) (b : Nat) (h : w'.cell? ⟨b, 0, none⟩ = some (.int .u8 (48 + i))) => run_convert_bytes_arg (P := Tryz.prog) w' 85 5 Tryz.underlying85 Tryz.underlying5 b 0 1 1 [48 + (i : Int)] rfl (fun i hi => by
                      obtain rfl : i = 0 := by omega
                      exact h) 9 Tryz.underlying9
                    have sz3 : (strOfNums [48 + (i : Int)]).size = 1 := rfl
                    have SE : Hid (strOfNums [48 + (i : Int)] = byte1 (48 + i)) := Lib.hid (by unfold strOfNums byte1; simp only [List.map_cons, List.map_nil]; congr)
                    generalize strOfNums [48 + (i : Int)] = sx at *
                    have hi48 : (48 : Int) + i ≤ 255 := by omega
                    have hga : g < wa.heap.size := by omega
                    have hgn : ¬ g = wr.heap.size := by omega
                    have hgm : ¬ wr.heap.size = g := by omega
                    go_wp2_with fail
                    go_meet
                    refine ⟨rfl, ?_, ?_, ?_, ?_, ?_, ?_, ?_, ?_, ?_, ?_⟩
                    · go_simp
                    · rw [e1.out, ← SE.out]; go_simp
                    · go_simp
                    · show _ < _; simp; omega
                    · go_simp
                    · go_simp
                    · go_simp
                    · go_simp
                    · go_simp
                    · have := hg.out; clear e1 SE hcv; show Grow.G _ _; refine Grow.G.alloc (Below.setCell (hg.out) (by simp) _) _
                  · have e1 : Hid (tgOf kk i = ⟨#[]⟩) := Lib.hid (by rw [TV.out, if_neg hz])
                    go_wp2_with fail
                    go_meet
                    exact ⟨rfl, d0, by rw [e1.out]; exact d1, d2, hb, g0, g1, g2, g3, gf, hg⟩
                case rest =>
                  obtain ⟨rfl, d0, d1, d2, hb, g0, g1, g2, g3, gf, hg⟩ := hcut
                  have HB := hb.out
                  clear RV TV W2 W3 W4 w303 ka kb kc kd ke kf KA PC
                  generalize rvOf cf kk = rv at *
                  generalize tgOf kk i = tg at *
                  obtain ⟨wb, rfl⟩ : ∃ wb : World, wb = wc := ⟨_, rfl⟩
                  have OW := Lib.hid (own_later R.out.own hg.out)
                  go_wp2_with (at_builtin; refine wpList_append_own _ rfl _ _ 43 rfl (g + 1) 84 i0 (.agg #[.string ⟨#[]⟩, .string ⟨#[]⟩, .int .i64 0]) 3 40 Tryz.underlying43 HI.out HZ0.out HZ1.out HZ2.out rfl (by decide) _ _ _ rfl (OW.out.alloc _) ⟨wb.heap.size, 0, none⟩ 1 1 [.string rv, .string tg, .int .i64 pc] rfl rfl (news_new _ [_, _, _] _ _ rfl) ?_ ?_ ?_ ?_ ?_)
                  · intro u hu; simp at hu; rcases hu with rfl | rfl | rfl <;> rfl
                  · unfold maxLen; omega
                  · omega
                  · simp; omega
                  · intro v' w1 hown hgr _
                    obtain ⟨sa', sc', rfl⟩ := own_shape hown
                    have hne : some g ≠ (Value.slice sa i sc).ownBlock := fun e => by have := (OW.out.lt g e.symm).1; omega
                    have hgb : g < wb.heap.size := by omega
                    have hbk := (hgr.block g (by simp; omega) hne).trans (Below.heap_alloc wb _ g hgb)
                    have g0 := (World.cell?_of_block (w := wb) (w' := w1) (a := ⟨g, 0, none⟩) hbk).trans g0
                    have g1 := (World.cell?_of_block (w := wb) (w' := w1) (a := ⟨g, 1, none⟩) hbk).trans g1
                    have g2 := (World.cell?_of_block (w := wb) (w' := w1) (a := ⟨g, 2, none⟩) hbk).trans g2
                    have g3 := (World.cell?_of_block (w := wb) (w' := w1) (a := ⟨g, 3, none⟩) hbk).trans g3
                    have gf := (World.frozen?_of_block (w := wb) (w' := w1) (a := ⟨g, 2, none⟩) hbk).trans gf
                    have G1 := Lib.hid (own_grow (Grow.G.alloc (Grow.G.trans R.out.grow0 hg.out) _) (OW.out.alloc _) (by simp; omega) hgr)
                    have HS := Lib.hid (Nat.lt_of_lt_of_le (show g < (wb.alloc (.cells #[.string rv, .string tg, .int .i64 pc] 84)).heap.size by simp; omega) hgr.size)
                    have HO := Lib.hid hown
                    clear hgr hown hbk hne d0 d1 d2
                    go_wp2_with fail
                    go_roundg (N - (i + 1))
                    case measure => omega
                    case rel =>
                      refine ⟨i + 1, sa', sc', rfl, by omega, rfl, by rw [GS.out], ?_⟩
                      rw [GS.out]
                      refine ⟨?_, ?_, ?_, ?_, ?_, ?_, Below.setCell G1.out (by simp; omega) _, by simpa [World.setCell] using HS.out, hg1⟩
                      · go_simp
                      · go_simp
                      · go_simp
                      · go_simp
                      · go_simp
                      · refine ownsRow_setCell_below ?_ (by show g < g + 1; omega) _
                        have := HO.out
                        unfold flatT at *
                        simpa [List.flatMap_append] using this
        · obtain rfl : i = N := by omega
          have c0 := hR.c0; have c1 := hR.c1; have c2 := hR.c2; have c3 := hR.c3; have f2 := hR.f2; have hg3 := hR.lt
          have OW := hR.own
          have hG := hR.grow
          have hx := (bcell hR.grow0).1
          have hf := (bcell hR.grow0).2.1
          have gn : ¬ g = w.heap.size := by omega
          obtain ⟨b, sc', hv, hb⟩ := own_some OW (by omega)
          obtain ⟨rfl, rfl⟩ : sa = some ⟨b, 0, none⟩ ∧ sc = sc' := by cases hv; exact ⟨rfl, rfl⟩
          have BW := Lib.hid hb
          have OW := Lib.hid OW
          have HG := Lib.hid hG
          clear hR hv hb hG
          go_wp2_with fail
          refine bodyPost_ret (v := .agg #[.string nm, .string cf, .slice (some ⟨b, 0, none⟩) i sc, .int .i64 rl]) (by simp [results, Tryz.results11, go_sem, hx]) rfl ⟨⟨b, sc, by rw [HN.out]; rfl, ?_⟩, ?_⟩
          · have E : Hid (gTs cf zs = (gRun cf zs i i).2) := Lib.hid (by unfold gTs; rw [HN.out])
            rw [HN.out, E.out]
            refine own_base ?_ (show w.heap.size ≤ g + 1 by omega)
            exact ownsRow_setCell_below (ownsRow_setCell_below (ownsRow_setCell_below (ownsRow_setCell_below OW.out (by show w.heap.size < g + 1; omega) _) (by show w.heap.size < g + 1; omega) _) (by show w.heap.size < g + 1; omega) _) (by show w.heap.size < g + 1; omega) _
          · exact Below.setCell (Below.setCell (Below.setCell (Below.setCell HG.out (Nat.le_refl _) _) (Nat.le_refl _) _) (Nat.le_refl _) _) (Nat.le_refl _) _

theorem flatT_cons (t : Tgt) (ts : List Tgt) : flatT (t :: ts) = .string t.rv :: .string t.tg :: .int .i64 t.pc :: flatT ts := rfl
theorem flatT_at : ∀ (ts : List Tgt) (k : Nat), k < ts.length → (flatT ts)[k * 3]? = some (.string (ts.getD k tg0).rv) ∧ (flatT ts)[k * 3 + 1]? = some (.string (ts.getD k tg0).tg) ∧ (flatT ts)[k * 3 + 1 + 1]? = some (.int .i64 (ts.getD k tg0).pc)
  | [], k, h => by simp at h
  | t :: ts, 0, _ => by rw [flatT_cons]; exact ⟨rfl, rfl, rfl⟩
  | t :: ts, k + 1, h => by
    have ih := flatT_at ts k (by simpa using h)
    rw [flatT_cons]
    have e : (k + 1) * 3 = k * 3 + 1 + 1 + 1 := by omega
    rw [e]
    simp only [List.getElem?_cons_succ, List.getD_cons_succ]
    exact ih
theorem flatT_len (ts : List Tgt) : (flatT ts).length = ts.length * 3 := by
  induction ts with
  | nil => rfl
  | cons t ts ih => rw [flatT_cons]; simp only [List.length_cons, ih]; omega
/-- What a row of targets of the call's own gives. -/
theorem own_tgts {w : World} {base b n c : Nat} {ts : List Tgt} (h : w.ownsRow base 84 3 (.slice (some ⟨b, 0, none⟩) n c) n (flatT ts)) :
    ts.length = n ∧ TgtSl w (some ⟨b, 0, none⟩) ts ∧ (∀ o, w.frozen? ⟨b, o, none⟩ = false) ∧ base ≤ b ∧ b < w.heap.size := by
  obtain ⟨hl, h2⟩ := h
  rw [flatT_len] at hl
  have hn : ts.length = n := by omega
  rcases h2 with ⟨h0, _⟩ | ⟨g, cap, cur, hv, hb, hg, h3, h4, h5, h6⟩
  · cases h0
  · cases hv
    have hlt : b < w.heap.size := by
      rcases Nat.lt_or_ge b w.heap.size with h' | h'
      · exact h'
      · rw [Array.getElem?_eq_none h'] at hg; cases hg
    have hcell : ∀ j v, (flatT ts)[j]? = some v → w.cell? ⟨b, j, none⟩ = some v := fun j v hj => by
      rw [← h6] at hj
      have hj2 : j < n * 3 := by
        rcases Nat.lt_or_ge j (n * 3) with h' | h'
        · exact h'
        · rw [List.getElem?_take, if_neg (by omega)] at hj; cases hj
      rw [List.getElem?_take_of_lt hj2] at hj
      have : cur[j]? = some v := by simpa using hj
      simp [World.cell?, hg, this]
    refine ⟨hn, .inr ⟨b, 0, rfl, fun i hi => ?_⟩, fun o => by simp [World.frozen?, hg], hb, hlt⟩
    have h7 := flatT_at ts i hi
    rw [Nat.zero_add]
    exact ⟨hcell _ _ h7.1, hcell _ _ h7.2.1, hcell _ _ h7.2.2⟩
theorem gTs_ok (n : Int) (zs : List Int) : ∀ i, i < (gTs (rtCf n) zs).length → ((gTs (rtCf n) zs).getD i tg0).ok := fun i hi => (gRun_at n zs i (by rw [gTs_len] at hi; exact hi)).2
/-- A row of targets of the call's own. -/
def OwnTs (w : World) (base : Nat) (v : Value) (ts : List Tgt) : Prop := w.ownsRow base 84 3 v ts.length (flatT ts)

theorem routeE_parts {nm cf : ByteArray} {ts : List Tgt} {rl : Int} (h : routeE nm cf ts rl = 0) : nameB 16 nm = true ∧ nameB 16 cf = true ∧ inB rl 0 60 = true ∧ inB ts.length 1 6 = true ∧ eachE ts = 0 ∧ dupT ts = false ∧ sumT ts = 100 := by
  have h0 := unl_zero (by decide) (fst0_zero _ h 0 (by show 0 < 6; omega))
  have h1 := unl_zero (by decide) (fst0_zero _ h 1 (by show 1 < 6; omega))
  have h2 := unl_zero (by decide) (fst0_zero _ h 2 (by show 2 < 6; omega))
  have h3 : eachE ts = 0 := fst0_zero _ h 3 (by show 3 < 6; omega)
  have h4 := unl_zero (by decide) (fst0_zero _ h 4 (by show 4 < 6; omega))
  have h5 := unl_zero (by decide) (fst0_zero _ h 5 (by show 5 < 6; omega))
  rw [Bool.and_eq_true] at h0
  exact ⟨h0.1, h0.2, h1, h2, h3, by simpa using h4, by simpa using h5⟩
theorem each_of {ts : List Tgt} (h : eachE ts = 0) (k : Nat) (hk : k < ts.length) : (ts.getD k tg0).err = 0 := by
  have := fst0_zero _ h k (by simpa using hk)
  rwa [getD_map Tgt.err ts k tg0 0 hk] at this
theorem err_nmd {t : Tgt} (h : t.err = 0) : t.nmd = true := by
  unfold Tgt.err at h
  cases hn : t.nmd <;> simp [hn] at h ⊢

/-- What the route that damperlaw2.Route makes is, and that its targets are the call's own. -/
def RtOwn (w : World) (n : Int) (zs : List Int) (roll : Int) (e : Ending) (w' : World) : Prop :=
  ∃ b c, e = .returned (.agg #[.string (rtName n), .string (rtCf n), .slice (some ⟨b, 0, none⟩) (gTs (rtCf n) zs).length c, .int .i64 (withinI roll 61)]) ∧ w'.ownsRow w.heap.size 84 3 (.slice (some ⟨b, 0, none⟩) (gTs (rtCf n) zs).length c) (gTs (rtCf n) zs).length (flatT (gTs (rtCf n) zs)) ∧ Below w.heap.size w w'
theorem groute_own (n : Int) (v : Value) (zs : List Int) (roll : Int) (w : World) (hn : wf64 n) (hz : IntSlice w v zs) (hr : wf64 roll) :
    Calls Tryz.prog 11 #[.int .i64 n, v, .int .i64 roll] w (RtOwn w n zs roll) := by
  obtain ⟨a, cap, rfl, hat⟩ := hz.open
  have hl : zs.length ≤ maxLen := by
    rcases hat with rfl | ⟨b, off, _, hc⟩
    · decide
    · exact hc.len
  refine (groute_walk n a zs cap roll w hn hat hl hr).mono ?_
  rintro e w' ⟨⟨b, c, rfl, ho⟩, hb⟩
  unfold RtOwn
  rw [gTs_len]
  exact ⟨b, c, rfl, ho, hb⟩
theorem flatT_one (ts : List Tgt) : ∀ u ∈ flatT ts, u.oneCell' = true := by
  intro u hu
  obtain ⟨t, _, h⟩ := List.mem_flatMap.1 hu
  simp at h
  rcases h with rfl | rfl | rfl <;> rfl
theorem own_empty (w : World) (e : TypeId) (sz : Nat) : (w.alloc (.cells #[] e)).ownsRow w.heap.size e sz (.slice (some ⟨w.heap.size, 0, none⟩) 0 0) 0 [] :=
  ⟨by simp, .inr ⟨w.heap.size, 0, #[], rfl, Nat.le_refl _, (MapKept.heap_alloc w _).1, Nat.le_refl _, by decide, by simp, by simp⟩⟩
end Go.Proofs.YtlnffdkaleapbaaGreat

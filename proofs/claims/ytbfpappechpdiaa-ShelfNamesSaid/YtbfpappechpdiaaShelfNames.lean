
/- The walk of ShelfNames. -/
import Derived.Test.YtbfpappechpdiaaShelfAgain
import Derived.Test.YtbfpappechpdiaaShSame
import Derived.Test.YtbfpappechpdiaaZ4
import Derived.Test.YtbfpappechpdiaaZ3
namespace Go.Proofs.Ytbfpappechpdiaa
set_option maxRecDepth 100000
set_option linter.unusedVariables false
set_option linter.unusedSimpArgs false
set_option linter.unnecessarySimpa false
open Go.RowKit Go.MapV Go.Maps

def nmK (k : Nat) : ByteArray := ⟨#[110, UInt8.ofNat (97 + k)]⟩
def cfgK (k : Nat) : Cfg := ⟨nmK k, 0, 1, 0, 1, 0⟩
theorem nmK_lt : ∀ i j : Fin 20, i < j → (nmK i).data.toList < (nmK j).data.toList := by decide +kernel
theorem nmK_inj {i j : Nat} (hi : i < 20) (hj : j < 20) (h : nmK i = nmK j) : i = j := by
  rcases Nat.lt_trichotomy i j with q | q | q
  · have := nmK_lt ⟨i, hi⟩ ⟨j, hj⟩ q
    rw [show nmK ((⟨i, hi⟩ : Fin 20) : Nat) = nmK ((⟨j, hj⟩ : Fin 20) : Nat) from h] at this
    exact (lt_irr _ this).elim
  · exact q
  · have := nmK_lt ⟨j, hj⟩ ⟨i, hi⟩ q
    rw [show nmK ((⟨i, hi⟩ : Fin 20) : Nat) = nmK ((⟨j, hj⟩ : Fin 20) : Nat) from h] at this
    exact (lt_irr _ this).elim
theorem cfgK_ok : ∀ k : Fin 20, (cfgK k).err = 0 := by decide +kernel
/-- What the twenty versions say of the shelf. -/
structure NI (i : Nat) (s : Sh) (vs : List Nat) : Prop where
  n : s.n ≤ i
  len : vs.length = 20
  le : ∀ k, vs.getD k 0 ≤ s.n
  rt : ∀ x, s.rt x = none
  c : ∀ k, k < 20 → s.cf (nmK k) = if vs.getD k 0 = 0 then none else some (cfgK k, vs.getD k 0)
  o : ∀ x, (∀ k, k < 20 → x ≠ nmK k) → s.cf x = none
theorem NI.put {i : Nat} {s : Sh} {vs : List Nat} (h : NI i s vs) {k : Nat} (hk : k < 20) : s.putC (cfgK k) (vs.getD k 0) = 0 ∧ s.aftC (cfgK k) (vs.getD k 0) = s.setC (cfgK k) := by
  have e : s.putC (cfgK k) (vs.getD k 0) = 0 := by
    unfold Sh.putC
    rw [if_pos (cfgK_ok ⟨k, hk⟩)]
    have := h.c k hk
    unfold mayP heldP verO
    show (if ((vs.getD k 0 : Nat) : Int) = 0 then (if ((s.cf (nmK k)).map (·.2)).isSome then (5 : Int) else 0) else _) = 0
    rw [show (cfgK k).nm = nmK k from rfl, this]
    by_cases q : vs.getD k 0 = 0
    · rw [if_pos q, q]; rfl
    · rw [if_neg q, if_neg (by omega)]; simp
  exact ⟨e, by unfold Sh.aftC; rw [if_pos e]⟩
theorem getD_set' (vs : List Nat) (k j x : Nat) (hk : k < vs.length) : (vs.set k x).getD j 0 = if j = k then x else vs.getD j 0 := by
  simp only [List.getD, List.getElem?_set]
  by_cases e : k = j
  · subst e; simp [hk]
  · have : ¬ j = k := fun q => e q.symm
    simp [e, this]
theorem NI.set {i : Nat} {s : Sh} {vs : List Nat} (h : NI i s vs) {k : Nat} (hk : k < 20) : NI (i + 1) (s.setC (cfgK k)) (vs.set k (s.n + 1)) := by
  have hl := h.len
  have hn := h.n
  refine ⟨by rw [Sh.n_setC]; omega, by simpa using h.len, fun j => ?_, fun x => by rw [setC_rt]; exact h.rt x, fun j hj => ?_, fun x hx => ?_⟩
  · rw [getD_set' _ _ _ _ (by omega), Sh.n_setC]
    have := h.le j
    split <;> omega
  · rw [getD_set' _ _ _ _ (by omega), setC_cf]
    show upd s.cf (nmK k) _ _ = _
    by_cases e : j = k
    · subst e; rw [upd_at, if_pos rfl, if_neg (by omega)]
    · rw [upd_ne _ _ (fun q => e (nmK_inj hj hk q)), if_neg e, h.c j hj]
  · rw [setC_cf]
    show upd s.cf (nmK k) _ _ = _
    rw [upd_ne _ _ (hx k hk), h.o x hx]
theorem NI.drop {i : Nat} {s : Sh} {vs : List Nat} (h : NI i s vs) {k : Nat} (hk : k < 20) (hv : vs.getD k 0 ≠ 0) : s.drop 1 (nmK k) (vs.getD k 0) = 0 ∧ s.aftD 1 (nmK k) (vs.getD k 0) = s.cut 1 (nmK k) ∧ NI (i + 1) (s.cut 1 (nmK k)) (vs.set k 0) := by
  have hl := h.len
  have hn := h.n
  have e : s.drop 1 (nmK k) (vs.getD k 0) = 0 := by
    unfold Sh.drop Sh.verK verO heldP
    rw [if_pos (.inl rfl), if_pos rfl, h.c k hk, if_neg hv]
    simp
  refine ⟨e, by unfold Sh.aftD; rw [if_pos e], ?_⟩
  unfold Sh.cut
  rw [if_pos rfl]
  refine ⟨by show s.n + 1 ≤ _; omega, by simpa using h.len, fun j => ?_, h.rt, fun j hj => ?_, fun x hx => ?_⟩
  · rw [getD_set' _ _ _ _ (by omega)]
    show _ ≤ s.n + 1
    have := h.le j
    split <;> omega
  · rw [getD_set' _ _ _ _ (by omega)]
    show upd s.cf (nmK k) none (nmK j) = _
    by_cases e : j = k
    · subst e; rw [upd_at]; simp
    · rw [upd_ne _ _ (fun q => e (nmK_inj hj hk q)), if_neg e, h.c j hj]
  · show upd s.cf (nmK k) none x = none
    rw [upd_ne _ _ (hx k hk), h.o x hx]
/-- The names there should be, of the first m. -/
def wantL (vs : List Nat) : Nat → List ByteArray
  | 0 => []
  | m + 1 => if vs.getD m 0 = 0 then wantL vs m else wantL vs m ++ [nmK m]
theorem wantL_len (vs : List Nat) : ∀ m, (wantL vs m).length ≤ m
  | 0 => Nat.le_refl _
  | m + 1 => by
    have := wantL_len vs m
    unfold wantL
    split
    · omega
    · simp; omega
theorem wantL_mem (vs : List Nat) (x : ByteArray) : ∀ m, x ∈ wantL vs m ↔ ∃ k, k < m ∧ x = nmK k ∧ vs.getD k 0 ≠ 0
  | 0 => by simp [wantL]
  | m + 1 => by
    have ih := wantL_mem vs x m
    unfold wantL
    split
    · rename_i h
      rw [ih]
      constructor
      · rintro ⟨k, a, b, c⟩; exact ⟨k, by omega, b, c⟩
      · rintro ⟨k, a, b, c⟩
        have : k ≠ m := fun e => c (by rw [e]; exact h)
        exact ⟨k, by omega, b, c⟩
    · rename_i h
      rw [List.mem_append, ih, List.mem_singleton]
      constructor
      · rintro (⟨k, a, b, c⟩ | e)
        · exact ⟨k, by omega, b, c⟩
        · exact ⟨m, by omega, e, h⟩
      · rintro ⟨k, a, b, c⟩
        by_cases e : k = m
        · exact .inr (by rw [b, e])
        · exact .inl ⟨k, by omega, b, c⟩
theorem wantL_sorted (vs : List Nat) : ∀ m, m ≤ 20 → ((wantL vs m).map (·.data.toList)).Pairwise (· < ·)
  | 0, _ => List.Pairwise.nil
  | m + 1, hm => by
    have ih := wantL_sorted vs m (by omega)
    unfold wantL
    split
    · exact ih
    · rw [List.map_append, List.pairwise_append]
      refine ⟨ih, by simp, fun a ha b hb => ?_⟩
      obtain ⟨x, hx, rfl⟩ := List.mem_map.1 ha
      obtain ⟨k, h1, rfl, _⟩ := (wantL_mem vs x m).1 hx
      obtain ⟨y, hy, rfl⟩ := List.mem_map.1 hb
      rw [List.mem_singleton] at hy
      subst hy
      exact nmK_lt ⟨k, by omega⟩ ⟨m, by omega⟩ h1
theorem NI.names {i : Nat} {s : Sh} {vs : List Nat} (h : NI i s vs) : NamesOf (s.names 1) (wantL vs 20) ∧ NamesOf (s.names 2) [] ∧ NamesOf (s.names 3) [] := by
  refine ⟨⟨wantL_sorted vs 20 (Nat.le_refl _), fun x => ?_⟩, .nil fun x => ?_, .nil fun x => rfl⟩
  · rw [wantL_mem]
    show _ ↔ (s.cf x).isSome = true
    by_cases q : ∃ k, k < 20 ∧ x = nmK k
    · obtain ⟨k, hk, rfl⟩ := q
      rw [h.c k hk]
      constructor
      · rintro ⟨j, a, b, c⟩
        rw [nmK_inj hk a b, if_neg c]; rfl
      · intro e
        by_cases z : vs.getD k 0 = 0
        · rw [if_pos z] at e; cases e
        · exact ⟨k, hk, rfl, z⟩
    · rw [h.o x (fun k hk e => q ⟨k, hk, e⟩)]
      constructor
      · rintro ⟨j, a, b, c⟩; exact (q ⟨j, a, b⟩).elim
      · intro e; cases e
  · show (s.rt x).isSome = false
    rw [h.rt x]; rfl
theorem str_own {w : World} {base : Nat} {a : Option Addr} {c : Nat} {L : List ByteArray} (ho : w.ownsRow base 9 1 (.slice a L.length c) L.length (L.map Value.string)) : StrAt w a L := by
  obtain ⟨a', c', e, h⟩ := own_sh ho
  cases e
  exact h
def vV (v : Nat) : Value := .int .i64 (v : Int)
theorem rep0 (k : Nat) : (List.replicate 20 0).getD k 0 = 0 := by
  rw [List.getD, List.getElem?_replicate]; split <;> rfl
def letB (q : Nat) : ByteArray := strOfNums [97 + (q : Int)]
theorem letB_nm : ∀ q : Fin 20, (⟨#[110]⟩ : ByteArray) ++ letB q = nmK q := by decide +kernel
theorem tk_set (vs : List Nat) (q m : Nat) (h : q < vs.length) : (vs.map vV).take q ++ [vV m] ++ (vs.map vV).drop (q + 1) = (vs.set q m).map vV := by
  rw [List.map_set, List.set_eq_take_append_cons_drop, if_pos (by simpa using h)]
  simp
theorem cv_one (w : World) (q : Nat) (hq : q < 20) : (convert 51 9 (.slice (some ⟨w.heap.size, 0, none⟩) 1 1)).run Try.prog (w.alloc (.cells #[.int .u8 (97 + (q : Int))] 5)) = .ok (.string (letB q)) (w.alloc (.cells #[.int .u8 (97 + (q : Int))] 5)) :=
  run_convert_bytes_arg _ 51 5 Try.underlying51 Try.underlying5 w.heap.size 0 1 1 [97 + (q : Int)] rfl (fun i hi => by
    obtain rfl : i = 0 := by omega
    exact cell_new (by simp) rfl) _ Try.underlying9
theorem letB_sz (q : Nat) : (letB q).size = 1 := by unfold letB; rw [strOfNums_size]; rfl
theorem hold_names_g {w0 w : World} {L : List MBox} {B : Hp} {g : Nat} {s : Sh} (h : Hold w0 w L (Sep (ShP g s) B)) (hB : Foot B) (k : Int) (L' : List ByteArray) (hn : s.n < 1099511627776) (hL : NamesOf (s.names k) L') :
    Calls Try.prog 17 #[pt g, .int .i64 k] w fun e w' => ∃ a c, e = .returned (.slice a L'.length c) ∧ w'.ownsRow w.heap.size 9 1 (.slice a L'.length c) L'.length (L'.map Value.string) ∧ Hold w0 w' L (Sep (ShP g s) B) ∧ Grow.G w w' := by
  obtain ⟨F, ⟨F1, F2, a, _⟩, _⟩ := id h.st
  refine (snames_any g F1 s k w a hn).mono ?_
  rintro e w' ⟨v, L2, rfl, hL2, hl, ho, hg⟩
  obtain ⟨a, c, rfl, -⟩ := own_sh ho
  obtain rfl := hL.uniq hL2
  exact ⟨a, c, rfl, ho, h.grow ((ShP.foot _ _).sep hB) hg, hg⟩
theorem StrAt.later {w w' : World} {a : Option Addr} {L : List ByteArray} (h : StrAt w a L) (g : Grow.G w w') : StrAt w' a L := fun k hk => by
  obtain ⟨r, e, hc⟩ := h k hk
  exact ⟨r, e, cell_later g hc⟩
theorem infoStr4 : (Try.prog.info? 9).map (fun i => (i.zero, i.size, i.bytes)) = some (some (.string ⟨#[]⟩), 1, 16) := by kernel_rfl
theorem u8_97 : ∀ q : Fin 20, IntKind.u8.wrap (97 + ((q : Nat) : Int)) = 97 + ((q : Nat) : Int) := by decide +kernel
set_option maxHeartbeats 8000000 in
theorem walkShelfNames (w : World) (v : Value) (zs : List Int) (hz : IntSlice w v zs) :
    Calls Try.prog 5 #[v] w fun e w' => e = .returned (.bool true) ∧ Below w.heap.size w w' := by
  have KN := Lib.hid (fun w => known4_any w)
  have VA := Lib.hid (fun w => versions_any w)
  have FE := Lib.hid (fun g s => (ShP.ft g s))
  obtain ⟨va, vc, rfl, hat⟩ := hz.open
  have HZ := Lib.hid hat
  clear hz hat
  go_enter Try.func5, Try.ntmps5
  go_wp2_with fail
  refine (KN.out _).mono ?_
  rintro e w1 ⟨rfl, hg⟩
  have H := Lib.hid ((Hold.nil w).grow Emp.foot hg)
  clear hg
  go_wp2_with fail
  refine (hold_new H.out Emp.foot).mono ?_
  rintro e w2 ⟨g, rfl, hh⟩
  replace H := Lib.hid hh
  clear hh
  go_wp2_with fail
  refine (VA.out _).mono ?_
  rintro e w3 ⟨rfl, hg, hb⟩
  replace H := Lib.hid (H.out.add (FE.out g _) hg (cs := (List.replicate 20 0).map vV) (by rw [List.map_replicate]; exact hb) (Nat.le_refl _))
  clear hg hb
  generalize w2.heap.size = gb at *
  go_wp2_with fail
  go_loopw [5] (fun i wr => ∃ (k : Nat) (s : Sh) (vs : List Nat), k ≤ 60 ∧ NI k s vs ∧ i = .int .i64 k ∧ Hid (Hold w wr [(gb, vs.map vV, 3)] (Sep (ShP g s) Emp))) (fun i _ => 60 - (intOf i).toNat)
  case atStart => exact ⟨0, Sh.new, List.replicate 20 0, by omega, ⟨(by rw [new_n]; omega), by simp, (fun k => by rw [rep0]; omega), fun x => rfl, (fun k hk => by rw [rep0]; rfl), fun x _ => rfl⟩, rfl, by simpa using H⟩
  case round =>
    obtain ⟨k, s, vs, hk, hI, rfl, HK⟩ := hrel
    by_cases hlt : k < zs.length ∧ k < 60
    · obtain ⟨h1, h2⟩ := hlt
      obtain ⟨b, off, rfl, hc, hw⟩ := HZ.out.at HK.out.below h1
      have d1 : decide ((k : Int) < (zs.length : Int)) = true := decide_eq_true (by omega)
      have d2 : decide ((k : Int) < 60) = true := decide_eq_true (by omega)
      generalize zs.getD k 0 = z at *
      have r1 := withinI_range z 20 (by omega)
      have WI := Lib.hid (fun w => within4_any z 20 w (by omega) (by omega) hw.1 hw.2)
      obtain ⟨q, hq⟩ : ∃ q : Nat, withinI z 20 = q := ⟨(withinI z 20).toNat, by omega⟩
      rw [hq] at r1 WI
      have hq20 : q < 20 := by omega
      clear r1 hq
      go_wp2_with fail
      refine (WI.out _).mono ?_
      rintro e wx ⟨rfl, rfl⟩
      obtain ⟨x, hx⟩ : ∃ x, vs.getD q 0 = x := ⟨_, rfl⟩
      have hvl := hI.len
      have hv : (vs.map vV)[q]? = some (.int .i64 (x : Int)) := by rw [← hx]; simp [List.getD, vV, hvl, hq20]
      have CV := fun w => cv_one w q hq20
      have AV : (⟨#[110]⟩ : ByteArray) ++ letB q = nmK q := letB_nm ⟨q, hq20⟩
      have AZ := letB_sz q
      have B0 := HK.out.mem.blk (i := 0) rfl
      have cq : wr.cell? ⟨gb, q, none⟩ = some (.int .i64 (x : Int)) := (B0.cell q).trans (by rw [List.getElem?_toArray]; exact hv)
      have zq := B0.free q
      have lq := B0.lt
      clear B0
      have hcA : ∀ o, (wr.alloc o).cell? ⟨b, off + k, none⟩ = some (.int .i64 z) := fun o => cell_old hc
      have hz1 : IntKind.i64.wrap (z.tdiv 20) = z.tdiv 20 := IntWalk.i64_in _ (by
        have := hw.1; have := hw.2
        rcases Int.le_total 0 z with h | h
        · rw [Int.tdiv_eq_ediv_of_nonneg h]; constructor <;> omega
        · have e : z = -(-z) := by omega
          rw [e, Int.neg_tdiv, Int.tdiv_eq_ediv_of_nonneg (by omega)]; constructor <;> omega)
      have hz2 : wf64 (z.tdiv 20) := by
        have := hw.1; have := hw.2
        unfold wf64
        rcases Int.le_total 0 z with h | h
        · rw [Int.tdiv_eq_ediv_of_nonneg h]; constructor <;> omega
        · have e : z = -(-z) := by omega
          rw [e, Int.neg_tdiv, Int.tdiv_eq_ediv_of_nonneg (by omega)]; constructor <;> omega
      have r2 := withinI_range (z.tdiv 20) 2 (by omega)
      have W2 := Lib.hid (fun w => within4_any (z.tdiv 20) 2 w (by omega) (by omega) hz2.1 hz2.2)
      obtain ⟨y, hy⟩ : ∃ y, withinI (z.tdiv 20) 2 = y := ⟨_, rfl⟩
      rw [hy] at W2 r2
      clear hz2 hw hy
      have hsn := hI.n
      have hk1 : IntKind.i64.wrap ((k : Int) + 1) = (k : Int) + 1 := IntWalk.i64_in _ ⟨by omega, by omega⟩
      have HA := Lib.hid (HK.out.alloc' (FE.out g s) [.int .u8 (97 + (q : Int))] 5 rfl)
      have hns : (nmK q).size = 2 := rfl
      by_cases hdrop : x ≠ 0 ∧ y = 0
      · obtain ⟨hx0, rfl⟩ := hdrop
        obtain ⟨p1, p2, hI2⟩ := hI.drop hq20 (by rw [hx]; exact hx0)
        rw [hx] at p1 p2
        have DR := Lib.hid (fun (w w' : World) (L : List MBox) (g : Nat) (h : Hold w w' L (Sep (ShP g s) Emp)) => by
          have := hold_drop h Emp.foot 1 (nmK q) (x : Int) (by rw [hns]; unfold maxLen; omega) (by omega)
          rwa [p1, p2] at this)
        have t0 : decide (0 < x) = true := decide_eq_true (by omega)
        have hI2 := Lib.hid hI2
        clear hI hx0 p1 p2
        generalize s.cut 1 (nmK q) = S2 at *
        generalize nmK q = nm at *
        go_wp2_with fail
        refine (W2.out _).mono ?_
        rintro e wx ⟨rfl, rfl⟩
        replace HK := HA
        go_wp2_with fail
        refine (DR.out _ _ _ _ HK.out).mono ?_
        rintro e ws1 ⟨rfl, hst⟩
        replace HK := Lib.hid hst
        clear hst
        go_wp2_with (refine Hold.store 0 (t := 3) (FE.out g _) rfl rfl rfl rfl (vs := [.int .i64 0]) rfl (n := 1) (by kernel_rfl) HK.out rfl rfl (by simp; omega) rfl ?_; intro W8 HMm CW8)
        replace HK := Lib.hid HMm
        clear HMm CW8
        refine Stay.go ?_
        go_wp2_with fail
        exact ⟨⟨k + 1, S2, vs.set q 0, by omega, hI2.out, rfl, Lib.hid (by rw [← tk_set vs q 0 (by omega)]; exact HK.out.take 1)⟩, by simp [intOf]; omega⟩
      · obtain ⟨p1, p2⟩ := hI.put hq20
        rw [hx] at p1 p2
        have hI2 := hI.set hq20
        have hnum : s.numOf 0 = (s.n : Int) + 1 := rfl
        have PC := Lib.hid (fun (w w' : World) (L : List MBox) (g : Nat) (h : Hold w w' L (Sep (ShP g s) Emp)) => by
          have := hold_putC h Emp.foot (cfgK q) (x : Int) (by show (nmK q).size ≤ _; omega) (by omega)
          rwa [p1, p2, hnum] at this)
        have hcase : x = 0 ∨ (x ≠ 0 ∧ y ≠ 0) := by omega
        clear hI p1 p2 hnum hdrop hx
        generalize s.setC (cfgK q) = S2 at *
        generalize s.n = N at *
        unfold cfgK Cfg.v at PC
        dsimp only at PC
        have hI2 := Lib.hid hI2
        generalize nmK q = nm at *
        rcases hcase with rfl | ⟨hx0, hy0⟩
        case' inl =>
          go_wp2_with fail
        case' inr =>
          have t0 : decide (0 < x) = true := decide_eq_true (by omega)
          have t1 : decide (y = 0) = false := decide_eq_false hy0
          have t2 : (y == 0) = false := by simpa using hy0
          clear hx0 hy0
          go_wp2_with fail
          refine (W2.out _).mono ?_
          rintro e wx ⟨rfl, rfl⟩
          go_wp2_with fail
        all_goals
          replace HK := HA
          refine (PC.out _ _ _ _ HK.out).mono ?_
          rintro e ws2 ⟨rfl, hst⟩
          replace HK := Lib.hid hst
          clear hst
          go_wp2_with (refine Hold.store 0 (t := 3) (FE.out g _) rfl rfl rfl rfl (vs := [.int .i64 ((N : Int) + 1)]) rfl (n := 1) (by kernel_rfl) HK.out rfl rfl (by simp; omega) rfl ?_; intro W8 HMm CW8)
          replace HK := Lib.hid HMm
          clear HMm CW8
          refine Stay.go ?_
          go_wp2_with fail
          exact ⟨⟨k + 1, S2, vs.set q (N + 1), by omega, hI2.out, rfl, Lib.hid (by rw [← tk_set vs q (N + 1) (by omega)]; exact HK.out.take 1)⟩, by simp [intOf]; omega⟩
    · have HS : Hid (NI k s vs) := Lib.hid hI
      have hvl := hI.len
      have e0 : ∃ V : List Value, vs.map vV = V := ⟨_, rfl⟩
      by_cases h1 : k < zs.length
      case' pos =>
        have d1 : decide ((k : Int) < (zs.length : Int)) = true := decide_eq_true (by omega)
        obtain rfl : k = 60 := by omega
        have d2 : decide (((60 : Nat) : Int) < 60) = false := by decide
        clear hlt hI hk
        go_wp2_with fail
      case' neg =>
        have d1 : decide ((k : Int) < (zs.length : Int)) = false := decide_eq_false (by omega)
        clear hlt hI
        go_wp2_with fail
      all_goals
        clear e0 hvl h1
        obtain ⟨W0, rfl⟩ : ∃ W0, W0 = wr := ⟨_, rfl⟩
        go_loopw [10, 11] (fun r j w9 => ∃ m : Nat, m ≤ 20 ∧ j = .int .i64 m ∧ Hid (w9.ownsRow W0.heap.size 9 1 r (wantL vs m).length ((wantL vs m).map Value.string)) ∧ Hid (Grow.G W0 w9)) (fun _ j _ => 20 - (intOf j).toNat)
        case atStart => exact ⟨0, by omega, rfl, Lib.hid (World.ownsRow_nil _ _ _ _), Lib.hid (Grow.G.refl _)⟩
        case round =>
          obtain ⟨m, hm, rfl, OW, G⟩ := hrel
          by_cases hm2 : m < 20
          · obtain ⟨x, hx⟩ : ∃ x, vs.getD m 0 = x := ⟨_, rfl⟩
            have hvl := HS.out.len
            have hv : (vs.map vV)[m]? = some (.int .i64 (x : Int)) := by rw [← hx]; simp [List.getD, vV, hvl, hm2]
            have B0 := (HK.out.mem.blk (i := 0) rfl).grow G.out
            have cq : wr.cell? ⟨gb, m, none⟩ = some (.int .i64 (x : Int)) := (B0.cell m).trans (by rw [List.getElem?_toArray]; exact hv)
            have hk1 : IntKind.i64.wrap ((m : Int) + 1) = (m : Int) + 1 := IntWalk.i64_in _ ⟨by omega, by omega⟩
            have d3 : decide ((m : Int) < 20) = true := decide_eq_true (by omega)
            clear B0
            by_cases hx0 : x = 0
            · have hW : wantL vs (m + 1) = wantL vs m := by show (if _ then _ else _) = _; rw [hx, if_pos hx0]
              subst hx0
              go_wp2_with fail
              exact ⟨⟨m + 1, by omega, rfl, by rw [hW]; exact OW, G⟩, by simp [intOf]; omega⟩
            · have hW : wantL vs (m + 1) = wantL vs m ++ [nmK m] := by show (if _ then _ else _) = _; rw [hx, if_neg hx0]
              have hWl := wantL_len vs m
              have HW := Lib.hid hW
              have CV := fun w => cv_one w m hm2
              have AV : (⟨#[110]⟩ : ByteArray) ++ letB m = nmK m := letB_nm ⟨m, hm2⟩
              have AZ := letB_sz m
              have hns : (nmK m).size = 2 := rfl
              have hu8 : IntKind.u8.wrap (97 + (m : Int)) = 97 + (m : Int) := u8_97 ⟨m, hm2⟩
              have t0 : decide (0 < x) = true := decide_eq_true (by omega)
              obtain ⟨i0, hi, ha0, ha1, ha2⟩ := info_parts infoStr4
              have HI := Lib.hid (And.intro hi (And.intro ha0 (And.intro ha1 ha2)))
              clear hi ha0 ha1 ha2 hW hx hx0 hv
              generalize nmK m = nm at *
              generalize hwl : (wantL vs m).length = wl at *
              have HWL := Lib.hid hwl
              clear hwl
              go_wp2_with (at_builtin; refine Fr.wpList_append_fr _ rfl _ _ 39 rfl W0.heap.size 9 i0 (.string ⟨#[]⟩) 1 16 Try.underlying39 HI.out.1 HI.out.2.1 HI.out.2.2.1 HI.out.2.2.2 rfl (by decide) _ _ _ rfl (own_later OW.out (Grow.G.alloc (Grow.G.alloc (Grow.G.refl _) _) _)) ⟨wr.heap.size + 1, 0, none⟩ 1 1 [.string nm] rfl rfl (news_new _ _ _ _ (by simp)) (one1 rfl) (by unfold maxLen; omega) (by omega) (by have := G.out.size; simp; omega) ?_; intro v' w' hown hfr; have OW' := Lib.hid hown; have G' := Lib.hid (own_grow (G.out.trans (Grow.G.alloc (Grow.G.alloc (Grow.G.refl _) _) _)) (own_later OW.out (Grow.G.alloc (Grow.G.alloc (Grow.G.refl _) _) _)) (Nat.le_refl _) hfr.g); clear hown hfr)
              exact ⟨⟨m + 1, by omega, rfl, by rw [HW.out, List.length_append, List.length_singleton, List.map_append, HWL.out]; exact OW', G'⟩, by simp [intOf]; omega⟩
          · have em : m = 20 := by omega
            subst em
            have d3 : decide (((20 : Nat) : Int) < 20) = false := by decide
            obtain ⟨ra, rc, rfl⟩ := own_shape OW.out
            have hn60 := HS.out.n
            have NM := Lib.hid HS.out.names
            have wl := wantL_len vs 20
            have SO := Lib.hid (str_own OW.out)
            have HK2 := Lib.hid (HK.out.grow (FE.out _ _) G.out)
            have hn : s.n < 1099511627776 := by have := hn60; omega
            clear HK
            go_wp2_with fail
            refine (hold_names_g HK2.out Emp.foot 1 _ hn NM.out.1).mono ?_
            rintro e w5 ⟨na, nc, rfl, hown, hh, hg5⟩
            have S5 := Lib.hid (str_own hown)
            have SO5 := Lib.hid (StrAt.later SO.out hg5)
            have HK3 := Lib.hid hh
            clear HK2 hown hh hg5 SO OW
            go_wp2_with fail
            refine (same4_any w5 na nc ra rc _ S5.out SO5.out (by omega)).mono ?_
            rintro e w6 ⟨rfl, hg6⟩
            have HK4 := Lib.hid (HK3.out.grow (FE.out _ _) hg6)
            clear HK3 hg6 S5 SO5
            go_wp2_with fail
            refine (hold_names_g HK4.out Emp.foot 2 _ hn NM.out.2.1).mono ?_
            rintro e w7 ⟨na, nc, rfl, hown, hh, hg7⟩
            have HK5 := Lib.hid hh
            clear HK4 hown hh hg7
            go_wp2_with fail
            refine (hold_names_g HK5.out Emp.foot 3 _ hn NM.out.2.2).mono ?_
            rintro e w8 ⟨na, nc, rfl, hown, hh, hg8⟩
            have HK6 := Lib.hid hh
            clear HK5 hown hh hg8
            go_wp2_with fail
            go_ret
            exact ⟨rfl, HK6.out.below⟩
end Go.Proofs.Ytbfpappechpdiaa

/- My own texts RowR1, RowR2, RowR3, RowR4, laid in one file. -/
import Derived.Test.YtbfpappechpdiaaZ30
import Derived.Test.YtbfpappechpdiaaZ29
import Derived.Test.YtbfpappechpdiaaSorted

/- shelf's rows: asked, written, struck. -/
namespace Go.Proofs.Ytbfpappechpdiaa
set_option maxRecDepth 100000
set_option linter.unusedVariables false
set_option linter.unusedSimpArgs false
set_option linter.unnecessarySimpa false
open Go.RowKit Go.MapV Go.Maps

theorem at_noneR {f : ByteArray → Option ObR} {nm : ByteArray} (h : f nm = none) : (fR f (strK nm)).getD zR = zR ∧ (fR f (strK nm)).isSome = false := by
  have e : fR f (strK nm) = none := by show (f nm).map ObR.val = _; rw [h]; rfl
  rw [e]; exact ⟨rfl, rfl⟩
theorem at_someR {f : ByteArray → Option ObR} {nm : ByteArray} {o : ObR} (h : f nm = some o) : (fR f (strK nm)).getD zR = o.val ∧ (fR f (strK nm)).isSome = true := by
  have e : fR f (strK nm) = some o.val := by show (f nm).map ObR.val = _; rw [h]; rfl
  rw [e]; exact ⟨rfl, rfl⟩
set_option maxHeartbeats 1000000 in
theorem heldR_any (g off : Nat) (m : Option Nat) (n : Nat) (f : ByteArray → Option ObR) (nm : ByteArray) (v : Int) (w : World) (hc : w.cell? ⟨g, off, none⟩ = some (.map m)) (hg : g < w.heap.size) (hm : MapS w m n (fR f)) (hs : nm.size ≤ maxLen) :
    Calls Try.prog 51 #[.pointer (some ⟨g, off, none⟩), .string nm, .int .i64 v] w fun e w' => e = .returned (.int .i64 (heldP ((f nm).map ObR.v) v)) ∧ Grow.G w w' := by
  have hM := Lib.hid hm
  clear hm
  cases hf : f nm with
  | none =>
    obtain ⟨hv, hb⟩ := at_noneR hf
    have HV := Lib.hid hv
    have HB := Lib.hid hb
    clear hf hv hb
    go_enter Try.func51, Try.ntmps51
    go_wp2_with (at_lookup; refine look2v zR false rfl rfl keyedS Try.underlying58 zeroR rfl hM.out rfl (keyS Try.underlying9 hs) HV.out HB.out ?_)
    go_ret
    exact ⟨rfl, by (repeat (first | with_reducible exact Grow.G.refl _ | with_reducible exact Below.refl _ _ | with_reducible refine Grow.G.alloc ?_ _ | with_reducible refine Grow.G.trans ?_ hb1 | ((with_reducible refine Below.setCell ?_ ?_ _); rotate_left; (focus (first | omega | (simp; done) | (simp; omega)))) | with_reducible assumption | with_reducible refine Grow.G.trans ?_ (by with_reducible assumption)))⟩
  | some o =>
    obtain ⟨hv, hb⟩ := at_someR hf
    clear hf
    obtain ⟨e, he⟩ : ∃ e, heldP ((some o).map ObR.v) v = e := ⟨_, rfl⟩
    rw [he]
    have hE : (((o.v : Int) != v) = true ∧ e = 7) ∨ (((o.v : Int) != v) = false ∧ e = 0) := by
      subst he
      unfold heldP
      by_cases h : (o.v : Int) = v
      · exact .inr ⟨by simpa using h, if_pos h⟩
      · exact .inl ⟨by simpa using h, if_neg h⟩
    clear he
    obtain ⟨⟨n1, n2, n3, n4⟩, b1, c1, v1⟩ := o
    unfold ObR.val at hv
    dsimp only at hv hE
    have HV := Lib.hid hv
    have HB := Lib.hid hb
    clear hv hb
    rcases hE with ⟨hne, rfl⟩ | ⟨hne, rfl⟩
    all_goals
      go_enter Try.func51, Try.ntmps51
      go_wp2_with (at_lookup; refine look2v _ true rfl rfl keyedS Try.underlying58 zeroR rfl hM.out rfl (keyS Try.underlying9 hs) HV.out HB.out ?_)
      go_ret
      exact ⟨rfl, by (repeat (first | with_reducible exact Grow.G.refl _ | with_reducible exact Below.refl _ _ | with_reducible refine Grow.G.alloc ?_ _ | with_reducible refine Grow.G.trans ?_ hb1 | ((with_reducible refine Below.setCell ?_ ?_ _); rotate_left; (focus (first | omega | (simp; done) | (simp; omega)))) | with_reducible assumption | with_reducible refine Grow.G.trans ?_ (by with_reducible assumption)))⟩
/-- What a row is behind a store into it. -/
def PutR (w w' : World) (g n : Nat) (mc mr mg : Option Nat) (k : Nat) (f : ByteArray → Option ObR) (nm : ByteArray) (ob : ObR) : Prop :=
  ∃ b, Blk w' g (shC n mc (some b) mg).toArray shT ∧ MapS w' (some b) (k + 1) (fR (upd f nm (some ob))) ∧ Chg (fun j => j = g ∨ some j = mr) w w' ∧ (mr = some b ∨ w.heap.size ≤ b)
theorem upd_keyR (f : ByteArray → Option ObR) (nm : ByteArray) (o : Option ObR) : fR (upd f nm o) (strK nm) = o.map ObR.val := by show (upd f nm o nm).map ObR.val = _; rw [upd_at]
theorem upd_otherR (f : ByteArray → Option ObR) (nm : ByteArray) (o : Option ObR) : ∀ x, x ≠ strK nm → fR (upd f nm o) x = fR f x := onS_ne fun x hx => by rw [upd_ne _ _ hx]

def ObR.base (o : ObR) : Value := .agg #[.string o.r.nm, .string o.r.cf, .slice (some ⟨o.b, 0, none⟩) o.r.ts.length o.cap, .int .i64 o.r.rl]
def ObR.at (o : ObR) (n : Nat) : ObR := { o with v := n }

set_option maxHeartbeats 1000000 in
theorem dropR_no (g : Nat) (m : Option Nat) (k : Nat) (f : ByteArray → Option ObR) (nm : ByteArray) (v : Int) (w : World) (hc : w.cell? ⟨g, 2, none⟩ = some (.map m)) (hg : g < w.heap.size) (hm : MapS w m k (fR f)) (hs : nm.size ≤ maxLen) (er : Int) (he : heldP ((f nm).map ObR.v) v = er) (h0 : er ≠ 0) :
    Calls Try.prog 111 #[.pointer (some ⟨g, 2, none⟩), .string nm, .int .i64 v] w fun e w' => e = .returned (.int .i64 er) ∧ Grow.G w w' := by
  have HL := Lib.hid (he ▸ heldR_any g 2 m k f nm v w hc hg hm hs)
  have hne : (er == 0) = false := by simpa using h0
  clear hm he h0
  go_enter Try.func111, Try.ntmps111
  go_wp2_with fail
  refine HL.out.mono ?_
  rintro e wn1 ⟨rfl, hb1⟩
  go_wp2_with fail
  go_ret
  exact ⟨rfl, hb1⟩
set_option maxHeartbeats 1000000 in
theorem dropR_yes (g : Nat) (m : Option Nat) (k : Nat) (f : ByteArray → Option ObR) (nm : ByteArray) (v : Int) (w : World) (hc : w.cell? ⟨g, 2, none⟩ = some (.map m)) (hg : g < w.heap.size) (hm : MapS w m k (fR f)) (hs : nm.size ≤ maxLen) (he : heldP ((f nm).map ObR.v) v = 0) :
    Calls Try.prog 111 #[.pointer (some ⟨g, 2, none⟩), .string nm, .int .i64 v] w fun e w' => e = .returned (.int .i64 0) ∧ MapS w' m k (fR (upd f nm none)) ∧ Chg (fun j => some j = m) w w' := by
  have HL := Lib.hid (he ▸ heldR_any g 2 m k f nm v w hc hg hm hs)
  have HU := Lib.hid (upd_keyR f nm none)
  have HO := Lib.hid (upd_otherR f nm none)
  have HM := Lib.hid hm
  have HC := Lib.hid hc
  clear hm he hc
  go_enter Try.func111, Try.ntmps111
  go_wp2_with fail
  refine HL.out.mono ?_
  rintro e wn1 ⟨rfl, hb1⟩
  have q0 := cell_later hb1 HC.out
  have HG := Lib.hid hb1
  have hl : g < wn1.heap.size := by have := hb1.size; omega
  clear hb1
  go_wp2_with (at_delete; refine MapV.del rfl rfl keyedS Try.underlying58 rfl (HM.out.grow HG.out) rfl (keyS Try.underlying9 hs) HU.out HO.out ?_; intro w9 M9 C9; have M9 := Lib.hid M9; have C9 := Lib.hid C9)
  go_ret
  exact ⟨rfl, M9.out, (Chg.grow HG.out).trans C9.out⟩
end Go.Proofs.Ytbfpappechpdiaa

/- shelf's rows: their names. -/

namespace Go.Proofs.Ytbfpappechpdiaa
set_option maxRecDepth 100000
set_option linter.unusedVariables false
set_option linter.unusedSimpArgs false
set_option linter.unnecessarySimpa false
open Go.RowKit Go.MapV Go.Maps

def isOR (f : ByteArray → Option ObR) (x : ByteArray) : Bool := (f x).isSome
theorem keysR_any (m : Option Nat) (w : World) : Calls Try.prog 115 #[.map m] w fun e w' => e = .returned (.func (.func 116) #[] #[pt w.heap.size]) ∧ w' = w.alloc (.cells #[.map m] 58) :=
  callsIn_wide.1 (Try.maps_Keys_115 m w)
theorem sortedR_any (m : Option Nat) (n : Nat) (f : ByteArray → Option ObR) (w : World) (hm : MapS w m n (fR f)) (hn : n ≤ 1099511627776) :
    Calls Try.prog 85 #[.func (.func 116) #[] #[pt w.heap.size]] (w.alloc (.cells #[.map m] 58)) fun e w' =>
      ∃ (v : Value) (L : List ByteArray), e = .returned v ∧ NamesOf (isOR f) L ∧ L.length ≤ 1099511627776 ∧ w'.ownsRow w.heap.size 9 1 v L.length (L.map Value.string) ∧ Grow.G w w' := by
  have hg0 : Grow.G w (w.alloc (.cells #[.map m] 58)) := Grow.G.alloc (Grow.G.refl _) _
  cases m with
  | none =>
    refine (callsIn_wide.1 (Try.slices_Sorted_keys_nil_85_115 w)).mono ?_
    rintro e w' ⟨v, ss, rfl, rfl, hrow, hnil, hb⟩
    refine ⟨v, [], rfl, NamesOf.nil fun x => ?_, by simp, ?_, hg0.trans hb⟩
    · have h := hm (strK x)
      have h : (f x).map ObR.val = none := h
      unfold isOR
      cases hx : f x with
      | none => rfl
      | some o => rw [hx] at h; cases h
    · have := ownsRow_base_a hrow (base' := w.heap.size) (by simp)
      simpa using this
  | some b =>
    obtain ⟨D, hown, ha⟩ := hm
    have hsz := hown.size_le
    refine (callsIn_wide.1 (Try.slices_Sorted_keys_85_115 b n D RV w hown (by unfold maxLen; omega) (by omega))).mono ?_
    rintro e w' ⟨v, ss, rfl, hp, hrow, hnil, hb⟩
    have HN := names_of hown ha keyedS Try.underlying9 hp
    have hl : ss.length = Maps.size D := by
      rw [hp.length_eq]
      cases D <;> first | rfl | simp [strKeys, Maps.size]
    refine ⟨v, (ss.mergeSort leB).map toB, rfl, ?_, ?_, ?_, hg0.trans hb⟩
    · refine ⟨HN.1, fun x => (HN.2 x).trans ?_⟩
      unfold isOR
      dsimp only
      rw [Option.isSome_map]
    · rw [List.length_map, List.length_mergeSort]; omega
    · have := ownsRow_base_a hrow (base' := w.heap.size) (by simp)
      rw [List.length_map, List.length_mergeSort, List.map_map]
      exact this
set_option maxHeartbeats 1000000 in
/-- The iterator over a row's names. -/
theorem namesR_seq (kb g : Nat) (m : Option Nat) (n : Nat) (f : ByteArray → Option ObR) (w : World) (hk : Blk w kb #[.pointer (some ⟨g, 2, none⟩)] 83) (hc : w.cell? ⟨g, 2, none⟩ = some (.map m)) (hm : MapS w m n (fR f)) (hn : n ≤ 1099511627776) :
    Iter.SeqP Try.prog 114 #[pt kb] (fun x : ByteArray => #[.string x]) (fun pre x _ => isOR f x = true ∧ pre.length < 1099511627776) (fun xs => NamesOf (isOR f) xs) w := by
  intro ln J Jx W hG hJ hJx hY h0
  have b0 : W.cell? ⟨kb, 0, none⟩ = some (.pointer (some ⟨g, 2, none⟩)) := ((hk.grow hG).cell 0).trans rfl
  have b1 := cell_later hG hc
  have hkb := (hk.grow hG).lt
  have hgb : g < W.heap.size := by
    rcases Nat.lt_or_ge g W.heap.size with h | h
    · exact h
    · simp [World.cell?, Array.getElem?_eq_none h] at b1
  have SO := Lib.hid (sortedR_any m n f W (hm.grow hG) hn)
  have HJ := Lib.hid hJ
  have HY := Lib.hid hY
  have H0 := Lib.hid h0
  clear hk hc hm hG hJ hJx hY h0
  refine (callsIn_wide (n := 0)).1 ?_
  refine callsIn_of_wp Try.func114 rfl trivial ?_
  simp only [Try.ntmps114, List.size_toArray, List.length_cons, List.length_nil, Nat.reduceAdd, Nat.reduceSub, Array.replicate_succ, Array.replicate_zero, List.push_toArray, List.append_toArray, List.nil_append, List.cons_append]
  gi_wp2_with fail
  refine ⟨trivial, rfl, (callsIn_wide.2 (keysR_any m W)).mono ?_⟩
  rintro e w' ⟨rfl, rfl⟩
  gi_wp2_with fail
  refine ⟨trivial, rfl, (callsIn_wide.2 SO.out).mono ?_⟩
  rintro e w1 ⟨v, L, rfl, hNL, hLl, hrow, hg1⟩
  have J1 := Lib.hid (H0.out (fun k => v.ownBlock = some k) w1 hg1 (own_prv hrow))
  have HN := Lib.hid hNL
  have HR := Lib.hid hrow
  clear b0 b1 hNL
  obtain ⟨a, c, rfl, -⟩ := own_sh hrow
  clear hrow
  gi_wp2_with fail
  gi_loopw [12] (fun i wr => ∃ k : Nat, k ≤ L.length ∧ i = .int .i64 k ∧ Hid (wr.ownsRow W.heap.size 9 1 (.slice a L.length c) L.length (L.map Value.string)) ∧ Hid (J (fun k => (Value.slice a L.length c).ownBlock = some k) (L.take k) wr)) (fun i _ => L.length - (intOf i).toNat)
  case atStart => exact ⟨0, Nat.zero_le _, rfl, HR, J1⟩
  case round =>
    obtain ⟨k, hk, rfl, R, JJ⟩ := hrel
    by_cases hlt : k < L.length
    · obtain ⟨_, _, he, hcell⟩ := own_sh R.out
      cases he
      obtain ⟨r, rfl, hc⟩ := hcell k hlt
      have hmem := (HN.out.2 (L.getD k ⟨#[]⟩)).1 (by simp [List.getD, hlt])
      have htk : L.take (k + 1) = L.take k ++ [L.getD k ⟨#[]⟩] := by rw [List.take_add_one]; simp [List.getD, hlt]
      obtain ⟨x, hx⟩ : ∃ x, L.getD k ⟨#[]⟩ = x := ⟨_, rfl⟩
      rw [hx] at hc hmem htk
      have HT := Lib.hid htk
      clear hx htk
      obtain ⟨fn, tmps, assign, body, hy, hR⟩ := HY.out _ (L.take k) x wr JJ.out ⟨hmem, by rw [List.length_take]; omega⟩
      have k1 : (k : Int) < (L.length : Int) := by omega
      have k0 : (0 : Int) ≤ (k : Int) := by omega
      gi_wp2_with fail
      refine ⟨rfl, hR.mono ?_⟩
      rintro e w3 (⟨rfl, hj3, hk3⟩ | ⟨rfl, hx3⟩)
      · have R3 := Lib.hid (own_keep R.out hk3)
        have J3 := Lib.hid (HT.out ▸ hj3)
        clear hj3 hk3 hR hy hc
        gi_wp2_with fail
        go_roundw
        case rel => exact ⟨k + 1, by omega, by go_num, R3, J3⟩
        case measure => simp [intOf]; omega
      · have HX := Lib.hid hx3
        clear hx3 hR hy hc
        gi_wp2_with fail
        refine bodyPost_ret (results_none rfl _ _ _) rfl ?_
        exact ⟨⟨_, rfl⟩, _, .inr ⟨_, HX.out⟩⟩
    · obtain rfl : k = L.length := by omega
      have J2 := Lib.hid (show J (fun k => (Value.slice a L.length c).ownBlock = some k) L wr from by have := JJ.out; rwa [List.take_length] at this)
      gi_wp2_with fail
      go_end0
      exact ⟨⟨_, rfl⟩, _, .inl ⟨L, HN.out, J2.out⟩⟩
end Go.Proofs.Ytbfpappechpdiaa

/- My own texts RowR1, RowR2, RowR3, RowR4, laid in one file. -/
import Derived.Test.YthnjplbcaheooaaZ30
import Derived.Test.YthnjplbcaheooaaZ29
import Derived.Test.YthnjplbcaheooaaSorted

/- shelf's rows: asked, written, struck. -/
namespace Go.Proofs.Ythnjplbcaheooaa
set_option maxRecDepth 100000
set_option linter.unusedVariables false
set_option linter.unusedSimpArgs false
set_option linter.unnecessarySimpa false
open Go.RowKit Go.MapV Go.Maps

/-- What a row is behind a store into it. -/
def PutR (w w' : World) (g n : Nat) (mc mr mg : Option Nat) (k : Nat) (f : ByteArray → Option ObR) (nm : ByteArray) (ob : ObR) : Prop :=
  ∃ b, Blk w' g (shC n mc (some b) mg).toArray shT ∧ MapS w' (some b) (k + 1) (fR (upd f nm (some ob))) ∧ Chg (fun j => j = g ∨ some j = mr) w w' ∧ (mr = some b ∨ w.heap.size ≤ b)

def ObR.base (o : ObR) : Value := .agg #[.string o.r.nm, .string o.r.cf, .slice (some ⟨o.b, 0, none⟩) o.r.ts.length o.cap, .int .i64 o.r.rl]
def ObR.at (o : ObR) (n : Nat) : ObR := { o with v := n }

end Go.Proofs.Ythnjplbcaheooaa

/- shelf's rows: their names. -/

namespace Go.Proofs.Ythnjplbcaheooaa
set_option maxRecDepth 100000
set_option linter.unusedVariables false
set_option linter.unusedSimpArgs false
set_option linter.unnecessarySimpa false
open Go.RowKit Go.MapV Go.Maps

def isOR (f : ByteArray → Option ObR) (x : ByteArray) : Bool := (f x).isSome
theorem keysR_any (m : Option Nat) (w : World) : Calls Try.prog 121 #[.map m] w fun e w' => e = .returned (.func (.func 122) #[] #[pt w.heap.size]) ∧ w' = w.alloc (.cells #[.map m] 69) :=
  callsIn_wide.1 (Try.maps_Keys_121 m w)
theorem sortedR_any (m : Option Nat) (n : Nat) (f : ByteArray → Option ObR) (w : World) (hm : MapS w m n (fR f)) (hn : n ≤ 1099511627776) :
    Calls Try.prog 92 #[.func (.func 122) #[] #[pt w.heap.size]] (w.alloc (.cells #[.map m] 69)) fun e w' =>
      ∃ (v : Value) (L : List ByteArray), e = .returned v ∧ NamesOf (isOR f) L ∧ L.length ≤ 1099511627776 ∧ w'.ownsRow w.heap.size 9 1 v L.length (L.map Value.string) ∧ Grow.G w w' := by
  have hg0 : Grow.G w (w.alloc (.cells #[.map m] 69)) := Grow.G.alloc (Grow.G.refl _) _
  cases m with
  | none =>
    refine (callsIn_wide.1 (Try.slices_Sorted_keys_nil_92_121 w)).mono ?_
    rintro e w' ⟨v, ss, rfl, rfl, hrow, hnil, hb⟩
    refine ⟨v, [], rfl, NamesOf.nil fun x => ?_, by simp, ?_, hg0.trans hb⟩
    · have h := hm (strK x)
      have h : (f x).map ObR.val = none := h
      unfold isOR
      cases hx : f x with
      | none => rfl
      | some o => rw [hx] at h; cases h
    · have := ownsRow_base_a hrow (base' := w.heap.size) (by simp)
      simpa using this
  | some b =>
    obtain ⟨D, hown, ha⟩ := hm
    have hsz := hown.size_le
    refine (callsIn_wide.1 (Try.slices_Sorted_keys_92_121 b n D RV w hown (by unfold maxLen; omega) (by omega))).mono ?_
    rintro e w' ⟨v, ss, rfl, hp, hrow, hnil, hb⟩
    have HN := names_of hown ha keyedS Try.underlying9 hp
    have hl : ss.length = Maps.size D := by
      rw [hp.length_eq]
      cases D <;> first | rfl | simp [strKeys, Maps.size]
    refine ⟨v, (ss.mergeSort leB).map toB, rfl, ?_, ?_, ?_, hg0.trans hb⟩
    · refine ⟨HN.1, fun x => (HN.2 x).trans ?_⟩
      unfold isOR
      dsimp only
      rw [Option.isSome_map]
    · rw [List.length_map, List.length_mergeSort]; omega
    · have := ownsRow_base_a hrow (base' := w.heap.size) (by simp)
      rw [List.length_map, List.length_mergeSort, List.map_map]
      exact this
set_option maxHeartbeats 1000000 in
/-- The iterator over a row's names. -/
theorem namesR_seq (kb g : Nat) (m : Option Nat) (n : Nat) (f : ByteArray → Option ObR) (w : World) (hk : Blk w kb #[.pointer (some ⟨g, 2, none⟩)] 92) (hc : w.cell? ⟨g, 2, none⟩ = some (.map m)) (hm : MapS w m n (fR f)) (hn : n ≤ 1099511627776) :
    Iter.SeqP Try.prog 120 #[pt kb] (fun x : ByteArray => #[.string x]) (fun pre x _ => isOR f x = true ∧ pre.length < 1099511627776) (fun xs => NamesOf (isOR f) xs) w := by
  intro ln J Jx W hG hJ hJx hY h0
  have b0 : W.cell? ⟨kb, 0, none⟩ = some (.pointer (some ⟨g, 2, none⟩)) := ((hk.grow hG).cell 0).trans rfl
  have b1 := cell_later hG hc
  have hkb := (hk.grow hG).lt
  have hgb : g < W.heap.size := by
    rcases Nat.lt_or_ge g W.heap.size with h | h
    · exact h
    · simp [World.cell?, Array.getElem?_eq_none h] at b1
  have SO := Lib.hid (sortedR_any m n f W (hm.grow hG) hn)
  have HJ := Lib.hid hJ
  have HY := Lib.hid hY
  have H0 := Lib.hid h0
  clear hk hc hm hG hJ hJx hY h0
  refine (callsIn_wide (n := 0)).1 ?_
  refine callsIn_of_wp Try.func120 rfl trivial ?_
  simp only [Try.ntmps120, List.size_toArray, List.length_cons, List.length_nil, Nat.reduceAdd, Nat.reduceSub, Array.replicate_succ, Array.replicate_zero, List.push_toArray, List.append_toArray, List.nil_append, List.cons_append]
  gi_wp2_with fail
  refine ⟨trivial, rfl, (callsIn_wide.2 (keysR_any m W)).mono ?_⟩
  rintro e w' ⟨rfl, rfl⟩
  gi_wp2_with fail
  refine ⟨trivial, rfl, (callsIn_wide.2 SO.out).mono ?_⟩
  rintro e w1 ⟨v, L, rfl, hNL, hLl, hrow, hg1⟩
  have J1 := Lib.hid (H0.out (fun k => v.ownBlock = some k) w1 hg1 (own_prv hrow))
  have HN := Lib.hid hNL
  have HR := Lib.hid hrow
  clear b0 b1 hNL
  obtain ⟨a, c, rfl, -⟩ := own_sh hrow
  clear hrow
  gi_wp2_with fail
  gi_loopw [12] (fun i wr => ∃ k : Nat, k ≤ L.length ∧ i = .int .i64 k ∧ Hid (wr.ownsRow W.heap.size 9 1 (.slice a L.length c) L.length (L.map Value.string)) ∧ Hid (J (fun k => (Value.slice a L.length c).ownBlock = some k) (L.take k) wr)) (fun i _ => L.length - (intOf i).toNat)
  case atStart => exact ⟨0, Nat.zero_le _, rfl, HR, J1⟩
  case round =>
    obtain ⟨k, hk, rfl, R, JJ⟩ := hrel
    by_cases hlt : k < L.length
    · obtain ⟨_, _, he, hcell⟩ := own_sh R.out
      cases he
      obtain ⟨r, rfl, hc⟩ := hcell k hlt
      have hmem := (HN.out.2 (L.getD k ⟨#[]⟩)).1 (by simp [List.getD, hlt])
      have htk : L.take (k + 1) = L.take k ++ [L.getD k ⟨#[]⟩] := by rw [List.take_add_one]; simp [List.getD, hlt]
      obtain ⟨x, hx⟩ : ∃ x, L.getD k ⟨#[]⟩ = x := ⟨_, rfl⟩
      rw [hx] at hc hmem htk
      have HT := Lib.hid htk
      clear hx htk
      obtain ⟨fn, tmps, assign, body, hy, hR⟩ := HY.out _ (L.take k) x wr JJ.out ⟨hmem, by rw [List.length_take]; omega⟩
      have k1 : (k : Int) < (L.length : Int) := by omega
      have k0 : (0 : Int) ≤ (k : Int) := by omega
      gi_wp2_with fail
      refine ⟨rfl, hR.mono ?_⟩
      rintro e w3 (⟨rfl, hj3, hk3⟩ | ⟨rfl, hx3⟩)
      · have R3 := Lib.hid (own_keep R.out hk3)
        have J3 := Lib.hid (HT.out ▸ hj3)
        clear hj3 hk3 hR hy hc
        gi_wp2_with fail
        go_roundw
        case rel => exact ⟨k + 1, by omega, by go_num, R3, J3⟩
        case measure => simp [intOf]; omega
      · have HX := Lib.hid hx3
        clear hx3 hR hy hc
        gi_wp2_with fail
        refine bodyPost_ret (results_none rfl _ _ _) rfl ?_
        exact ⟨⟨_, rfl⟩, _, .inr ⟨_, HX.out⟩⟩
    · obtain rfl : k = L.length := by omega
      have J2 := Lib.hid (show J (fun k => (Value.slice a L.length c).ownBlock = some k) L wr from by have := JJ.out; rwa [List.take_length] at this)
      gi_wp2_with fail
      go_end0
      exact ⟨⟨_, rfl⟩, _, .inl ⟨L, HN.out, J2.out⟩⟩
end Go.Proofs.Ythnjplbcaheooaa

/- What spec's tags answers; spec.Route. -/
import Derived.Test.YtpmhmegjckhbmaaSpec3
import Derived.Test.YtpmhmegjckhbmaaOwn
namespace Go.Proofs.Ytpmhmegjckhbmaa
set_option linter.unusedVariables false
set_option linter.unusedSimpArgs false
set_option linter.unnecessarySimpa false
open Go.RowKit

def dupF (seen : List ByteArray) : List ByteArray → Bool
  | [] => false
  | t :: l => (!strE t && Lib.containsS seen t) || dupF (seen ++ [t]) l
def dupT (ts : List Tgt) : Bool := dupF [] (ts.map Tgt.tg)
theorem dupF_step (L : List ByteArray) (k : Nat) (h : k < L.length) (d : ByteArray) : dupF (L.take k) (L.drop k) = ((!strE (L.getD k d) && Lib.containsS (L.take k) (L.getD k d)) || dupF (L.take (k + 1)) (L.drop (k + 1))) := by
  rw [List.drop_eq_getElem_cons h, List.take_succ_eq_append_getElem h]
  simp [dupF, List.getD, h]
theorem contains_own (w : World) (base : Nat) (v : Value) (xs : List ByteArray) (x : ByteArray) (hl : xs.length ≤ 9223372036854775807) (h : w.ownsRow base 9 1 v xs.length (xs.map Value.string)) :
    Calls Try.prog 45 #[v, .string x] w fun e w' => e = .returned (.bool (Lib.containsS xs x)) ∧ w = w' := by
  rcases h with ⟨hn, ⟨rfl, h0⟩ | ⟨g, cap, cur, rfl, hb, hg, h1, h2, h3, h4⟩⟩
  · have : xs = [] := List.eq_nil_of_length_eq_zero h0
    subst this
    exact (Try.slices_Contains_string_empty none 0 x w).mono fun e w' ⟨he, hw⟩ => ⟨by rw [he]; rfl, hw.symm⟩
  · refine (Try.slices_Contains_string g 0 xs.length cap xs x w (Nat.le_refl _) hl ?_).mono fun e w' ⟨he, hw⟩ => ⟨?_, hw.symm⟩
    · intro j hj
      have e1 : (cur.toList.take (xs.length * 1))[j]? = some (.string (xs.getD j ByteArray.empty)) := by rw [h4]; simp [List.getD, hj]
      rw [List.getElem?_take_of_lt (by omega)] at e1
      have e2 : cur[j]? = some (.string (xs.getD j ByteArray.empty)) := by simpa using e1
      simp [World.cell?, hg, e2]
    · rw [he, List.take_length]

theorem infoS : (Try.prog.info? 9).map (fun i => (i.zero, i.size, i.bytes)) = some (some (.string ⟨#[]⟩), 1, 16) := by kernel_rfl
set_option maxHeartbeats 1000000 in
theorem tags_any (nm cf : ByteArray) (a : Option Addr) (ts : List Tgt) (c : Nat) (rl : Int) (w : World) (hl : ts.length ≤ 100) (ht : TgtSl w a ts) :
    Calls Try.prog 33 #[rtV nm cf (.slice a ts.length c) rl] w fun x w' => x = .returned (.int .i64 (unl (!dupT ts) 5)) ∧ Below w.heap.size w w' := by
  have HT := Lib.hid ht
  clear ht
  obtain ⟨i0, hi, hz0, hz1, hz2⟩ := info_parts infoS
  obtain ⟨w₀, rfl⟩ : ∃ w₀, w₀ = w := ⟨_, rfl⟩
  have HI := Lib.hid hi; have HZ0 := Lib.hid hz0; have HZ1 := Lib.hid hz1; have HZ2 := Lib.hid hz2
  clear hi hz0 hz1 hz2
  unfold rtV
  go_enter Try.func33, Try.ntmps33
  go_wp2
  go_loopw [3, 9] (fun v i wr => ∃ k : Nat, k ≤ ts.length ∧ i = .int .i64 k ∧ Hid (wr.ownsRow (w₀.heap.size + 1) 9 1 v ((ts.map Tgt.tg).take k).length (((ts.map Tgt.tg).take k).map Value.string)) ∧ Hid (Grow.G w₀ wr) ∧ Hid (dupT ts = dupF ((ts.map Tgt.tg).take k) ((ts.map Tgt.tg).drop k))) (fun _ i _ => ts.length - (intOf i).toNat)
  case atStart => exact ⟨0, by omega, rfl, World.ownsRow_nil _ _ _ _, (Grow.G.alloc (Grow.G.refl _) _), rfl⟩
  case round =>
    obtain ⟨k, hk, rfl, OW, G, DU⟩ := hrel
    by_cases hlt : k < ts.length
    · obtain ⟨b, off, rfl, hat⟩ := (HT.out.later G.out).at hlt
      have DS := Lib.hid (dupF_step (ts.map Tgt.tg) k (by simpa using hlt) ⟨#[]⟩)
      have GM := Lib.hid (getD_map Tgt.tg ts k tg0 ⟨#[]⟩ hlt)
      generalize ts.getD k tg0 = t at *
      obtain ⟨rv, tg, pc⟩ := t
      have ⟨c0, c1, c2⟩ := hat
      simp only at c0 c1 c2
      clear hat
      have hlen : ((ts.map Tgt.tg).take k).length = k := by simp; omega
      have CT := Lib.hid (fun (w : World) (x : ByteArray) h => contains_own w (w₀.heap.size + 1) u3 ((ts.map Tgt.tg).take k) x (by omega) h)
      have HL := Lib.hid hlen
      clear hlen
      go_wp2_with (first | (go_at_call 45; (with_reducible refine (CT.out _ _ (OW.out.alloc _)).mono ?_); rintro e w' ⟨rfl, rfl⟩) | (at_builtin; refine wpList_append_own _ rfl _ _ 54 rfl (w₀.heap.size + 1) 9 i0 (.string ⟨#[]⟩) 1 16 Try.underlying54 HI.out HZ0.out HZ1.out HZ2.out rfl (by decide) _ _ _ rfl ((OW.out.alloc _).alloc _) ⟨wr.heap.size + 1, 0, none⟩ 1 1 [.string tg] rfl rfl (news_new _ [_] _ _ (by simp)) (one1 rfl) (by have := HL.out; unfold maxLen; omega) (by have := HL.out; omega) (by simp; have := G.out.size; omega) ?_; intro v' w1 hown hgr hnil))
      all_goals first
        | (have G1 := Lib.hid (own_grow (Grow.G.alloc (Grow.G.alloc G.out _) _) ((OW.out.alloc _).alloc _) (by omega) hgr)
           have DN : Hid (dupT ts = dupF ((ts.map Tgt.tg).take (k + 1)) ((ts.map Tgt.tg).drop (k + 1))) := Lib.hid (by rw [DU.out, DS.out, GM.out]; simp_all [strE])
           clear hgr hnil
           go_wp2_with fail
           go_roundw
           case rel => exact ⟨k + 1, by omega, by go_num, own_snoc (d := ⟨#[]⟩) (by simpa using hlt) (by rw [GM.out]; exact hown), G1.out, DN.out⟩
           case measure => simp [intOf]; omega)
        | (have FE : Hid (dupT ts = true) := Lib.hid (by rw [DU.out, DS.out, GM.out]; simp_all [strE])
           go_ret
           exact ⟨ret_i64 (by rw [FE.out]; rfl), Grow.G.alloc G.out _⟩)
    · have FE : Hid (dupT ts = false) := Lib.hid (by rw [DU.out, List.drop_eq_nil_of_le (by simp; omega)]; rfl)
      go_wp2
      go_ret
      exact ⟨ret_i64 (by rw [FE.out]; rfl), G.out⟩
end Go.Proofs.Ytpmhmegjckhbmaa

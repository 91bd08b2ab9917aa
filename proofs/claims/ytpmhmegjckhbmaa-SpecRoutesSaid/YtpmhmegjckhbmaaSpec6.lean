/- What damperref2.Route answers. -/
import Derived.Test.YtpmhmegjckhbmaaSpec5
namespace Go.Proofs.Ytpmhmegjckhbmaa
set_option linter.unusedVariables false
set_option linter.unusedSimpArgs false
set_option linter.unnecessarySimpa false
open Go.RowKit

theorem rrev_b (s : ByteArray) (w : World) (hs : s.size ≤ 281474976710655) :
    Calls Try.prog 35 #[.string s] w fun e w' => e = .returned (.bool (revB s)) ∧ w = w' := by
  go_enter Try.func35, Try.ntmps35
  go_wp2_with fail
  refine (rsplit_any s w hs).mono ?_
  rintro e w1 ⟨ha, rfl⟩
  obtain ⟨c, n, rfl⟩ := ha.isB
  go_wp2_with fail
  go_ret
  exact ⟨rfl, rfl⟩
theorem routeE_each {nm cf : ByteArray} {ts : List Tgt} {rl : Int} (h1 : nameB 16 nm = true) (h2 : nameB 16 cf = true) (h3 : inB rl 0 60 = true) (h4 : inB ts.length 1 6 = true) : routeE nm cf ts rl = if eachE ts = 0 then (if dupT ts then 5 else if sumT ts == 100 then 0 else 4) else eachE ts := by
  unfold routeE routeL
  simp only [h1, h2, h3, h4, Bool.and_self]
  cases dupT ts <;> cases (sumT ts == 100) <;> simp [fst0, unl]
theorem eachE_at {ts : List Tgt} {k : Nat} (hk : k < ts.length) (h0 : ∀ j, j < k → (ts.getD j tg0).err = 0) (h : (ts.getD k tg0).err ≠ 0) : eachE ts = (ts.getD k tg0).err := by
  unfold eachE
  have e : ∀ j, j < ts.length → (ts.map Tgt.err).getD j 0 = (ts.getD j tg0).err := fun j hj => getD_map Tgt.err ts j tg0 0 hj
  rw [fst0_at _ k (by simpa using hk) (fun j hj => by rw [e j (by omega)]; exact h0 j hj) (by rw [e k hk]; exact h), e k hk]
theorem eachE_none {ts : List Tgt} (h0 : ∀ j, j < ts.length → (ts.getD j tg0).err = 0) : eachE ts = 0 :=
  fst0_none _ fun j hj => by rw [List.length_map] at hj; rw [getD_map Tgt.err ts j tg0 0 hj]; exact h0 j hj

theorem err1a {rv tg : ByteArray} {pc : Int} (h : ¬ rv.toList = []) (h2 : revB rv = false) : Tgt.err ⟨rv, tg, pc⟩ = 1 := by
  unfold Tgt.err Tgt.nmd strE; cases e : rv.toList <;> simp_all
theorem err1b {rv tg : ByteArray} {pc : Int} (h : ¬ tg.toList = []) (h2 : nameB 8 tg = false) : Tgt.err ⟨rv, tg, pc⟩ = 1 := by
  unfold Tgt.err Tgt.nmd strE; cases e : tg.toList <;> simp_all
theorem err2 {rv tg : ByteArray} {pc : Int} (h : rv.toList = [] ∨ revB rv = true) (h2 : tg.toList = [] ∨ nameB 8 tg = true) (h3 : pc < 0 ∨ 100 < pc) : Tgt.err ⟨rv, tg, pc⟩ = 2 := by
  unfold Tgt.err Tgt.nmd strE
  have : inB pc 0 100 = false := decide_eq_false (by omega)
  rcases h with h | h <;> rcases h2 with h2 | h2 <;> simp [h, h2, this]
theorem err0 {rv tg : ByteArray} {pc : Int} (h : rv.toList = [] ∨ revB rv = true) (h2 : tg.toList = [] ∨ nameB 8 tg = true) (h3 : 0 ≤ pc ∧ pc ≤ 100) : Tgt.err ⟨rv, tg, pc⟩ = 0 := by
  unfold Tgt.err Tgt.nmd strE
  have : inB pc 0 100 = true := decide_eq_true (by omega)
  rcases h with h | h <;> rcases h2 with h2 | h2 <;> simp [h, h2, this]

set_option maxRecDepth 100000 in
set_option maxHeartbeats 1000000 in
theorem rroute_no (nm cf : ByteArray) (a : Option Addr) (ts : List Tgt) (c : Nat) (rl : Int) (w : World) (h1 : nm.size ≤ maxLen) (h2 : cf.size ≤ maxLen) (hl : ts.length ≤ maxLen)
    (h : (nameB 16 nm && nameB 16 cf && inB rl 0 60 && inB ts.length 1 6) = false) :
    Calls Try.prog 20 #[rtV nm cf (.slice a ts.length c) rl] w fun x w' => x = .returned (.int .i64 (routeE nm cf ts rl)) ∧ Below w.heap.size w w' := by
  have RL : Hid (routeE nm cf ts rl = if (nameB 16 nm && nameB 16 cf) = false then 1 else if inB rl 0 60 = false then 2 else 3) := Lib.hid (by
    unfold routeE routeL
    cases e1 : nameB 16 nm <;> cases e2 : nameB 16 cf <;> cases h3 : inB rl 0 60 <;> cases h4 : inB ts.length 1 6 <;> simp_all [fst0, unl])
  have HB := Lib.hid h
  clear h
  unfold rtV
  go_enter Try.func20, Try.ntmps20
  go_wp2_with fail
  refine (rname_any _ _ h1).mono ?_
  rintro e w1 ⟨rfl, rfl⟩
  go_wp2_with (go_at_call 27; (with_reducible refine (rname_any _ _ h2).mono ?_); rintro e w' ⟨rfl, rfl⟩)
  all_goals first
    | (go_ret; refine ⟨ret_i64 ?_, by (repeat (first | with_reducible exact Grow.G.refl _ | with_reducible exact Below.refl _ _ | with_reducible refine Grow.G.alloc ?_ _ | with_reducible refine Grow.G.trans ?_ hb1 | ((with_reducible refine Below.setCell ?_ ?_ _); rotate_left; (focus (first | omega | (simp; done) | (simp; omega)))) | with_reducible assumption | with_reducible refine Grow.G.trans ?_ (by with_reducible assumption)))⟩; rw [RL.out]; simp_all [inB]; done)
    | (go_ret; refine ⟨ret_i64 ?_, by (repeat (first | with_reducible exact Grow.G.refl _ | with_reducible exact Below.refl _ _ | with_reducible refine Grow.G.alloc ?_ _ | with_reducible refine Grow.G.trans ?_ hb1 | ((with_reducible refine Below.setCell ?_ ?_ _); rotate_left; (focus (first | omega | (simp; done) | (simp; omega)))) | with_reducible assumption | with_reducible refine Grow.G.trans ?_ (by with_reducible assumption)))⟩; rw [RL.out]; simp_all [inB]; omega)
    | (exfalso; have := HB.out; simp_all [inB]; done)
    | (exfalso; have := HB.out; simp_all [inB]; omega)

set_option maxRecDepth 100000 in
set_option maxHeartbeats 2000000 in
theorem rroute_yes (nm cf : ByteArray) (a : Option Addr) (ts : List Tgt) (c : Nat) (rl : Int) (w : World) (h1 : nm.size ≤ maxLen) (h2 : cf.size ≤ maxLen) (ht : TgtSl w a ts) (hk : ∀ i, i < ts.length → (ts.getD i tg0).ok)
    (hn : nameB 16 nm = true) (hc : nameB 16 cf = true) (hr : inB rl 0 60 = true) (hi : inB ts.length 1 6 = true) :
    Calls Try.prog 20 #[rtV nm cf (.slice a ts.length c) rl] w fun x w' => x = .returned (.int .i64 (routeE nm cf ts rl)) ∧ Below w.heap.size w w' := by
  have RL := Lib.hid (routeE_each hn hc hr hi)
  have N1 := Lib.hid (fun w => (rname_any nm w h1).mono fun e w' ⟨he, hw⟩ => (⟨by rw [he, hn], hw⟩ : e = Ending.returned (.bool true) ∧ w = w'))
  have N2 := Lib.hid (fun w => (rname_any cf w h2).mono fun e w' ⟨he, hw⟩ => (⟨by rw [he, hc], hw⟩ : e = Ending.returned (.bool true) ∧ w = w'))
  have hr' := inB_iff.1 hr
  have hi' := inB_iff.1 hi
  have hl1 : 1 ≤ ts.length := by omega
  have hl6 : ts.length ≤ 6 := by omega
  have HT := Lib.hid ht
  have HK := Lib.hid hk
  have hd1 : decide (ts.length < 1) = false := decide_eq_false (by omega)
  have hd2 : decide (6 < ts.length) = false := decide_eq_false (by omega)
  clear ht hk hn hc hr hi hi'
  unfold rtV
  go_enter Try.func20, Try.ntmps20
  go_wp2_with fail
  refine (N1.out _).mono ?_
  rintro e wx ⟨rfl, rfl⟩
  go_wp2_with (go_at_call 27; (with_reducible refine (N2.out _).mono ?_); rintro e w' ⟨rfl, rfl⟩)
  go_loopw [3] (fun i wr => ∃ k : Nat, k ≤ ts.length ∧ i = .int .i64 k ∧ Hid (Grow.G w wr) ∧ wr.cell? ⟨w.heap.size, 2, none⟩ = some (.slice a ts.length c) ∧ Hid (∀ j, j < k → (ts.getD j tg0).err = 0)) (fun i _ => ts.length - (intOf i).toNat)
  case atStart => exact ⟨0, by omega, rfl, (Grow.G.alloc (Grow.G.refl _) _), by go_simp, fun j h => by omega⟩
  case round =>
    obtain ⟨k, hk, rfl, G, hcs, H0⟩ := hrel
    by_cases hlt : k < ts.length
    · obtain ⟨b, off, rfl, hat⟩ := (HT.out.later G.out).at hlt
      have OK := HK.out k hlt
      have EA := Lib.hid (fun h => eachE_at hlt H0.out h)
      have HX := Lib.hid (show ∀ j, j < k + 1 → j ≠ k → (ts.getD j tg0).err = 0 from fun j hj hne => H0.out j (by omega))
      generalize hT : ts.getD k tg0 = t at *
      have HT' := Lib.hid hT
      clear hT
      have ⟨c0, c1, c2⟩ := hat
      clear hat
      have RV := Lib.hid (fun w => rrev_b t.rv w (by have := OK.1; omega))
      have TG := Lib.hid (fun w => rtag_any t.tg w (by have := OK.2.1; unfold maxLen; omega))
      obtain ⟨rv, tg, pc⟩ := t
      simp only at c0 c1 c2 RV TG
      clear OK
      go_wp2_with (first | (go_at_call 35; (with_reducible refine (RV.out _).mono ?_); rintro e w' ⟨rfl, rfl⟩) | (go_at_call 36; (with_reducible refine (TG.out _).mono ?_); rintro e w' ⟨rfl, rfl⟩))
      all_goals first
        | (have EE : Hid (Tgt.err ⟨rv, tg, pc⟩ = 1) := by first | (refine Lib.hid (err1a ?_ ?_) <;> (first | assumption | (simp_all; done))) | (refine Lib.hid (err1b ?_ ?_) <;> (first | assumption | (simp_all; done)))
           have RE : Hid (routeE nm cf ts rl = 1) := Lib.hid (by rw [RL.out, EA.out (by rw [EE.out]; decide), EE.out]; rfl)
           clear c0 c1 c2
           go_ret
           exact ⟨ret_i64 RE.out.symm, Grow.G.alloc G.out _⟩)
        | (have EE : Hid (Tgt.err ⟨rv, tg, pc⟩ = 2) := Lib.hid (err2 (by simp_all; done) (by simp_all; done) (by omega))
           have RE : Hid (routeE nm cf ts rl = 2) := Lib.hid (by rw [RL.out, EA.out (by rw [EE.out]; decide), EE.out]; rfl)
           clear c0 c1 c2
           go_ret
           exact ⟨ret_i64 RE.out.symm, Grow.G.alloc G.out _⟩)
        | (have EE : Hid (Tgt.err ⟨rv, tg, pc⟩ = 0) := Lib.hid (err0 (by simp_all; done) (by simp_all; done) (by omega))
           clear c0 c1 c2
           go_roundw
           case rel => exact ⟨k + 1, by omega, by go_num, Grow.G.alloc G.out _, cell_old hcs, fun j hj => by
             by_cases e : j = k
             · rw [e, HT'.out]; exact EE.out
             · exact HX.out j hj e⟩
           case measure => simp [intOf]; omega)
    · obtain rfl : k = ts.length := by omega
      have E0 := Lib.hid (eachE_none H0.out)
      have RL2 := Lib.hid (RL.out.trans (if_pos E0.out))
      have PC := Lib.hid (each_pc E0.out)
      have HTr := Lib.hid (HT.out.later G.out)
      clear HT HK H0 E0 RL N1 N2
      go_wp2_with fail
      obtain ⟨wo, rfl⟩ : ∃ wo : World, wo = wr := ⟨_, rfl⟩
      go_loopw [5, 6] (fun s i wr => ∃ k : Nat, k ≤ ts.length ∧ i = .int .i64 k ∧ s = .int .i64 (sumT (ts.take k)) ∧ Hid (Grow.G wo wr) ∧ wr.cell? ⟨w.heap.size, 2, none⟩ = some (.slice a ts.length c) ∧ Hid (dupT ts = dupF ((ts.map Tgt.tg).take k) ((ts.map Tgt.tg).drop k))) (fun _ i _ => ts.length - (intOf i).toNat)
      case atStart => exact ⟨0, by omega, rfl, rfl, Grow.G.refl _, hcs, rfl⟩
      case round =>
        obtain ⟨k, hk, rfl, rfl, G2, hcs2, DU⟩ := hrel
        by_cases hlt2 : k < ts.length
        · have bd := sumT_bd ts PC.out k hk
          have SN := Lib.hid (sumT_snoc ts k hlt2)
          have PK := PC.out k hlt2
          obtain ⟨b, off, rfl, hat⟩ := (HTr.out.later G2.out).at hlt2
          have DS := Lib.hid (dupF_step (ts.map Tgt.tg) k (by simpa using hlt2) ⟨#[]⟩)
          have GM := Lib.hid (getD_map Tgt.tg ts k tg0 ⟨#[]⟩ hlt2)
          generalize hT : ts.getD k tg0 = t at *
          have HT' := Lib.hid hT
          clear hT
          generalize hS : sumT (ts.take k) = sm at *
          have HS := Lib.hid hS
          clear hS
          have c1 := hat.c1
          have c2 := hat.c2
          clear hat
          obtain ⟨rv, tg, pc⟩ := t
          simp only at c1 c2 PK
          go_wp2_with fail
          obtain ⟨wm, rfl⟩ : ∃ wm : World, wm = wr := ⟨_, rfl⟩
          go_loopw [7] (fun i wr => ∃ q : Nat, q ≤ k ∧ i = .int .i64 q ∧ Hid (Grow.G wm wr) ∧ Hid (strE tg = false → ∀ j, j < q → (ts.getD j tg0).tg ≠ tg)) (fun i _ => k - (intOf i).toNat)
          case atStart => exact ⟨0, by omega, rfl, Grow.G.refl _, fun _ j h => by omega⟩
          case round =>
            obtain ⟨q, hq, rfl, G3, HN⟩ := hrel
            have hcs3 : ∀ w', Grow.G wr w' → w'.cell? ⟨w.heap.size, 2, none⟩ = some (.slice (some ⟨b, off, none⟩) ts.length c) := fun w' g => cell_later (Grow.G.trans G3.out g) hcs2
            have c13 : ∀ w', Grow.G wr w' → w'.cell? ⟨b, off + k * 3 + 1, none⟩ = some (.string tg) := fun w' g => cell_later (Grow.G.trans G3.out g) c1
            have c23 : ∀ w', Grow.G wr w' → w'.cell? ⟨b, off + k * 3 + 1 + 1, none⟩ = some (.int .i64 pc) := fun w' g => cell_later (Grow.G.trans G3.out g) c2
            by_cases hlt3 : q < k
            · obtain ⟨b', off', hbo, hat⟩ := (HTr.out.later (Grow.G.trans G2.out G3.out)).at (show q < ts.length by omega)
              obtain ⟨rfl, rfl⟩ : b = b' ∧ off = off' := by cases hbo; exact ⟨rfl, rfl⟩
              generalize hT : ts.getD q tg0 = t at *
              have HTq := Lib.hid hT
              clear hT hbo
              have d1 : ∀ w', Grow.G wr w' → w'.cell? ⟨b, off + q * 3 + 1, none⟩ = some (.string t.tg) := fun w' g => cell_later g hat.c1
              clear hat
              have k1 : (0 : Int) ≤ (k : Int) := by omega
              have k2 : (k : Int) < (ts.length : Int) := by omega
              have q1 : (0 : Int) ≤ (q : Int) := by omega
              have q2 : (q : Int) < (ts.length : Int) := by omega
              clear c1 c2
              by_cases he : strE tg = true
              · have hne : tg.toList = [] := by unfold strE at he; simpa using he
                go_wp2_with fail
                refine Grow.region_seqT (by kernel_rfl) (by kernel_rfl) (by intro c a d v w h; cases d <;> exact h) (by kernel_rfl) ?_
                repeat (first
                  | (refine Grow.seqT.value ?_ (by rfl) ?_ ?_; rotate_left; (intro w' hg; go_simp <;> with_reducible rfl); simp only [Act.put, List.setIfInBounds_toArray, List.set_cons_zero, List.set_cons_succ])
                  | (refine Grow.seqT.value ?_ (by rfl) ?_ ?_; rotate_left; (intro w' hg; have ⟨hgc, hgf, hgz⟩ := bcell hg; go_simp <;> with_reducible rfl); simp only [Act.put, List.setIfInBounds_toArray, List.set_cons_zero, List.set_cons_succ])
                  | (refine Grow.seqT.value ?_ (by rfl) ?_ ?_; rotate_left; (intro w' hg; go_simp; rw [if_neg (by omega)]); simp only [Act.put, List.setIfInBounds_toArray, List.set_cons_zero, List.set_cons_succ])
                  | (refine Grow.seqT.idle (by rfl) ?_; simp only [Act.put, List.setIfInBounds_toArray, List.set_cons_zero, List.set_cons_succ])
                  )
                refine Grow.seqT.done (fun w4 g4 => ?_)
                go_wp2_with fail
                go_roundw
                case rel => exact ⟨q + 1, by omega, by go_num, Grow.G.trans G3.out g4, fun h => by rw [he] at h; cases h⟩
                case measure => simp [intOf]; omega
              · have hne : ¬ tg.toList = [] := by unfold strE at he; simpa using he
                have hne2 : tg.toList.isEmpty = false := by unfold strE at he; simpa using he
                go_wp2_with fail
                refine Grow.region_seqT (by kernel_rfl) (by kernel_rfl) (by intro c a d v w h; cases d <;> exact h) (by kernel_rfl) ?_
                repeat (first
                  | (refine Grow.seqT.value ?_ (by rfl) ?_ ?_; rotate_left; (intro w' hg; go_simp <;> with_reducible rfl); simp only [Act.put, List.setIfInBounds_toArray, List.set_cons_zero, List.set_cons_succ])
                  | (refine Grow.seqT.value ?_ (by rfl) ?_ ?_; rotate_left; (intro w' hg; have ⟨hgc, hgf, hgz⟩ := bcell hg; go_simp <;> with_reducible rfl); simp only [Act.put, List.setIfInBounds_toArray, List.set_cons_zero, List.set_cons_succ])
                  | (refine Grow.seqT.value ?_ (by rfl) ?_ ?_; rotate_left; (intro w' hg; go_simp; rw [if_neg (by omega)]); simp only [Act.put, List.setIfInBounds_toArray, List.set_cons_zero, List.set_cons_succ])
                  | (refine Grow.seqT.idle (by rfl) ?_; simp only [Act.put, List.setIfInBounds_toArray, List.set_cons_zero, List.set_cons_succ])
                  )
                refine Grow.seqT.done (fun w4 g4 => ?_)
                go_wp2_with fail
                · rename_i heq
                  have RE : Hid (routeE nm cf ts rl = 5) := Lib.hid (by
                    have e1 : strE tg = false := by simpa using he
                    have e2 : dupT ts = true := by
                      rw [DU.out, DS.out, GM.out]
                      show (!strE tg && Lib.containsS _ tg || _) = true
                      rw [e1, Bool.not_false, Bool.true_and, Bool.or_eq_true, Lib.containsS_iff]
                      refine .inl ?_
                      rw [eqS_iff.1 heq, ← HTq.out]
                      refine List.mem_of_getElem? (i := q) ?_
                      rw [List.getElem?_take_of_lt hlt3]
                      simp [List.getD, show q < ts.length by omega]
                    rw [RL2.out, if_pos e2])
                  clear c13 c23 hcs3 d1
                  go_ret
                  exact ⟨ret_i64 RE.out.symm, Grow.G.trans G.out (Grow.G.trans G2.out (Grow.G.trans G3.out g4))⟩
                · rename_i hnq
                  go_roundw
                  case rel => exact ⟨q + 1, by omega, by go_num, Grow.G.trans G3.out g4, fun h j hj => by
                    by_cases e : j = q
                    · rw [e, HTq.out]; exact fun h => neS_iff.1 hnq h.symm
                    · exact HN.out h j (by omega)⟩
                  case measure => simp [intOf]; omega
            · obtain rfl : q = k := by omega
              have NC : Hid ((!strE tg && Lib.containsS ((ts.map Tgt.tg).take q) tg) = false) := Lib.hid (by
                cases he : strE tg with
                | true => rfl
                | false =>
                  rw [Bool.not_false, Bool.true_and, Bool.eq_false_iff]
                  intro hc
                  rw [Lib.containsS_iff] at hc
                  obtain ⟨j, hj, e⟩ := List.getElem_of_mem hc
                  have hj' : j < q := by simp at hj; omega
                  refine HN.out he j hj' ?_
                  rw [← getD_map Tgt.tg ts j tg0 ⟨#[]⟩ (by omega), ← e]
                  simp [List.getD, show j < ts.length by omega])
              have DN : Hid (dupT ts = dupF ((ts.map Tgt.tg).take (q + 1)) ((ts.map Tgt.tg).drop (q + 1))) := Lib.hid (by
                rw [DU.out, DS.out, GM.out]; show (!strE tg && _ || _) = _; rw [NC.out, Bool.false_or])
              clear c1 c2 hcs3 c13 c23
              go_wp2_with fail
              go_roundw
              case rel => exact ⟨q + 1, by omega, by go_num, by rw [SN.out], Grow.G.trans G2.out G3.out, cell_later G3.out hcs2, DN.out⟩
              case measure => simp [intOf]; omega
        · have e : Hid (ts.take k = ts) := Lib.hid (List.take_of_length_le (by omega))
          rw [e.out]
          have FE : Hid (dupT ts = false) := Lib.hid (by rw [DU.out, List.drop_eq_nil_of_le (by simp; omega)]; rfl)
          by_cases h100 : sumT ts = 100
          · have RE : Hid (routeE nm cf ts rl = 0) := Lib.hid (by rw [RL2.out, FE.out]; simp [h100])
            have h100' : (sumT ts != 100) = false := by simp [h100]
            generalize sumT ts = sm at *
            clear h100
            go_wp2_with fail
            go_ret
            exact ⟨ret_i64 RE.out.symm, Grow.G.trans G.out G2.out⟩
          · have RE : Hid (routeE nm cf ts rl = 4) := Lib.hid (by rw [RL2.out, FE.out]; simp [h100])
            have h100' : (sumT ts != 100) = true := by simp [h100]
            generalize sumT ts = sm at *
            clear h100
            go_wp2_with fail
            go_ret
            exact ⟨ret_i64 RE.out.symm, Grow.G.trans G.out G2.out⟩

theorem rroute_any (nm cf : ByteArray) (a : Option Addr) (ts : List Tgt) (c : Nat) (rl : Int) (w : World) (h1 : nm.size ≤ maxLen) (h2 : cf.size ≤ maxLen) (hl : ts.length ≤ maxLen) (ht : TgtSl w a ts) (hk : ∀ i, i < ts.length → (ts.getD i tg0).ok) :
    Calls Try.prog 20 #[rtV nm cf (.slice a ts.length c) rl] w fun x w' => x = .returned (.int .i64 (routeE nm cf ts rl)) ∧ Below w.heap.size w w' := by
  cases h : (nameB 16 nm && nameB 16 cf && inB rl 0 60 && inB ts.length 1 6) with
  | false => exact rroute_no nm cf a ts c rl w h1 h2 hl h
  | true =>
    simp only [Bool.and_eq_true] at h
    exact rroute_yes nm cf a ts c rl w h1 h2 ht hk h.1.1.1 h.1.1.2 h.1.2 h.2
end Go.Proofs.Ytpmhmegjckhbmaa

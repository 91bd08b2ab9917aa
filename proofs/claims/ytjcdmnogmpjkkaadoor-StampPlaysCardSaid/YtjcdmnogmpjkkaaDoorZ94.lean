/- My own texts RbL, RbE, laid in one file. -/
import Derived.Test.YtjcdmnogmpjkkaaDoorZ93

/- The second form's book: Latest. -/
namespace Go.Proofs.YtjcdmnogmpjkkaaDoor
set_option maxRecDepth 100000
set_option linter.unusedVariables false
set_option linter.unusedSimpArgs false
set_option linter.unnecessarySimpa false
open Go.RowKit Go.Args

/-- Which of the first k is the best so far, by its place. -/
def RelK (f : Rv → Bool) (l : List Rv) (k : Nat) (j : Int) : Prop := (j = -1 ∧ topK f (l.take k) = none) ∨ ∃ (i : Nat) (r : Rv), j = i ∧ i < k ∧ l[i]? = some r ∧ topK f (l.take k) = some r
theorem RelK.zero (f : Rv → Bool) (l : List Rv) : RelK f l 0 (-1) := .inl ⟨rfl, rfl⟩
theorem RelK.skip {f : Rv → Bool} {l : List Rv} {k : Nat} {j : Int} {m : Rv} (h : RelK f l k j) (hm : l[k]? = some m) (hf : f m = false) : RelK f l (k + 1) j := by
  have e : topK f (l.take (k + 1)) = topK f (l.take k) := by rw [topK_step hm]; unfold bestK; rw [hf]; rfl
  rcases h with ⟨h1, h2⟩ | ⟨i, r, h1, h2, h3, h4⟩
  · exact .inl ⟨h1, e.trans h2⟩
  · exact .inr ⟨i, r, h1, by omega, h3, e.trans h4⟩
theorem RelK.take {f : Rv → Bool} {l : List Rv} {k : Nat} {j : Int} {m : Rv} (h : RelK f l k j) (hm : l[k]? = some m) (hf : f m = true) (hb : ∀ r, topK f (l.take k) = some r → r.gn < m.gn) : RelK f l (k + 1) k := by
  refine .inr ⟨k, m, rfl, by omega, hm, ?_⟩
  rw [topK_step hm]
  unfold bestK
  rw [if_pos hf]
  cases e : topK f (l.take k) with
  | none => rfl
  | some r => dsimp only; rw [if_pos (hb r e)]
theorem RelK.stay {f : Rv → Bool} {l : List Rv} {k : Nat} {j : Int} {m r : Rv} (h : RelK f l k j) (hm : l[k]? = some m) (hr : topK f (l.take k) = some r) (hb : ¬ r.gn < m.gn) : RelK f l (k + 1) j := by
  have e : topK f (l.take (k + 1)) = topK f (l.take k) := by
    rw [topK_step hm]; unfold bestK
    split
    · rw [hr]; dsimp only; rw [if_neg hb]
    · rfl
  rcases h with ⟨h1, h2⟩ | ⟨i, r, h1, h2, h3, h4⟩
  · rw [hr] at h2; cases h2
  · exact .inr ⟨i, r, h1, by omega, h3, e.trans h4⟩
theorem RelK.full {f : Rv → Bool} {l : List Rv} {j : Int} (h : RelK f l l.length j) : (j = -1 ∧ topK f l = none) ∨ ∃ (i : Nat) (r : Rv), j = i ∧ i < l.length ∧ l[i]? = some r ∧ topK f l = some r := by
  unfold RelK at h
  rw [List.take_length] at h
  exact h
set_option maxHeartbeats 16000000 in
theorem rblatest_any (g : Nat) (v u : Value) (l : List Rv) (s : ByteArray) (w : World) (F : Nat → Prop) (h : RbS g v u l w F) (hl : l.length ≤ 1000) :
    Calls Tryd.prog 41 #[pz g, .string s] w fun e w' => e = .returned (.tuple #[.string (latM l s), .string (latR l s)]) ∧ Grow.G w w' := by
  have KK := Lib.hid (fun wr (hg : Grow.G w wr) => h.grow hg)
  obtain ⟨⟨a, c, rfl⟩, ⟨b, d, rfl⟩⟩ := h.sl
  clear h
  go_enter Tryd.func41, Tryd.ntmps41
  go_wp2_with fail
  go_loopw [6, 7, 8] (fun p q i wr => ∃ (k : Nat) (jm jr : Int), k ≤ l.length ∧ p = .int .i64 jm ∧ q = .int .i64 jr ∧ i = .int .i64 k ∧ Hid (RelK (mineM s) l k jm) ∧ Hid (RelK (mineR s) l k jr) ∧ Hid (Grow.G w wr)) (fun _ _ i _ => l.length - (_root_.Go.RowKit.intOf i).toNat)
  case atStart => exact ⟨0, -1, -1, by omega, rfl, rfl, rfl, Lib.hid (RelK.zero _ _), Lib.hid (RelK.zero _ _), Lib.hid (Grow.G.refl _)⟩
  case round =>
    obtain ⟨k, jm, jr, hk, rfl, rfl, rfl, RM, RR, HG⟩ := hrel
    have HS := Lib.hid (KK.out _ HG.out)
    have c0 : wr.cell? ⟨g, 0, none⟩ = some (.slice a l.length c) := (HS.out.hb.cell 0).trans rfl
    have hgl := HS.out.hb.lt
    by_cases hlt : k < l.length
    · obtain ⟨m, hm⟩ : ∃ m, l[k]? = some m := ⟨_, List.getElem?_eq_getElem hlt⟩
      obtain ⟨q, rfl, hcc, hql, hc⟩ := (own_revs HS.out.row).resolve_left (fun e => by rw [e.2.2] at hlt; simp at hlt)
      obtain ⟨q2, rfl, hcc2, hql2, hc2⟩ := (own_prs HS.out.is).resolve_left (fun e => by rw [e.2.2] at hlt; simp at hlt)
      have HC := Lib.hid hc
      have cn := hc k m hm 2 (.string m.c.nm) rfl
      have CG := Lib.hid (hc k m hm 1 (.int .i64 m.gn) rfl)
      have CP := Lib.hid (hc2 k m hm)
      have HM := Lib.hid hm
      have d0 : decide ((k : Int) < (l.length : Int)) = true := decide_eq_true (by omega)
      have hk1 : IntKind.i64.wrap ((k : Int) + 1) = (k : Int) + 1 := IntWalk.i64_in _ ⟨by omega, by omega⟩
      have k1 : (0 : Int) ≤ (k : Int) := by omega
      have k2 : (k : Int) < (l.length : Int) := by omega
      clear hc hc2 hm
      by_cases hn : m.c.nm = s
      · have d1 : (m.c.nm.toList == s.toList) = true := eqS_iff.2 hn
        have d1' : (m.c.nm.toList != s.toList) = false := by rw [bne, d1]; rfl
        have FM : Hid (mineM s m = true) := Lib.hid (decide_eq_true hn)
        have FR : Hid (mineR s m = m.pr) := Lib.hid (by unfold mineR; rw [decide_eq_true hn]; rfl)
        obtain ⟨nm, hnm⟩ : ∃ nm, m.c.nm = nm := ⟨_, rfl⟩
        rw [hnm] at cn d1 d1'
        clear hn hnm
        go_wp2_with fail
        clear cn d1 d1'
        obtain ⟨mg, hmg⟩ : ∃ mg, m.gn = mg := ⟨_, rfl⟩
        have CG2 : Hid (wr.cell? ⟨q, k * 8 + 1, none⟩ = some (.int .i64 mg)) := Lib.hid (hmg ▸ CG.out)
        have HMG := Lib.hid hmg
        clear hmg CG
        refine wp_spec (fun a0 A W => ∃ x31 x32 x33 x34 x35 x36 x37 x38 x39 x40 x41 x42 x43 x44 x45 x46 x47 x48 x49 x50 : Value, ∃ (b1 : Bool), A = (((((((((((((((((((((a0.put (some 31) x31).put (some 32) x32).put (some 33) x33).put (some 34) x34).put (some 35) x35).put (some 36) x36).put (some 37) x37).put (some 38) x38).put (some 39) x39).put (some 40) x40).put (some 41) x41).put (some 42) x42).put (some 43) x43).put (some 44) x44).put (some 45) x45).put (some 46) x46).put (some 47) x47).put (some 48) x48).put (some 49) x49).put (some 50) x50).put (some 51) (.bool b1)) ∧ Hid ((b1 = true → RelK (mineM s) l (k + 1) k) ∧ (b1 = false → RelK (mineM s) l (k + 1) jm)) ∧ Hid (Grow.G wr W)) ?_ ?_
        all_goals simp only [Act.put, L0, L1, L2]
        ·
          rcases RM.out with ⟨rfl, hT⟩ | ⟨i, r, rfl, hi, hr, hT⟩
          · have RES : Hid (RelK (mineM s) l (k + 1) k) := Lib.hid (RM.out.take HM.out FM.out (fun r h => by rw [hT] at h; cases h))
            have KC := Lib.hid (fun (w' : World) (h : Chg (fun _ => False) wr w') => (⟨h.cell c0 id, trivial⟩ : w'.cell? ⟨g, 0, none⟩ = some (.slice (some ⟨q, 0, none⟩) l.length c) ∧ True))
            clear hT RM RR
            refine Evo2.start' (ℓ := none) (S := Chg (fun _ => False)) (E := Grow.G) (by kernel_rfl) ⟨Chg.pre _, by decide +kernel, (by intro c a d v w h; cases d <;> exact h), by decide +kernel⟩ (fun ok => ?_)
            refine Evo2.va ok 0 _ _ ?_
            refine Evo2.va ok 1 _ _ ?_
            refine Evo2.va ok 2 _ _ ?_
            first | (refine Evo2.va ok 3 _ _ ?_) | (refine Evo2.vi ok 3 _ ?_)
            first | (refine Evo2.va ok 4 _ _ ?_) | (refine Evo2.vi ok 4 _ ?_)
            first | (refine Evo2.va ok 5 _ _ ?_) | (refine Evo2.vi ok 5 _ ?_)
            first | (refine Evo2.vl ok 6 KC.out (Chg.refl (fun _ => False) _) _ _ ?_) | (refine Evo2.va ok 6 _ _ ?_) | (refine Evo2.vi ok 6 _ ?_)
            first | (refine Evo2.va ok 7 _ _ ?_) | (refine Evo2.vi ok 7 _ ?_)
            first | (refine Evo2.va ok 8 _ _ ?_) | (refine Evo2.vi ok 8 _ ?_)
            first | (refine Evo2.va ok 9 _ _ ?_) | (refine Evo2.vi ok 9 _ ?_)
            first | (refine Evo2.vl ok 10 KC.out (Chg.refl (fun _ => False) _) _ _ ?_) | (refine Evo2.va ok 10 _ _ ?_) | (refine Evo2.vi ok 10 _ ?_)
            first | (refine Evo2.va ok 11 _ _ ?_) | (refine Evo2.vi ok 11 _ ?_)
            first | (refine Evo2.va ok 12 _ _ ?_) | (refine Evo2.vi ok 12 _ ?_)
            first | (refine Evo2.va ok 13 _ _ ?_) | (refine Evo2.vi ok 13 _ ?_)
            first | (refine Evo2.vl ok 14 KC.out (Chg.refl (fun _ => False) _) _ _ ?_) | (refine Evo2.va ok 14 _ _ ?_) | (refine Evo2.vi ok 14 _ ?_)
            first | (refine Evo2.va ok 15 _ _ ?_) | (refine Evo2.vi ok 15 _ ?_)
            first | (refine Evo2.va ok 16 _ _ ?_) | (refine Evo2.vi ok 16 _ ?_)
            first | (refine Evo2.va ok 17 _ _ ?_) | (refine Evo2.vi ok 17 _ ?_)
            first | (refine Evo2.vl ok 18 KC.out (Chg.refl (fun _ => False) _) _ _ ?_) | (refine Evo2.va ok 18 _ _ ?_) | (refine Evo2.vi ok 18 _ ?_)
            first | (refine Evo2.va ok 19 _ _ ?_) | (refine Evo2.vi ok 19 _ ?_)
            refine Evo2.va ok 20 _ _ ?_
            refine Evo2.done (by decide +kernel) (fun wz gz => ?_)
            have AZ := Chg.trans (Chg.refl (fun _ => False) _) (Chg.grow gz)
            dsimp only [PostN] 
            (repeat apply Exists.intro) 
            exact ⟨rfl, Lib.hid ⟨fun _ => RES.out, fun e => (by cases e)⟩, Lib.hid (AZ.toGrow (fun _ _ => id))⟩
          ·
            obtain ⟨rg, hrg⟩ : ∃ rg, r.gn = rg := ⟨_, rfl⟩
            have ci := HC.out i r hr 1 (.int .i64 r.gn) rfl
            rw [hrg] at ci
            have hil := (List.getElem?_eq_some_iff.1 hr).1
            have e0 : decide ((i : Int) < 0) = false := decide_eq_false (by omega)
            have i0 : ¬ ((i : Int) < 0) := by omega
            have i1 : (0 : Int) ≤ (i : Int) := by omega
            have i2 : (i : Int) < (l.length : Int) := by omega
            have KC := Lib.hid (fun (w' : World) (h : Chg (fun _ => False) wr w') => (⟨h.cell c0 id, h.cell CG2.out id, h.cell ci id, trivial⟩ : w'.cell? ⟨g, 0, none⟩ = some (.slice (some ⟨q, 0, none⟩) l.length c) ∧ w'.cell? ⟨q, k * 8 + 1, none⟩ = some (.int .i64 mg) ∧ w'.cell? ⟨q, i * 8 + 1, none⟩ = some (.int .i64 rg) ∧ True))
            by_cases hgt : rg < mg
            · have RES : Hid (RelK (mineM s) l (k + 1) k) := Lib.hid (RM.out.take HM.out FM.out (fun x h => by rw [hT] at h; cases h; rw [hrg, HMG.out]; exact hgt))
              have d3 : decide (rg < mg) = true := decide_eq_true hgt
              clear hT RM RR ci hr hrg
              refine Evo2.start' (ℓ := none) (S := Chg (fun _ => False)) (E := Grow.G) (by kernel_rfl) ⟨Chg.pre _, by decide +kernel, (by intro c a d v w h; cases d <;> exact h), by decide +kernel⟩ (fun ok => ?_)
              refine Evo2.va ok 0 _ _ ?_
              refine Evo2.va ok 1 _ _ ?_
              refine Evo2.va ok 2 _ _ ?_
              first | (refine Evo2.va ok 3 _ _ ?_) | (refine Evo2.vi ok 3 _ ?_)
              first | (refine Evo2.va ok 4 _ _ ?_) | (refine Evo2.vi ok 4 _ ?_)
              first | (refine Evo2.va ok 5 _ _ ?_) | (refine Evo2.vi ok 5 _ ?_)
              first | (refine Evo2.vl ok 6 KC.out (Chg.refl (fun _ => False) _) _ _ ?_) | (refine Evo2.va ok 6 _ _ ?_) | (refine Evo2.vi ok 6 _ ?_)
              first | (refine Evo2.va ok 7 _ _ ?_) | (refine Evo2.vi ok 7 _ ?_)
              first | (refine Evo2.va ok 8 _ _ ?_) | (refine Evo2.vi ok 8 _ ?_)
              first | (refine Evo2.va ok 9 _ _ ?_) | (refine Evo2.vi ok 9 _ ?_)
              first | (refine Evo2.vl ok 10 KC.out (Chg.refl (fun _ => False) _) _ _ ?_) | (refine Evo2.va ok 10 _ _ ?_) | (refine Evo2.vi ok 10 _ ?_)
              first | (refine Evo2.va ok 11 _ _ ?_) | (refine Evo2.vi ok 11 _ ?_)
              first | (refine Evo2.va ok 12 _ _ ?_) | (refine Evo2.vi ok 12 _ ?_)
              first | (refine Evo2.va ok 13 _ _ ?_) | (refine Evo2.vi ok 13 _ ?_)
              first | (refine Evo2.vl ok 14 KC.out (Chg.refl (fun _ => False) _) _ _ ?_) | (refine Evo2.va ok 14 _ _ ?_) | (refine Evo2.vi ok 14 _ ?_)
              first | (refine Evo2.va ok 15 _ _ ?_) | (refine Evo2.vi ok 15 _ ?_)
              first | (refine Evo2.va ok 16 _ _ ?_) | (refine Evo2.vi ok 16 _ ?_)
              first | (refine Evo2.va ok 17 _ _ ?_) | (refine Evo2.vi ok 17 _ ?_)
              first | (refine Evo2.vl ok 18 KC.out (Chg.refl (fun _ => False) _) _ _ ?_) | (refine Evo2.va ok 18 _ _ ?_) | (refine Evo2.vi ok 18 _ ?_)
              first | (refine Evo2.va ok 19 _ _ ?_) | (refine Evo2.vi ok 19 _ ?_)
              refine Evo2.va ok 20 _ _ ?_
              refine Evo2.done (by decide +kernel) (fun wz gz => ?_)
              have AZ := Chg.trans (Chg.refl (fun _ => False) _) (Chg.grow gz)
              dsimp only [PostN] 
              (repeat apply Exists.intro) 
              exact ⟨rfl, Lib.hid ⟨fun _ => RES.out, fun e => (by cases e)⟩, Lib.hid (AZ.toGrow (fun _ _ => id))⟩
            · have RES : Hid (RelK (mineM s) l (k + 1) i) := Lib.hid (RM.out.stay HM.out hT (by rw [hrg, HMG.out]; exact hgt))
              have d3 : decide (rg < mg) = false := decide_eq_false hgt
              clear hT RM RR ci hr hrg
              refine Evo2.start' (ℓ := none) (S := Chg (fun _ => False)) (E := Grow.G) (by kernel_rfl) ⟨Chg.pre _, by decide +kernel, (by intro c a d v w h; cases d <;> exact h), by decide +kernel⟩ (fun ok => ?_)
              refine Evo2.va ok 0 _ _ ?_
              refine Evo2.va ok 1 _ _ ?_
              refine Evo2.va ok 2 _ _ ?_
              first | (refine Evo2.va ok 3 _ _ ?_) | (refine Evo2.vi ok 3 _ ?_)
              first | (refine Evo2.va ok 4 _ _ ?_) | (refine Evo2.vi ok 4 _ ?_)
              first | (refine Evo2.va ok 5 _ _ ?_) | (refine Evo2.vi ok 5 _ ?_)
              first | (refine Evo2.vl ok 6 KC.out (Chg.refl (fun _ => False) _) _ _ ?_) | (refine Evo2.va ok 6 _ _ ?_) | (refine Evo2.vi ok 6 _ ?_)
              first | (refine Evo2.va ok 7 _ _ ?_) | (refine Evo2.vi ok 7 _ ?_)
              first | (refine Evo2.va ok 8 _ _ ?_) | (refine Evo2.vi ok 8 _ ?_)
              first | (refine Evo2.va ok 9 _ _ ?_) | (refine Evo2.vi ok 9 _ ?_)
              first | (refine Evo2.vl ok 10 KC.out (Chg.refl (fun _ => False) _) _ _ ?_) | (refine Evo2.va ok 10 _ _ ?_) | (refine Evo2.vi ok 10 _ ?_)
              first | (refine Evo2.va ok 11 _ _ ?_) | (refine Evo2.vi ok 11 _ ?_)
              first | (refine Evo2.va ok 12 _ _ ?_) | (refine Evo2.vi ok 12 _ ?_)
              first | (refine Evo2.va ok 13 _ _ ?_) | (refine Evo2.vi ok 13 _ ?_)
              first | (refine Evo2.vl ok 14 KC.out (Chg.refl (fun _ => False) _) _ _ ?_) | (refine Evo2.va ok 14 _ _ ?_) | (refine Evo2.vi ok 14 _ ?_)
              first | (refine Evo2.va ok 15 _ _ ?_) | (refine Evo2.vi ok 15 _ ?_)
              first | (refine Evo2.va ok 16 _ _ ?_) | (refine Evo2.vi ok 16 _ ?_)
              first | (refine Evo2.va ok 17 _ _ ?_) | (refine Evo2.vi ok 17 _ ?_)
              first | (refine Evo2.vl ok 18 KC.out (Chg.refl (fun _ => False) _) _ _ ?_) | (refine Evo2.va ok 18 _ _ ?_) | (refine Evo2.vi ok 18 _ ?_)
              first | (refine Evo2.va ok 19 _ _ ?_) | (refine Evo2.vi ok 19 _ ?_)
              refine Evo2.va ok 20 _ _ ?_
              refine Evo2.done (by decide +kernel) (fun wz gz => ?_)
              have AZ := Chg.trans (Chg.refl (fun _ => False) _) (Chg.grow gz)
              dsimp only [PostN] 
              (repeat apply Exists.intro) 
              exact ⟨rfl, Lib.hid ⟨fun e => (by cases e), fun _ => RES.out⟩, Lib.hid (AZ.toGrow (fun _ _ => id))⟩
        ·
          rintro A W2 ⟨x31, x32, x33, x34, x35, x36, x37, x38, x39, x40, x41, x42, x43, x44, x45, x46, x47, x48, x49, x50, b1, rfl, NM, G2⟩
          have JM : Hid (RelK (mineM s) l (k + 1) (if b1 = true then (k : Int) else jm)) := Lib.hid (by cases b1 with | true => exact NM.out.1 rfl | false => exact NM.out.2 rfl)
          have HS2 := Lib.hid (HS.out.grow G2.out)
          have c0 : W2.cell? ⟨g, 0, none⟩ = some (.slice (some ⟨q, 0, none⟩) l.length c) := (HS2.out.hb.cell 0).trans rfl
          have c1 : W2.cell? ⟨g, 1, none⟩ = some (.slice (some ⟨q2, 0, none⟩) l.length d) := (HS2.out.hb.cell 1).trans rfl
          have CG3 : Hid (W2.cell? ⟨q, k * 8 + 1, none⟩ = some (.int .i64 mg)) := Lib.hid (cell_later G2.out CG2.out)
          have CP2 := Lib.hid (cell_later G2.out CP.out)
          have hql2' := Nat.lt_of_lt_of_le hql G2.out.size
          have hgl2 := HS2.out.hb.lt
          clear NM RM CG2 CP
          obtain ⟨jn, hjn⟩ : ∃ jn : Int, (if b1 = true then (k : Int) else jm) = jn := ⟨_, rfl⟩
          rw [hjn] at JM
          have hjn2 : (b1 = true → jn = (k : Int)) ∧ (b1 = false → jn = jm) := by subst hjn; constructor <;> intro e <;> simp [e]
          have HJN := Lib.hid hjn2
          clear hjn hjn2
          cases b1
          all_goals
            first
              | (have ej := HJN.out.1 rfl; subst ej)
              | (have ej := HJN.out.2 rfl; subst ej)
            clear HJN
            go_wp2_with fail
            obtain ⟨rp, hrp⟩ : ∃ rp, m.pr = rp := ⟨_, rfl⟩
            have CP3 : Hid (W2.cell? ⟨q2, k, none⟩ = some (.bool rp)) := Lib.hid (hrp ▸ CP2.out)
            have FR2 : Hid (mineR s m = rp) := Lib.hid (FR.out.trans hrp)
            clear CP2 FR hrp
            refine wp_spec (fun a0 A W => ∃ x53 x54 x55 x56 x57 x58 x59 x60 x61 x62 x63 x64 x65 x66 x67 x68 x69 x70 x71 x72 x73 x74 x75 x76 x77 x78 x79 x80 x81 : Value, ∃ (b2 : Bool), A = ((((((((((((((((((((((((((((((a0.put (some 53) x53).put (some 54) x54).put (some 55) x55).put (some 56) x56).put (some 57) x57).put (some 58) x58).put (some 59) x59).put (some 60) x60).put (some 61) x61).put (some 62) x62).put (some 63) x63).put (some 64) x64).put (some 65) x65).put (some 66) x66).put (some 67) x67).put (some 68) x68).put (some 69) x69).put (some 70) x70).put (some 71) x71).put (some 72) x72).put (some 73) x73).put (some 74) x74).put (some 75) x75).put (some 76) x76).put (some 77) x77).put (some 78) x78).put (some 79) x79).put (some 80) x80).put (some 81) x81).put (some 82) (.bool b2)) ∧ Hid ((b2 = true → RelK (mineR s) l (k + 1) k) ∧ (b2 = false → RelK (mineR s) l (k + 1) jr)) ∧ Hid (Grow.G W2 W)) ?_ ?_
            all_goals simp only [Act.put, L0, L1, L2]
            ·
              cases rp with
              | false =>
                have RES : Hid (RelK (mineR s) l (k + 1) jr) := Lib.hid (RR.out.skip HM.out FR2.out)
                have KC := Lib.hid (fun (w' : World) (h : Chg (fun _ => False) W2 w') => (⟨h.cell c1 id, h.cell CP3.out id, trivial⟩ : w'.cell? ⟨g, 1, none⟩ = some (.slice (some ⟨q2, 0, none⟩) l.length d) ∧ w'.cell? ⟨q2, k, none⟩ = some (.bool false) ∧ True))
                clear RR
                refine Evo2.start' (ℓ := none) (S := Chg (fun _ => False)) (E := Grow.G) (by kernel_rfl) ⟨Chg.pre _, by decide +kernel, (by intro c a d v w h; cases d <;> exact h), by decide +kernel⟩ (fun ok => ?_)
                refine Evo2.va ok 0 _ _ ?_
                refine Evo2.va ok 1 _ _ ?_
                refine Evo2.va ok 2 _ _ ?_
                first | (refine Evo2.vl ok 3 KC.out (Chg.refl (fun _ => False) _) _ _ ?_) | (refine Evo2.va ok 3 _ _ ?_)
                refine Evo2.va ok 4 _ _ ?_
                refine Evo2.va ok 5 _ _ ?_
                first | (refine Evo2.vl ok 6 KC.out (Chg.refl (fun _ => False) _) _ _ ?_) | (refine Evo2.va ok 6 _ _ ?_)
                refine Evo2.va ok 7 _ _ ?_
                first | (refine Evo2.va ok 8 _ _ ?_) | (refine Evo2.vi ok 8 _ ?_)
                first | (refine Evo2.va ok 9 _ _ ?_) | (refine Evo2.vi ok 9 _ ?_)
                first | (refine Evo2.va ok 10 _ _ ?_) | (refine Evo2.vi ok 10 _ ?_)
                first | (refine Evo2.va ok 11 _ _ ?_) | (refine Evo2.vi ok 11 _ ?_)
                first | (refine Evo2.va ok 12 _ _ ?_) | (refine Evo2.vi ok 12 _ ?_)
                first | (refine Evo2.va ok 13 _ _ ?_) | (refine Evo2.vi ok 13 _ ?_)
                first | (refine Evo2.vl ok 14 KC.out (Chg.refl (fun _ => False) _) _ _ ?_) | (refine Evo2.va ok 14 _ _ ?_) | (refine Evo2.vi ok 14 _ ?_)
                first | (refine Evo2.va ok 15 _ _ ?_) | (refine Evo2.vi ok 15 _ ?_)
                first | (refine Evo2.va ok 16 _ _ ?_) | (refine Evo2.vi ok 16 _ ?_)
                first | (refine Evo2.va ok 17 _ _ ?_) | (refine Evo2.vi ok 17 _ ?_)
                first | (refine Evo2.vl ok 18 KC.out (Chg.refl (fun _ => False) _) _ _ ?_) | (refine Evo2.va ok 18 _ _ ?_) | (refine Evo2.vi ok 18 _ ?_)
                first | (refine Evo2.va ok 19 _ _ ?_) | (refine Evo2.vi ok 19 _ ?_)
                first | (refine Evo2.va ok 20 _ _ ?_) | (refine Evo2.vi ok 20 _ ?_)
                first | (refine Evo2.va ok 21 _ _ ?_) | (refine Evo2.vi ok 21 _ ?_)
                first | (refine Evo2.vl ok 22 KC.out (Chg.refl (fun _ => False) _) _ _ ?_) | (refine Evo2.va ok 22 _ _ ?_) | (refine Evo2.vi ok 22 _ ?_)
                first | (refine Evo2.va ok 23 _ _ ?_) | (refine Evo2.vi ok 23 _ ?_)
                first | (refine Evo2.va ok 24 _ _ ?_) | (refine Evo2.vi ok 24 _ ?_)
                first | (refine Evo2.va ok 25 _ _ ?_) | (refine Evo2.vi ok 25 _ ?_)
                first | (refine Evo2.vl ok 26 KC.out (Chg.refl (fun _ => False) _) _ _ ?_) | (refine Evo2.va ok 26 _ _ ?_) | (refine Evo2.vi ok 26 _ ?_)
                first | (refine Evo2.va ok 27 _ _ ?_) | (refine Evo2.vi ok 27 _ ?_)
                first | (refine Evo2.va ok 28 _ _ ?_) | (refine Evo2.vi ok 28 _ ?_)
                refine Evo2.va ok 29 _ _ ?_
                refine Evo2.done (by decide +kernel) (fun wz gz => ?_)
                have AZ := Chg.trans (Chg.refl (fun _ => False) _) (Chg.grow gz)
                dsimp only [PostN] 
                (repeat apply Exists.intro) 
                exact ⟨rfl, Lib.hid ⟨fun e => (by cases e), fun _ => RES.out⟩, Lib.hid (AZ.toGrow (fun _ _ => id))⟩
              | true =>
                rcases RR.out with ⟨rfl, hT⟩ | ⟨i, r, rfl, hi, hr, hT⟩
                · have RES : Hid (RelK (mineR s) l (k + 1) k) := Lib.hid (RR.out.take HM.out FR2.out (fun r h => by rw [hT] at h; cases h))
                  have KC := Lib.hid (fun (w' : World) (h : Chg (fun _ => False) W2 w') => (⟨h.cell c1 id, h.cell CP3.out id, trivial⟩ : w'.cell? ⟨g, 1, none⟩ = some (.slice (some ⟨q2, 0, none⟩) l.length d) ∧ w'.cell? ⟨q2, k, none⟩ = some (.bool true) ∧ True))
                  clear hT RR
                  refine Evo2.start' (ℓ := none) (S := Chg (fun _ => False)) (E := Grow.G) (by kernel_rfl) ⟨Chg.pre _, by decide +kernel, (by intro c a d v w h; cases d <;> exact h), by decide +kernel⟩ (fun ok => ?_)
                  refine Evo2.va ok 0 _ _ ?_
                  refine Evo2.va ok 1 _ _ ?_
                  refine Evo2.va ok 2 _ _ ?_
                  first | (refine Evo2.vl ok 3 KC.out (Chg.refl (fun _ => False) _) _ _ ?_) | (refine Evo2.va ok 3 _ _ ?_)
                  refine Evo2.va ok 4 _ _ ?_
                  refine Evo2.va ok 5 _ _ ?_
                  first | (refine Evo2.vl ok 6 KC.out (Chg.refl (fun _ => False) _) _ _ ?_) | (refine Evo2.va ok 6 _ _ ?_)
                  refine Evo2.va ok 7 _ _ ?_
                  first | (refine Evo2.va ok 8 _ _ ?_) | (refine Evo2.vi ok 8 _ ?_)
                  first | (refine Evo2.va ok 9 _ _ ?_) | (refine Evo2.vi ok 9 _ ?_)
                  first | (refine Evo2.va ok 10 _ _ ?_) | (refine Evo2.vi ok 10 _ ?_)
                  first | (refine Evo2.va ok 11 _ _ ?_) | (refine Evo2.vi ok 11 _ ?_)
                  first | (refine Evo2.va ok 12 _ _ ?_) | (refine Evo2.vi ok 12 _ ?_)
                  first | (refine Evo2.va ok 13 _ _ ?_) | (refine Evo2.vi ok 13 _ ?_)
                  first | (refine Evo2.vl ok 14 KC.out (Chg.refl (fun _ => False) _) _ _ ?_) | (refine Evo2.va ok 14 _ _ ?_) | (refine Evo2.vi ok 14 _ ?_)
                  first | (refine Evo2.va ok 15 _ _ ?_) | (refine Evo2.vi ok 15 _ ?_)
                  first | (refine Evo2.va ok 16 _ _ ?_) | (refine Evo2.vi ok 16 _ ?_)
                  first | (refine Evo2.va ok 17 _ _ ?_) | (refine Evo2.vi ok 17 _ ?_)
                  first | (refine Evo2.vl ok 18 KC.out (Chg.refl (fun _ => False) _) _ _ ?_) | (refine Evo2.va ok 18 _ _ ?_) | (refine Evo2.vi ok 18 _ ?_)
                  first | (refine Evo2.va ok 19 _ _ ?_) | (refine Evo2.vi ok 19 _ ?_)
                  first | (refine Evo2.va ok 20 _ _ ?_) | (refine Evo2.vi ok 20 _ ?_)
                  first | (refine Evo2.va ok 21 _ _ ?_) | (refine Evo2.vi ok 21 _ ?_)
                  first | (refine Evo2.vl ok 22 KC.out (Chg.refl (fun _ => False) _) _ _ ?_) | (refine Evo2.va ok 22 _ _ ?_) | (refine Evo2.vi ok 22 _ ?_)
                  first | (refine Evo2.va ok 23 _ _ ?_) | (refine Evo2.vi ok 23 _ ?_)
                  first | (refine Evo2.va ok 24 _ _ ?_) | (refine Evo2.vi ok 24 _ ?_)
                  first | (refine Evo2.va ok 25 _ _ ?_) | (refine Evo2.vi ok 25 _ ?_)
                  first | (refine Evo2.vl ok 26 KC.out (Chg.refl (fun _ => False) _) _ _ ?_) | (refine Evo2.va ok 26 _ _ ?_) | (refine Evo2.vi ok 26 _ ?_)
                  first | (refine Evo2.va ok 27 _ _ ?_) | (refine Evo2.vi ok 27 _ ?_)
                  first | (refine Evo2.va ok 28 _ _ ?_) | (refine Evo2.vi ok 28 _ ?_)
                  refine Evo2.va ok 29 _ _ ?_
                  refine Evo2.done (by decide +kernel) (fun wz gz => ?_)
                  have AZ := Chg.trans (Chg.refl (fun _ => False) _) (Chg.grow gz)
                  dsimp only [PostN] 
                  (repeat apply Exists.intro) 
                  exact ⟨rfl, Lib.hid ⟨fun _ => RES.out, fun e => (by cases e)⟩, Lib.hid (AZ.toGrow (fun _ _ => id))⟩
                · obtain ⟨rg, hrg⟩ : ∃ rg, r.gn = rg := ⟨_, rfl⟩
                  obtain ⟨q', eq', -, -, hc'⟩ := (own_revs HS2.out.row).resolve_left (fun e => by rw [e.2.2] at hlt; simp at hlt)
                  cases eq'
                  have ci := hc' i r hr 1 (.int .i64 r.gn) rfl
                  rw [hrg] at ci
                  have hil := (List.getElem?_eq_some_iff.1 hr).1
                  have e0 : decide ((i : Int) < 0) = false := decide_eq_false (by omega)
                  have i0 : ¬ ((i : Int) < 0) := by omega
                  have i1 : (0 : Int) ≤ (i : Int) := by omega
                  have i2 : (i : Int) < (l.length : Int) := by omega
                  have KC := Lib.hid (fun (w' : World) (h : Chg (fun _ => False) W2 w') => (⟨h.cell c1 id, h.cell CP3.out id, h.cell c0 id, h.cell CG3.out id, h.cell ci id, trivial⟩ : w'.cell? ⟨g, 1, none⟩ = some (.slice (some ⟨q2, 0, none⟩) l.length d) ∧ w'.cell? ⟨q2, k, none⟩ = some (.bool true) ∧ w'.cell? ⟨g, 0, none⟩ = some (.slice (some ⟨q, 0, none⟩) l.length c) ∧ w'.cell? ⟨q, k * 8 + 1, none⟩ = some (.int .i64 mg) ∧ w'.cell? ⟨q, i * 8 + 1, none⟩ = some (.int .i64 rg) ∧ True))
                  by_cases hgt : rg < mg
                  · have RES : Hid (RelK (mineR s) l (k + 1) k) := Lib.hid (RR.out.take HM.out FR2.out (fun x h => by rw [hT] at h; cases h; rw [hrg, HMG.out]; exact hgt))
                    have d3 : decide (rg < mg) = true := decide_eq_true hgt
                    clear hT RR ci hr hrg hc'
                    refine Evo2.start' (ℓ := none) (S := Chg (fun _ => False)) (E := Grow.G) (by kernel_rfl) ⟨Chg.pre _, by decide +kernel, (by intro c a d v w h; cases d <;> exact h), by decide +kernel⟩ (fun ok => ?_)
                    refine Evo2.va ok 0 _ _ ?_
                    refine Evo2.va ok 1 _ _ ?_
                    refine Evo2.va ok 2 _ _ ?_
                    first | (refine Evo2.vl ok 3 KC.out (Chg.refl (fun _ => False) _) _ _ ?_) | (refine Evo2.va ok 3 _ _ ?_)
                    refine Evo2.va ok 4 _ _ ?_
                    refine Evo2.va ok 5 _ _ ?_
                    first | (refine Evo2.vl ok 6 KC.out (Chg.refl (fun _ => False) _) _ _ ?_) | (refine Evo2.va ok 6 _ _ ?_)
                    refine Evo2.va ok 7 _ _ ?_
                    first | (refine Evo2.va ok 8 _ _ ?_) | (refine Evo2.vi ok 8 _ ?_)
                    first | (refine Evo2.va ok 9 _ _ ?_) | (refine Evo2.vi ok 9 _ ?_)
                    first | (refine Evo2.va ok 10 _ _ ?_) | (refine Evo2.vi ok 10 _ ?_)
                    first | (refine Evo2.va ok 11 _ _ ?_) | (refine Evo2.vi ok 11 _ ?_)
                    first | (refine Evo2.va ok 12 _ _ ?_) | (refine Evo2.vi ok 12 _ ?_)
                    first | (refine Evo2.va ok 13 _ _ ?_) | (refine Evo2.vi ok 13 _ ?_)
                    first | (refine Evo2.vl ok 14 KC.out (Chg.refl (fun _ => False) _) _ _ ?_) | (refine Evo2.va ok 14 _ _ ?_) | (refine Evo2.vi ok 14 _ ?_)
                    first | (refine Evo2.va ok 15 _ _ ?_) | (refine Evo2.vi ok 15 _ ?_)
                    first | (refine Evo2.va ok 16 _ _ ?_) | (refine Evo2.vi ok 16 _ ?_)
                    first | (refine Evo2.va ok 17 _ _ ?_) | (refine Evo2.vi ok 17 _ ?_)
                    first | (refine Evo2.vl ok 18 KC.out (Chg.refl (fun _ => False) _) _ _ ?_) | (refine Evo2.va ok 18 _ _ ?_) | (refine Evo2.vi ok 18 _ ?_)
                    first | (refine Evo2.va ok 19 _ _ ?_) | (refine Evo2.vi ok 19 _ ?_)
                    first | (refine Evo2.va ok 20 _ _ ?_) | (refine Evo2.vi ok 20 _ ?_)
                    first | (refine Evo2.va ok 21 _ _ ?_) | (refine Evo2.vi ok 21 _ ?_)
                    first | (refine Evo2.vl ok 22 KC.out (Chg.refl (fun _ => False) _) _ _ ?_) | (refine Evo2.va ok 22 _ _ ?_) | (refine Evo2.vi ok 22 _ ?_)
                    first | (refine Evo2.va ok 23 _ _ ?_) | (refine Evo2.vi ok 23 _ ?_)
                    first | (refine Evo2.va ok 24 _ _ ?_) | (refine Evo2.vi ok 24 _ ?_)
                    first | (refine Evo2.va ok 25 _ _ ?_) | (refine Evo2.vi ok 25 _ ?_)
                    first | (refine Evo2.vl ok 26 KC.out (Chg.refl (fun _ => False) _) _ _ ?_) | (refine Evo2.va ok 26 _ _ ?_) | (refine Evo2.vi ok 26 _ ?_)
                    first | (refine Evo2.va ok 27 _ _ ?_) | (refine Evo2.vi ok 27 _ ?_)
                    first | (refine Evo2.va ok 28 _ _ ?_) | (refine Evo2.vi ok 28 _ ?_)
                    refine Evo2.va ok 29 _ _ ?_
                    refine Evo2.done (by decide +kernel) (fun wz gz => ?_)
                    have AZ := Chg.trans (Chg.refl (fun _ => False) _) (Chg.grow gz)
                    dsimp only [PostN] 
                    (repeat apply Exists.intro) 
                    exact ⟨rfl, Lib.hid ⟨fun _ => RES.out, fun e => (by cases e)⟩, Lib.hid (AZ.toGrow (fun _ _ => id))⟩
                  · have RES : Hid (RelK (mineR s) l (k + 1) i) := Lib.hid (RR.out.stay HM.out hT (by rw [hrg, HMG.out]; exact hgt))
                    have d3 : decide (rg < mg) = false := decide_eq_false hgt
                    clear hT RR ci hr hrg hc'
                    refine Evo2.start' (ℓ := none) (S := Chg (fun _ => False)) (E := Grow.G) (by kernel_rfl) ⟨Chg.pre _, by decide +kernel, (by intro c a d v w h; cases d <;> exact h), by decide +kernel⟩ (fun ok => ?_)
                    refine Evo2.va ok 0 _ _ ?_
                    refine Evo2.va ok 1 _ _ ?_
                    refine Evo2.va ok 2 _ _ ?_
                    first | (refine Evo2.vl ok 3 KC.out (Chg.refl (fun _ => False) _) _ _ ?_) | (refine Evo2.va ok 3 _ _ ?_)
                    refine Evo2.va ok 4 _ _ ?_
                    refine Evo2.va ok 5 _ _ ?_
                    first | (refine Evo2.vl ok 6 KC.out (Chg.refl (fun _ => False) _) _ _ ?_) | (refine Evo2.va ok 6 _ _ ?_)
                    refine Evo2.va ok 7 _ _ ?_
                    first | (refine Evo2.va ok 8 _ _ ?_) | (refine Evo2.vi ok 8 _ ?_)
                    first | (refine Evo2.va ok 9 _ _ ?_) | (refine Evo2.vi ok 9 _ ?_)
                    first | (refine Evo2.va ok 10 _ _ ?_) | (refine Evo2.vi ok 10 _ ?_)
                    first | (refine Evo2.va ok 11 _ _ ?_) | (refine Evo2.vi ok 11 _ ?_)
                    first | (refine Evo2.va ok 12 _ _ ?_) | (refine Evo2.vi ok 12 _ ?_)
                    first | (refine Evo2.va ok 13 _ _ ?_) | (refine Evo2.vi ok 13 _ ?_)
                    first | (refine Evo2.vl ok 14 KC.out (Chg.refl (fun _ => False) _) _ _ ?_) | (refine Evo2.va ok 14 _ _ ?_) | (refine Evo2.vi ok 14 _ ?_)
                    first | (refine Evo2.va ok 15 _ _ ?_) | (refine Evo2.vi ok 15 _ ?_)
                    first | (refine Evo2.va ok 16 _ _ ?_) | (refine Evo2.vi ok 16 _ ?_)
                    first | (refine Evo2.va ok 17 _ _ ?_) | (refine Evo2.vi ok 17 _ ?_)
                    first | (refine Evo2.vl ok 18 KC.out (Chg.refl (fun _ => False) _) _ _ ?_) | (refine Evo2.va ok 18 _ _ ?_) | (refine Evo2.vi ok 18 _ ?_)
                    first | (refine Evo2.va ok 19 _ _ ?_) | (refine Evo2.vi ok 19 _ ?_)
                    first | (refine Evo2.va ok 20 _ _ ?_) | (refine Evo2.vi ok 20 _ ?_)
                    first | (refine Evo2.va ok 21 _ _ ?_) | (refine Evo2.vi ok 21 _ ?_)
                    first | (refine Evo2.vl ok 22 KC.out (Chg.refl (fun _ => False) _) _ _ ?_) | (refine Evo2.va ok 22 _ _ ?_) | (refine Evo2.vi ok 22 _ ?_)
                    first | (refine Evo2.va ok 23 _ _ ?_) | (refine Evo2.vi ok 23 _ ?_)
                    first | (refine Evo2.va ok 24 _ _ ?_) | (refine Evo2.vi ok 24 _ ?_)
                    first | (refine Evo2.va ok 25 _ _ ?_) | (refine Evo2.vi ok 25 _ ?_)
                    first | (refine Evo2.vl ok 26 KC.out (Chg.refl (fun _ => False) _) _ _ ?_) | (refine Evo2.va ok 26 _ _ ?_) | (refine Evo2.vi ok 26 _ ?_)
                    first | (refine Evo2.va ok 27 _ _ ?_) | (refine Evo2.vi ok 27 _ ?_)
                    first | (refine Evo2.va ok 28 _ _ ?_) | (refine Evo2.vi ok 28 _ ?_)
                    refine Evo2.va ok 29 _ _ ?_
                    refine Evo2.done (by decide +kernel) (fun wz gz => ?_)
                    have AZ := Chg.trans (Chg.refl (fun _ => False) _) (Chg.grow gz)
                    dsimp only [PostN] 
                    (repeat apply Exists.intro) 
                    exact ⟨rfl, Lib.hid ⟨fun e => (by cases e), fun _ => RES.out⟩, Lib.hid (AZ.toGrow (fun _ _ => id))⟩
            ·
              rintro A W3 ⟨x53, x54, x55, x56, x57, x58, x59, x60, x61, x62, x63, x64, x65, x66, x67, x68, x69, x70, x71, x72, x73, x74, x75, x76, x77, x78, x79, x80, x81, b2, rfl, NR, G3⟩
              have HG3 := Lib.hid (HG.out.trans (G2.out.trans G3.out))
              cases b2 with
              | true =>
                have JR := Lib.hid (NR.out.1 rfl)
                clear NR RR
                go_wp2_with fail
                go_roundw
                case rel => exact ⟨k + 1, _, _, by omega, rfl, rfl, by go_num, JM, JR, HG3⟩
                case measure => simp [_root_.Go.RowKit.intOf]; omega
              | false =>
                have JR := Lib.hid (NR.out.2 rfl)
                clear NR RR
                go_wp2_with fail
                go_roundw
                case rel => exact ⟨k + 1, _, _, by omega, rfl, rfl, by go_num, JM, JR, HG3⟩
                case measure => simp [_root_.Go.RowKit.intOf]; omega
      · have d1 : (m.c.nm.toList == s.toList) = false := by
          cases q : (m.c.nm.toList == s.toList) with
          | false => rfl
          | true => exact absurd (eqS_iff.1 q) hn
        have d1' : (m.c.nm.toList != s.toList) = true := by rw [bne, d1]; rfl
        have R1 := Lib.hid (RM.out.skip HM.out (show mineM s m = false from decide_eq_false hn))
        have R2 := Lib.hid (RR.out.skip HM.out (show mineR s m = false by unfold mineR; rw [decide_eq_false hn]; rfl))
        obtain ⟨nm, hnm⟩ : ∃ nm, m.c.nm = nm := ⟨_, rfl⟩
        rw [hnm] at cn d1 d1'
        clear hn hnm RM RR CG CP
        go_wp2_with fail
        go_roundw
        case rel => exact ⟨k + 1, jm, jr, by omega, rfl, rfl, by go_num, R1, R2, HG⟩
        case measure => simp [_root_.Go.RowKit.intOf]; omega
    · obtain rfl : k = l.length := by omega
      have d0 : decide ((l.length : Int) < (l.length : Int)) = false := decide_eq_false (by omega)
      have LM : Hid (latM l s = nameK (topK (mineM s) l) ∧ latR l s = nameK (topK (mineR s) l)) := Lib.hid ⟨rfl, rfl⟩
      have XM := Lib.hid RM.out.full
      have XR := Lib.hid RR.out.full
      clear RM RR
      rcases XM.out with ⟨rfl, tM⟩ | ⟨iM, rM, rfl, -, hrM, tM⟩
      · rcases XR.out with ⟨rfl, tR⟩ | ⟨iR, rR, rfl, -, hrR, tR⟩
        ·
          have RES : Hid (latM l s = ⟨#[]⟩ ∧ latR l s = ⟨#[]⟩) := Lib.hid ⟨by rw [LM.out.1, tM]; rfl, by rw [LM.out.2, tR]; rfl⟩
          clear tM tR XM XR LM
          go_wp2_with fail
          go_returns
          rw [RES.out.1, RES.out.2]
          exact ⟨rfl, HG.out⟩
        ·
          have hlt := (List.getElem?_eq_some_iff.1 hrR).1
          obtain ⟨q, rfl, -, hql, hc⟩ := (own_revs HS.out.row).resolve_left (fun e => by rw [e.2.2] at hlt; simp at hlt)
          have hR := (List.getElem?_eq_some_iff.1 hrR).1
          have clR := hc iR rR hrR 0 (.string rR.nm) rfl
          rw [Nat.add_zero] at clR
          have eR : decide ((0 : Int) ≤ (iR : Int)) = true := decide_eq_true (by omega)
          have fR : (0 : Int) ≤ (iR : Int) := by omega
          have gR : (iR : Int) < (l.length : Int) := by omega
          obtain ⟨nR, hnR⟩ : ∃ nR, rR.nm = nR := ⟨_, rfl⟩
          rw [hnR] at clR
          have RES : Hid (latM l s = ⟨#[]⟩ ∧ latR l s = nR) := Lib.hid ⟨by rw [LM.out.1, tM]; rfl, by rw [LM.out.2, tR]; exact hnR⟩
          clear tM tR XM XR LM hc hrR hnR hlt
          go_wp2_with fail
          go_returns
          rw [RES.out.1, RES.out.2]
          exact ⟨rfl, HG.out⟩
      · rcases XR.out with ⟨rfl, tR⟩ | ⟨iR, rR, rfl, -, hrR, tR⟩
        ·
          have hlt := (List.getElem?_eq_some_iff.1 hrM).1
          obtain ⟨q, rfl, -, hql, hc⟩ := (own_revs HS.out.row).resolve_left (fun e => by rw [e.2.2] at hlt; simp at hlt)
          have hM := (List.getElem?_eq_some_iff.1 hrM).1
          have clM := hc iM rM hrM 0 (.string rM.nm) rfl
          rw [Nat.add_zero] at clM
          have eM : decide ((0 : Int) ≤ (iM : Int)) = true := decide_eq_true (by omega)
          have fM : (0 : Int) ≤ (iM : Int) := by omega
          have gM : (iM : Int) < (l.length : Int) := by omega
          obtain ⟨nM, hnM⟩ : ∃ nM, rM.nm = nM := ⟨_, rfl⟩
          rw [hnM] at clM
          have RES : Hid (latM l s = nM ∧ latR l s = ⟨#[]⟩) := Lib.hid ⟨by rw [LM.out.1, tM]; exact hnM, by rw [LM.out.2, tR]; rfl⟩
          clear tM tR XM XR LM hc hrM hnM hlt
          go_wp2_with fail
          go_returns
          rw [RES.out.1, RES.out.2]
          exact ⟨rfl, HG.out⟩
        ·
          have hlt := (List.getElem?_eq_some_iff.1 hrM).1
          obtain ⟨q, rfl, -, hql, hc⟩ := (own_revs HS.out.row).resolve_left (fun e => by rw [e.2.2] at hlt; simp at hlt)
          have hM := (List.getElem?_eq_some_iff.1 hrM).1
          have clM := hc iM rM hrM 0 (.string rM.nm) rfl
          rw [Nat.add_zero] at clM
          have eM : decide ((0 : Int) ≤ (iM : Int)) = true := decide_eq_true (by omega)
          have fM : (0 : Int) ≤ (iM : Int) := by omega
          have gM : (iM : Int) < (l.length : Int) := by omega
          obtain ⟨nM, hnM⟩ : ∃ nM, rM.nm = nM := ⟨_, rfl⟩
          rw [hnM] at clM
          have hR := (List.getElem?_eq_some_iff.1 hrR).1
          have clR := hc iR rR hrR 0 (.string rR.nm) rfl
          rw [Nat.add_zero] at clR
          have eR : decide ((0 : Int) ≤ (iR : Int)) = true := decide_eq_true (by omega)
          have fR : (0 : Int) ≤ (iR : Int) := by omega
          have gR : (iR : Int) < (l.length : Int) := by omega
          obtain ⟨nR, hnR⟩ : ∃ nR, rR.nm = nR := ⟨_, rfl⟩
          rw [hnR] at clR
          have RES : Hid (latM l s = nM ∧ latR l s = nR) := Lib.hid ⟨by rw [LM.out.1, tM]; exact hnM, by rw [LM.out.2, tR]; exact hnR⟩
          clear tM tR XM XR LM hc hrM hrR hnM hnR hlt
          go_wp2_with fail
          go_returns
          rw [RES.out.1, RES.out.2]
          exact ⟨rfl, HG.out⟩
end Go.Proofs.YtjcdmnogmpjkkaaDoor

/- The second form's book among what a call holds: a new one, Latest. -/
namespace Go.Proofs.YtjcdmnogmpjkkaaDoor
set_option maxRecDepth 100000
set_option linter.unusedVariables false
set_option linter.unusedSimpArgs false
open Go.RowKit Go.Args
section
variable {w0 w : World} {L : List MBox} {A B : Hp} {g : Nat} {l : List Rv} {st mt : ByteArray}
theorem RbP.new (w : World) : RbP w.heap.size [] (w.alloc (.cells #[.slice none 0 0, .slice none 0 0] rbkT)) (fun k => k = w.heap.size) :=
  ⟨_, _, BkOk.nil, fun k => k = w.heap.size, fun _ => False, ⟨Blk.new w _ _, fun k => Iff.rfl⟩, ⟨fun _ => False, fun _ => False, ⟨⟨rfl, .inl ⟨rfl, rfl⟩⟩, fun k => ⟨False.elim, fun e => by cases e⟩⟩, ⟨⟨rfl, .inl ⟨rfl, rfl⟩⟩, fun k => ⟨False.elim, fun e => by cases e⟩⟩, fun k h _ => h, fun k => by simp⟩, fun k _ h => h, fun k => by simp⟩
theorem hold_rblatest (h : Hold w0 w L (Sep (RbP g l) B)) (hB : Foot B) (s : ByteArray) (hl : l.length ≤ 1000) (h1 : latM l s = mt := by rfl) (h2 : latR l s = st := by rfl) :
    Calls Tryd.prog 41 #[pz g, .string s] w fun e w' => e = .returned (.tuple #[.string mt, .string st]) ∧ Grow.G w w' ∧ Hold w0 w' L (Sep (RbP g l) B) := by
  obtain ⟨v, u, ok, HS⟩ := hold_rbopen h
  obtain ⟨F, hF⟩ := hold_rbS HS
  refine (rblatest_any g v u l s w F hF hl).mono ?_
  rintro e w' ⟨rfl, hg⟩
  exact ⟨by rw [h1, h2], hg, h.grow ((RbP.foot g l).sep hB) hg⟩
end
end Go.Proofs.YtjcdmnogmpjkkaaDoor

/- My own texts Hd6, laid in one file. -/
import Derived.Test.YtfnpghekkhnjkaaZ80
import Derived.Test.YtfnpghekkhnjkaaZ73

/- The second form's fleet: one pod more. -/
namespace Go.Proofs.Ytfnpghekkhnjkaa
set_option maxRecDepth 100000
set_option linter.unusedVariables false
set_option linter.unusedSimpArgs false
set_option linter.unnecessarySimpa false
open Go.RowKit Go.Args

section
variable {w w' : World} {F : Nat → Prop} {g : Nat} {r n n' : Int} {v v' : Value} {lm : List HM}
/-- One pod more. -/
theorem RflS.grown (h : RflS g r n v lm w F) {m' : HM} (hg : Blk w' g ([.int .i64 r, .int .i64 n', v'] : List Value).toArray rflT) (hm : Blk w' m'.b m'.cells.toArray heldT) (hb : w.heap.size ≤ m'.b)
    (hp : RpP m'.p m'.h.p w' (fun k => k = m'.p)) (hpb : w.heap.size ≤ m'.p) (hne : m'.b ≠ m'.p) (hr : w'.ownsRow 0 heldPT 1 v' (lm.length + 1) (hptrs lm ++ [pz m'.b])) (hv : ∀ k, v'.ownBlock = some k → v.ownBlock = some k ∨ w.heap.size ≤ k)
    (c : Chg (fun k => k = g ∨ v.ownBlock = some k) w w') : EndS w w' F (RflS g r n' v' (lm ++ [m'])) := by
  obtain ⟨F1, F2, ⟨a1, a2⟩, ⟨F3, F4, ⟨b1, b2⟩, so, ap2, e2⟩, ap, e⟩ := h
  have g1 : F1 g := (a2 g).2 rfl
  have Slt : ∀ k, F4 k → k < w.heap.size := fun k hk => (SepL.foot HdF.foot lm).lt so k hk
  have so' : SepL HdF lm w' F4 := (SepL.foot HdF.foot lm).frame so c fun k hk q => by
    rcases q with rfl | q
    · exact ap _ g1 ((e2 _).2 (.inr hk))
    · exact ap2 k ((b2 k).2 q) hk
  obtain ⟨u, hpu, hpe⟩ := hp
  have hpB : Blk w' m'.p (rpdC m'.h.p u).toArray rpdT := hpu.hb
  have OB : HdF m' w' (fun k => k = m'.b ∨ k = m'.p) := ⟨fun k => k = m'.b, fun k => k = m'.p, ⟨hm, fun k => Iff.rfl⟩, ⟨u, hpu, hpe⟩, fun k h1 h2 => by have h1 : k = m'.b := h1; have h2 : k = m'.p := h2; omega, fun k => Iff.rfl⟩
  have SL := SepL.snoc so' OB (fun k hk q => by have := Slt k hk; rcases q with q | q <;> omega)
  have hvb : ∀ k, v'.ownBlock = some k → k ≠ m'.b := fun k hk q => by subst q; exact own_blk_types hr hm (by decide) hk
  have hvp : ∀ k, v'.ownBlock = some k → k ≠ m'.p := fun k hk q => by subst q; exact own_blk_types hr hpB (by decide) hk
  have hvg : ∀ k, v'.ownBlock = some k → k ≠ g := fun k hk q => by subst q; exact own_blk_types hr hg (by decide) hk
  have ROW : RowF 0 heldPT 1 v' (lm ++ [m']).length (hptrs (lm ++ [m'])) w' (fun k => v'.ownBlock = some k) := by
    have e1 : hptrs (lm ++ [m']) = hptrs lm ++ [pz m'.b] := by unfold hptrs; rw [List.map_append]; rfl
    rw [e1, List.length_append, List.length_singleton]
    exact ⟨hr, fun k => Iff.rfl⟩
  refine ⟨fun k => F1 k ∨ (v'.ownBlock = some k ∨ (F4 k ∨ (k = m'.b ∨ k = m'.p))), ⟨F1, fun k => v'.ownBlock = some k ∨ (F4 k ∨ (k = m'.b ∨ k = m'.p)), ⟨hg, a2⟩, ⟨fun k => v'.ownBlock = some k, fun k => F4 k ∨ (k = m'.b ∨ k = m'.p), ROW, SL, fun k h1 h2 => ?_, fun k => Iff.rfl⟩, fun k h1 h2 => ?_, fun k => Iff.rfl⟩, c.sub fun k hk => ?_, fun k hk => ?_⟩
  · rcases h2 with h2 | h2 | h2
    · rcases hv k h1 with q | q
      · exact ap2 k ((b2 k).2 q) h2
      · have := Slt k h2; omega
    · exact hvb k h1 h2
    · exact hvp k h1 h2
  · have hk := (a2 k).1 h1
    subst hk
    rcases h2 with h2 | h2 | h2 | h2
    · exact hvg _ h2 rfl
    · exact ap _ h1 ((e2 _).2 (.inr h2))
    · have := a1.lt; omega
    · have := a1.lt; omega
  · rcases hk with rfl | hk
    · exact (e _).2 (.inl g1)
    · exact (e k).2 (.inr ((e2 k).2 (.inl ((b2 k).2 hk))))
  · rcases hk with hk | hk | hk | hk | hk
    · exact .inl ((e k).2 (.inl hk))
    · rcases hv k hk with q | q
      · exact .inl ((e k).2 (.inr ((e2 k).2 (.inl ((b2 k).2 q)))))
      · exact .inr q
    · exact .inl ((e k).2 (.inr ((e2 k).2 (.inr hk))))
    · exact .inr (by omega)
    · exact .inr (by omega)
end
theorem newP_snoc (rv : ByteArray) (c n : Int) (k : Nat) : newP rv c n (k + 1) = newP rv c n k ++ [⟨n + 1 + (k : Int), rv, Pd.new c⟩] := by unfold newP; rw [List.range_succ, List.map_append]; rfl
theorem idsP_snoc (n : Int) (k : Nat) : idsP n (k + 1) = idsP n k ++ [n + 1 + (k : Int)] := by unfold idsP; rw [List.range_succ, List.map_append]; rfl
set_option maxHeartbeats 16000000 in
/-- More are asked for than there are. -/
theorem hold_rlmore {w0 w : World} {L : List MBox} {A B : Hp} {g : Nat} {f f' : Fl} {tl : List Int} (h : Hold w0 w L (Sep A (Sep (RflP g f) B))) (hA : Foot A) (hB : Foot B) (rv : ByteArray) (c want : Int) (hc : 1 ≤ c ∧ c ≤ 8) (hw : 0 ≤ want ∧ want ≤ 10) (hn : f.n ≤ 99000) (hup : (countP f.l rv : Int) ≤ want) (h1 : f.made rv want = tl := by rfl) (h3 : f.scale rv c want = f' := by rfl) :
    Calls Try.prog 24 #[pz g, .string rv, .int .i64 c, .int .i64 want] w fun e w' => ∃ v u, e = .returned (.tuple #[v, u]) ∧ Hold w0 w' L (Sep A (Sep (RflP g f') (Sep (IntO v tl) B))) := by
  obtain ⟨v0, lm0, e1, ok, HS⟩ := hold_rlopen h
  obtain ⟨F, hS⟩ := hold_S HS
  have hroom := ok.room
  have hlen : lm0.length ≤ 30 ∧ (lm0.length : Int) ≤ f.room := by
    have := ok.len
    rw [← e1, List.length_map] at this
    omega
  have CN := Lib.hid (rlcount_any g f.room f.n v0 lm0 rv w F hS (by omega))
  have hlf : (f.l.length : Nat) = lm0.length := by rw [← e1, List.length_map]
  rw [e1] at CN
  obtain ⟨CT, hCT⟩ : ∃ CT, countP f.l rv = CT := ⟨_, rfl⟩
  obtain ⟨K, hK⟩ : ∃ K, f.more rv want = K := ⟨_, rfl⟩
  have hKd : K = min (want - (CT : Int)).toNat (f.room - (lm0.length : Int)).toNat := by rw [← hK, ← hCT, ← hlf]; rfl
  have hCTl : CT ≤ lm0.length := by rw [← hCT, ← hlf]; unfold countP; exact List.length_filter_le _ _
  have hmade : f.made rv want = idsP f.n K := by unfold Fl.made; rw [hK]
  have hsc : f' = ⟨f.room, f.n + K, f.l ++ newP rv c f.n K⟩ := by
    rcases f.scale_cases rv c want with ⟨_, _, _, h4⟩ | ⟨h4, _⟩
    · rw [← h3, h4, hK]
    · omega
  have ok2 : f'.ok := by rw [← h3]; exact Fl.ok_scale ok rv hc hw hn
  rw [hCT] at CN hup
  have FA := Lib.hid hA
  have FB := Lib.hid hB
  have HM0 := Lib.hid (And.intro e1 (And.intro ok (And.intro ok2 hsc)))
  have HTL : Hid (tl = idsP f.n K) := Lib.hid (h1.symm.trans hmade)
  have H : Hid (Hold w0 w L (Sep A (Sep (RflS g f.room f.n v0 lm0) B))) := Lib.hid HS
  have hnn := ok.n
  clear h HS hS h1 h3 hCT hK hmade hsc ok2 ok e1 hlf
  obtain ⟨i0, hi, hz0, hz1, hz2⟩ := info_parts infoHeld
  have HI := Lib.hid hi; have HZ0 := Lib.hid hz0; have HZ1 := Lib.hid hz1; have HZ2 := Lib.hid hz2
  clear hi hz0 hz1 hz2
  have FAB := Lib.hid (hA.sep hB)
  go_enter Try.func24, Try.ntmps24
  go_wp2_with fail
  refine CN.out.mono ?_
  rintro e w1 ⟨rfl, hg⟩
  replace H := Lib.hid (H.out.grow (hA.sep ((RflS.foot _ _ _ _ _).sep hB)) hg)
  have HK : Hid (Hold w0 w1 L (Sep (RflS g f.room f.n v0 lm0) (Sep (IntO (.slice none 0 0) []) (Sep A B)))) := Lib.hid (H.out.rot.beside2 (RflS.foot _ _ _ _ _) FAB.out (Grow.G.refl _) (IntO.nil w1) (fun k hk => hk.elim))
  clear hg H CN
  go_wp2_with fail
  have HM1 : Hid (lm0.map HM.h = f.l ++ newP rv c f.n 0) := Lib.hid (by rw [HM0.out.1]; exact (List.append_nil _).symm)
  go_loopw [10, 12] (fun mv nv wr => ∃ (j : Nat) (v : Value) (am : Option Addr) (cm : Nat) (lm : List HM), j ≤ K ∧ mv = .slice am j cm ∧ nv = .int .i64 ((CT : Int) + (j : Int)) ∧ lm.length = lm0.length + j ∧ Hid (lm.map HM.h = f.l ++ newP rv c f.n j) ∧ Hid (Hold w0 wr L (Sep (RflS g f.room (f.n + (j : Int)) v lm) (Sep (IntO (.slice am j cm) (idsP f.n j)) (Sep A B))))) (fun _ nv _ => CT + K - (_root_.Go.RowKit.intOf nv).toNat)
  case atStart => exact ⟨0, v0, none, 0, lm0, by omega, rfl, by simp, rfl, HM1, Lib.hid (by rw [show f.n + ((0 : Nat) : Int) = f.n by simp]; exact HK.out)⟩
  case round =>
    clear HK HM1
    obtain ⟨j, v, am, cm, lm, hj, rfl, rfl, hll, HM1, HK⟩ := hrel
    obtain ⟨F2, hS⟩ := hold_S (A := IntO (.slice am j cm) (idsP f.n j)) HK.out.rot
    obtain ⟨a, c2, rfl⟩ := hS.sl
    have cg2 : wr.cell? ⟨g, 2, none⟩ = some (.slice a lm.length c2) := (hS.hb.cell 2).trans rfl
    have cg0 : wr.cell? ⟨g, 0, none⟩ = some (.int .i64 f.room) := (hS.hb.cell 0).trans rfl
    have KC := Lib.hid (fun (w' : World) (h : Chg (fun _ => False) wr w') => (⟨h.cell cg2 id, h.cell cg0 id, trivial⟩ : w'.cell? ⟨g, 2, none⟩ = some (.slice a lm.length c2) ∧ w'.cell? ⟨g, 0, none⟩ = some (.int .i64 f.room) ∧ True))
    have hj1 : IntKind.i64.wrap ((CT : Int) + (j : Int) + 1) = (CT : Int) + (j : Int) + 1 := IntWalk.i64_in _ ⟨by omega, by omega⟩
    have FS := Lib.hid (fun n v lm => RflS.foot g f.room n v lm)
    have FI := Lib.hid (IntO.foot (.slice am j cm) (idsP f.n j))
    by_cases hlt : j < K
    · have q1 : (CT : Int) + (j : Int) < want := by omega
      have d1 : decide ((CT : Int) + (j : Int) < want) = true := decide_eq_true q1
      have q2 : (lm.length : Int) < f.room := by omega
      have d2 : decide ((lm.length : Int) < f.room) = true := decide_eq_true q2
      have HLL := Lib.hid hll
      have hl40 : lm.length ≤ 40 := by omega
      clear cg2 cg0 hS hll
      go_wp2_with fail
      refine wp_spec (fun a0 A W => ∃ x17 x18 x19 x20 x21 x22 x23 x24 x25 x26 x27 x28 x29 x30 : Value, A = (((((((((((((((a0.put (some 17) x17).put (some 18) x18).put (some 19) x19).put (some 20) x20).put (some 21) x21).put (some 22) x22).put (some 23) x23).put (some 24) x24).put (some 25) x25).put (some 26) x26).put (some 27) x27).put (some 28) x28).put (some 29) x29).put (some 30) x30).put (some 31) (.bool true)) ∧ Grow.G wr W) ?_ ?_
      all_goals simp only [Act.put, L0, L1, L2]
      ·
        refine Evo2.start' (ℓ := none) (S := Chg (fun _ => False)) (E := Grow.G) (by kernel_rfl) ⟨Chg.pre _, by decide +kernel, (by intro c a d v w h; cases d <;> exact h), by decide +kernel⟩ (fun ok => ?_)
        refine Evo2.va ok 0 _ _ ?_
        refine Evo2.va ok 1 _ _ ?_
        refine Evo2.va ok 2 _ _ ?_
        refine Evo2.va ok 3 _ _ ?_
        first | (refine Evo2.va ok 4 _ _ ?_) | (refine Evo2.vi ok 4 _ ?_)
        first | (refine Evo2.va ok 5 _ _ ?_) | (refine Evo2.vi ok 5 _ ?_)
        first | (refine Evo2.va ok 6 _ _ ?_) | (refine Evo2.vi ok 6 _ ?_)
        first | (refine Evo2.vl ok 7 KC.out (Chg.refl (fun _ => False) _) _ _ ?_) | (refine Evo2.va ok 7 _ _ ?_) | (refine Evo2.vi ok 7 _ ?_)
        first | (refine Evo2.va ok 8 _ _ ?_) | (refine Evo2.vi ok 8 _ ?_)
        first | (refine Evo2.va ok 9 _ _ ?_) | (refine Evo2.vi ok 9 _ ?_)
        first | (refine Evo2.va ok 10 _ _ ?_) | (refine Evo2.vi ok 10 _ ?_)
        first | (refine Evo2.va ok 11 _ _ ?_) | (refine Evo2.vi ok 11 _ ?_)
        first | (refine Evo2.vl ok 12 KC.out (Chg.refl (fun _ => False) _) _ _ ?_) | (refine Evo2.va ok 12 _ _ ?_) | (refine Evo2.vi ok 12 _ ?_)
        first | (refine Evo2.va ok 13 _ _ ?_) | (refine Evo2.vi ok 13 _ ?_)
        refine Evo2.va ok 14 _ _ ?_
        refine Evo2.done (by decide +kernel) (fun wz gz => ?_)
        have AZ := Chg.trans (Chg.refl (fun _ => False) _) (Chg.grow gz)
        dsimp only [PostN] 
        (repeat apply Exists.intro) 
        exact ⟨rfl, AZ.toGrow (fun _ _ => id)⟩
      ·
        rintro A W2 ⟨x17, x18, x19, x20, x21, x22, x23, x24, x25, x26, x27, x28, x29, x30, rfl, hg2⟩
        replace HK := Lib.hid (HK.out.grow ((FS.out _ _ _).sep (FI.out.sep FAB.out)) hg2)
        clear KC hg2 d1 d2 q1
        obtain ⟨F2, hS⟩ := hold_S (A := IntO (.slice am j cm) (idsP f.n j)) HK.out.rot
        have cg1 : W2.cell? ⟨g, 1, none⟩ = some (.int .i64 (f.n + (j : Int))) := (hS.hb.cell 1).trans rfl
        have hgl := hS.hb.lt
        have wn1 : IntKind.i64.wrap (f.n + (j : Int) + 1) = f.n + (j : Int) + 1 := IntWalk.i64_in _ ⟨by omega, by omega⟩
        have HB1 : Hid (Hold w0 W2 L (Sep (BlkF g [.int .i64 f.room, .int .i64 (f.n + (j : Int)), .slice a lm.length c2] rflT) (Sep (Sep (RowF 0 heldPT 1 (.slice a lm.length c2) lm.length (hptrs lm)) (SepL HdF lm)) (Sep (IntO (.slice am j cm) (idsP f.n j)) (Sep A B))))) := Lib.hid (HK.out.map fun F h => Sep.assoc h)
        have FX := Lib.hid (((RowF.foot 0 heldPT 1 (.slice a lm.length c2) lm.length (hptrs lm)).sep (SepL.foot HdF.foot lm)).sep (FI.out.sep FAB.out))
        clear hS HK
        go_wp2_with (refine Hold.setB (t := 3) FX.out rfl rfl rfl rfl (vs := [.int .i64 (f.n + (j : Int) + 1)]) rfl (n := 1) (by kernel_rfl) HB1.out rfl (by simp) rfl ?_; intro W8 H8)
        refine Stay.go ?_
        have HK : Hid (Hold w0 W8 L (Sep (RflS g f.room (f.n + (j : Int) + 1) (.slice a lm.length c2) lm) (Sep (IntO (.slice am j cm) (idsP f.n j)) (Sep A B)))) := Lib.hid ((show Hold w0 W8 L (Sep (BlkF g [.int .i64 f.room, .int .i64 (f.n + (j : Int) + 1), .slice a lm.length c2] rflT) _) from (by simpa using H8)).map fun F h => Sep.assoc' h)
        clear H8 HB1 cg1 hgl FX
        obtain ⟨F2, hS⟩ := hold_S (A := IntO (.slice am j cm) (idsP f.n j)) HK.out.rot
        have cg1 : W8.cell? ⟨g, 1, none⟩ = some (.int .i64 (f.n + (j : Int) + 1)) := (hS.hb.cell 1).trans rfl
        have cg2 : W8.cell? ⟨g, 2, none⟩ = some (.slice a lm.length c2) := (hS.hb.cell 2).trans rfl
        have hgl := hS.hb.lt
        have HNG : Hid (¬ ((Value.slice a lm.length c2).ownBlock = some g)) := Lib.hid (fun q => own_blk_types hS.row hS.hb (by decide) q)
        have HGV : Hid (∀ j, (Value.slice a lm.length c2).ownBlock = some j → j < W8.heap.size) := Lib.hid (fun j hj => (hS.row.lt j hj).2)
        have BG := Lib.hid hS.hb
        have HR := Lib.hid hS.row
        have KC := Lib.hid (fun (w' : World) (h : Chg (fun j => (Value.slice a lm.length c2).ownBlock = some j) W8 w') => (⟨h.cell cg2 HNG.out, h.cell cg1 HNG.out, trivial⟩ : w'.cell? ⟨g, 2, none⟩ = some (.slice a lm.length c2) ∧ w'.cell? ⟨g, 1, none⟩ = some (.int .i64 (f.n + (j : Int) + 1)) ∧ True))
        clear hS cg1 cg2
        go_wp2_with fail
        refine Evo2.start' (ℓ := some 18) (S := Chg (fun j => (Value.slice a lm.length c2).ownBlock = some j)) (E := Grow.G) (by kernel_rfl) ⟨Chg.pre _, by decide +kernel, (by intro c a d v w h; cases d <;> exact h), by decide +kernel⟩ (fun ok => ?_)
        refine Evo2.va ok 0 _ _ ?_
        refine Evo2.va ok 1 _ _ ?_
        refine Evo2.va ok 2 _ _ ?_
        refine Evo2.va ok 3 _ _ ?_
        first | (refine Evo2.vl ok 4 KC.out (Chg.refl (fun j => (Value.slice a lm.length c2).ownBlock = some j) _) _ _ ?_) | (refine Evo2.va ok 4 _ _ ?_)
        refine Evo2.va ok 5 _ _ ?_
        refine Evo2.va ok 6 _ _ ?_
        refine Evo2.va ok 7 _ _ ?_
        first | (refine Evo2.vl ok 8 KC.out (Chg.refl (fun j => (Value.slice a lm.length c2).ownBlock = some j) _) _ _ ?_) | (refine Evo2.va ok 8 _ _ ?_)
        refine Evo2.va ok 9 _ _ ?_
        refine Evo2.va ok 10 _ _ ?_
        refine Evo2.all [11] (by decide +kernel) rfl ?_
        intro wp1 gp1 iq hq
        simp only [List.mem_cons, List.mem_nil_iff, or_false] at hq
        have AP1 := Chg.trans (Chg.refl (fun j => (Value.slice a lm.length c2).ownBlock = some j) _) (Chg.grow gp1)
        (try replace HR := Lib.hid (own_later HR.out gp1)); (try replace XP := Lib.hid ((RpP.foot _ _).grow XP.out gp1)); (try replace HW := Lib.hid (own_later HW.out gp1)); (try replace BX := Lib.hid (Blk.grow BX.out gp1))
        subst hq
        refine Evo2.enters 42 _ (by rfl) (by rfl) (by go_simp; exact ⟨rfl, rfl⟩) ?_
        refine (rpnew_any c _ ⟨by omega, by omega⟩).mono ?_
        rintro e wc1 ⟨rfl, xp, hg⟩; have XP := Lib.hid xp; replace HR := Lib.hid (own_later HR.out hg); have CH1 := Chg.grow (G := fun j => (Value.slice a lm.length c2).ownBlock = some j) hg
        refine ⟨_, rfl, .inr CH1, ?_⟩
        have AC1 := Chg.trans AP1 CH1
        simp only [Act.put, L0, L1, L2]
        refine Evo2.va ok 12 _ _ ?_
        refine Evo2.all [13] (by decide +kernel) rfl ?_
        intro wp2 gp2 iq hq
        simp only [List.mem_cons, List.mem_nil_iff, or_false] at hq
        have AP2 := Chg.trans AC1 (Chg.grow gp2)
        (try replace HR := Lib.hid (own_later HR.out gp2)); (try replace XP := Lib.hid ((RpP.foot _ _).grow XP.out gp2)); (try replace HW := Lib.hid (own_later HW.out gp2)); (try replace BX := Lib.hid (Blk.grow BX.out gp2))
        subst hq
        refine Evo2.runs (by rfl) (by rfl) (fun K' hK' => ?_)
        (try obtain ⟨q1, q2⟩ := KC.out wp2 AP2)
        go_simp
        (try (simp only [Evo.after_value, Evo.after_skip]))
        refine hK'.out _ _ ?_
        clear hK'
        simp only [Act.put, L0, L1, L2]
        (try clear q1 q2)
        refine ⟨.inr (Chg.alloc (Chg.refl _ _) _), ?_⟩
        generalize hG2 : World.alloc wp2 _ = wg2
        have GG2 : Grow.G wp2 wg2 := hG2 ▸ Grow.G.alloc (Grow.G.refl _) _
        have NC2 := (congrArg (fun W : World => W.heap[wp2.heap.size]?) hG2).symm.trans (MapKept.heap_alloc wp2 _).1
        have NL2 : wp2.heap.size < wg2.heap.size := by rw [← hG2]; simp
        clear hG2
        replace HR := Lib.hid (own_later HR.out GG2); replace XP := Lib.hid ((RpP.foot _ _).grow XP.out GG2)
        refine Evo2.all [14] (by decide +kernel) rfl ?_
        intro wp3 gp3 iq hq
        simp only [List.mem_cons, List.mem_nil_iff, or_false] at hq
        have AP3 := Chg.trans (Chg.trans AP2 (Chg.grow GG2)) (Chg.grow gp3)
        (try replace HR := Lib.hid (own_later HR.out gp3)); (try replace XP := Lib.hid ((RpP.foot _ _).grow XP.out gp3)); (try replace HW := Lib.hid (own_later HW.out gp3)); (try replace BX := Lib.hid (Blk.grow BX.out gp3))
        have NC2 := (gp3.block _ NL2).trans NC2
        have NL2 := Nat.lt_of_lt_of_le NL2 gp3.size
        subst hq
        refine Evo2.runs (by rfl) (by rfl) (fun K' hK' => ?_)
        (try obtain ⟨q1, q2⟩ := KC.out wp3 AP3)
        go_simp
        (try (simp only [Evo.after_value, Evo.after_skip]))
        refine hK'.out _ _ ?_
        clear hK'
        simp only [Act.put, L0, L1, L2]
        (try clear q1 q2)
        refine ⟨.inr (Chg.alloc (Chg.refl _ _) _), ?_⟩
        generalize hG3 : World.alloc wp3 _ = wg3
        have GG3 : Grow.G wp3 wg3 := hG3 ▸ Grow.G.alloc (Grow.G.refl _) _
        have NC2 := (GG3.block _ NL2).trans NC2
        have NL2 := Nat.lt_of_lt_of_le NL2 GG3.size
        have NC3 := (congrArg (fun W : World => W.heap[wp3.heap.size]?) hG3).symm.trans (MapKept.heap_alloc wp3 _).1
        have NL3 : wp3.heap.size < wg3.heap.size := by rw [← hG3]; simp
        clear hG3
        replace HR := Lib.hid (own_later HR.out GG3); replace XP := Lib.hid ((RpP.foot _ _).grow XP.out GG3)
        refine Evo2.all [15] (by decide +kernel) rfl ?_
        intro wp4 gp4 iq hq
        simp only [List.mem_cons, List.mem_nil_iff, or_false] at hq
        have AP4 := Chg.trans (Chg.trans AP3 (Chg.grow GG3)) (Chg.grow gp4)
        (try replace HR := Lib.hid (own_later HR.out gp4)); (try replace XP := Lib.hid ((RpP.foot _ _).grow XP.out gp4)); (try replace HW := Lib.hid (own_later HW.out gp4)); (try replace BX := Lib.hid (Blk.grow BX.out gp4))
        have NC2 := (gp4.block _ NL2).trans NC2
        have NL2 := Nat.lt_of_lt_of_le NL2 gp4.size
        have NC3 := (gp4.block _ NL3).trans NC3
        have NL3 := Nat.lt_of_lt_of_le NL3 gp4.size
        subst hq
        refine Fr.own_src (by rfl) (by rfl) (Operand.tmp 43) (Operand.tmp 53) 77 (by rfl) 0 heldPT i0 (.pointer none) 1 8 Try.underlying77 HI.out HZ0.out HZ1.out HZ2.out rfl (by decide) _ _ _ (by rfl) HR.out _ 1 _ [pz wp2.heap.size] (by rfl) (by rfl) (src_blk (cs := [pz wp2.heap.size]) NC3) (by simp [Value.oneCell']) (by unfold maxLen; omega) (by omega) (Nat.zero_le _) ?_
        intro vw4 wc4 OW4 fr4
        have CH4 : Chg (fun j => (Value.slice a lm.length c2).ownBlock = some j) _ _ := Chg.ofFr fr4; have HNX : Hid (∀ j, W8.heap.size ≤ j → ¬ ((Value.slice a lm.length c2).ownBlock = some j)) := Lib.hid (fun j hj q => by have := HGV.out j q; omega); have BX : Hid (Blk wc4 wp2.heap.size #[.int .i64 (f.n + (j : Int) + 1), .string rv, pz wp1.heap.size] heldT) := Lib.hid (Chg.blk CH4 NC2 (HNX.out _ AP2.size)); replace XP := Lib.hid ((RpP.foot _ _).frame XP.out CH4 (fun j hj => HNX.out _ (by have hj : j = _ := hj; have := AP1.size; omega))); have HW := Lib.hid OW4; have HV : Hid (∀ j, vw4.ownBlock = some j → (Value.slice a lm.length c2).ownBlock = some j ∨ W8.heap.size ≤ j) := Lib.hid (fun j hj => by rcases fr4.o with q | ⟨z, q, hz⟩; exact .inl (by rw [← q]; exact hj); exact .inr (by have e2 : z = j := Option.some.inj (q.symm.trans hj); have := AP4.size; omega)); have PW : Hid (wp1.heap.size + 1 ≤ wp2.heap.size) := Lib.hid (by obtain ⟨u, hu, _⟩ := xp; have := hu.hb.lt; have := gp2.size; omega); obtain ⟨va, vcc, rfl⟩ := own_shape OW4
        refine ⟨.inr CH4, ?_⟩
        have AC4 := Chg.trans AP4 CH4
        simp only [Act.put, L0, L1, L2]
        refine Evo2.va ok 16 _ _ ?_
        refine Evo2.va ok 17 _ _ ?_
        refine Evo2.all [18] (by decide +kernel) rfl ?_
        intro wp5 gp5 iq hq
        simp only [List.mem_cons, List.mem_nil_iff, or_false] at hq
        have AP5 := Chg.trans AC4 (Chg.grow gp5)
        (try replace HR := Lib.hid (own_later HR.out gp5)); (try replace XP := Lib.hid ((RpP.foot _ _).grow XP.out gp5)); (try replace HW := Lib.hid (own_later HW.out gp5)); (try replace BX := Lib.hid (Blk.grow BX.out gp5))
        subst hq
        refine Evo2.runs (by rfl) (by rfl) (fun K' hK' => ?_)
        (try obtain ⟨q1, q2⟩ := KC.out wp5 AP5)
        have BQ := BG.out.chg AP5 HNG.out; have f0 := BQ.free 2; have e0 := (BQ.cell 2).trans rfl; have gl := BQ.lt
        go_simp
        (try (simp only [Evo.after_value, Evo.after_skip]))
        refine hK'.out _ _ ?_
        clear hK'
        simp only [Act.put, L0, L1, L2]
        (try clear f0 e0 gl BQ)
        (try clear q1 q2)
        refine ⟨.inl (by first | rfl | trivial), ?_⟩
        refine Evo2.done (by decide +kernel) (fun wz gz => ?_)
        have BQ := BG.out.chg AP5 HNG.out
        have CZ : Chg (fun k => k = g) wp5 wz := (Chg.setCell (G := fun k => k = g) (Chg.refl _ wp5) (fun _ => rfl) 2 (.slice va (lm.length + 1) vcc)).trans (Chg.grow gz)
        have s1 := AP1.size; have s2 := AP2.size; have s3 := PW.out
        have hg' : Blk wz g ([.int .i64 f.room, .int .i64 (f.n + (j : Int) + 1), .slice va (lm.length + 1) vcc] : List Value).toArray rflT := by have := (BQ.set 2 (.slice va (lm.length + 1) vcc)).grow gz; simpa using this
        have hm' : Blk wz wp2.heap.size #[.int .i64 (f.n + (j : Int) + 1), .string rv, pz wp1.heap.size] heldT := BX.out.chg CZ (by omega)
        have hp' : RpP wp1.heap.size (Pd.new c) wz (fun k => k = wp1.heap.size) := (RpP.foot _ _).frame XP.out CZ (fun i hi (q : i = g) => by have hi : i = wp1.heap.size := hi; omega)
        have hr' : wz.ownsRow 0 heldPT 1 (.slice va (lm.length + 1) vcc) (lm.length + 1) (hptrs lm ++ [pz wp2.heap.size]) := CZ.own HW.out (fun i hi (q : i = g) => own_blk_types HW.out BQ (by decide) (q ▸ hi))
        have cc : Chg (fun k => k = g ∨ (Value.slice a lm.length c2).ownBlock = some k) W8 wz := (AP5.mono (fun _ _ h => .inr h)).trans (CZ.mono (fun _ _ h => .inl h))
        obtain ⟨m', hm9⟩ : ∃ m' : HM, m' = ⟨⟨f.n + (j : Int) + 1, rv, Pd.new c⟩, wp2.heap.size, wp1.heap.size⟩ := ⟨_, rfl⟩
        have HK2 : Hid (Hold w0 wz L (Sep (RflS g f.room (f.n + (j : Int) + 1) (.slice va (lm.length + 1) vcc) (lm ++ [m'])) (Sep (IntO (.slice am j cm) (idsP f.n j)) (Sep A B)))) := Lib.hid (HK.out.step (Sep.stepL (FI.out.sep FAB.out) fun F h => by subst hm9; exact RflS.grown h (m' := ⟨⟨f.n + (j : Int) + 1, rv, Pd.new c⟩, wp2.heap.size, wp1.heap.size⟩) hg' hm' s2 hp' s1 (by show wp2.heap.size ≠ wp1.heap.size; omega) hr' HV.out cc))
        have HM2 : Hid ((lm ++ [m']).map HM.h = f.l ++ newP rv c f.n (j + 1)) := Lib.hid (by
          rw [List.map_append, HM1.out, newP_snoc, hm9, ← List.append_assoc, show f.n + (j : Int) + 1 = f.n + 1 + (j : Int) by omega]; rfl)
        have cg1 : wz.cell? ⟨g, 1, none⟩ = some (.int .i64 (f.n + (j : Int) + 1)) := (hg'.cell 1).trans rfl
        have hglz := hg'.lt
        have hids : Hid (idsP f.n (j + 1) = idsP f.n j ++ [f.n + (j : Int) + 1]) := Lib.hid (by rw [idsP_snoc, show f.n + (j : Int) + 1 = f.n + 1 + (j : Int) by omega])
        have hil : (idsP f.n j).length = j := idsP_len _ _
        clear BQ CZ hg' hm' hp' hr' cc HK HV HW XP BX BG HR KC gz AP5 s1 s2 s3 PW HNX xp HGV HNG hm9 HM1 hgl
        have HA := Lib.hid (HK2.out.grow ((FS.out _ _ _).sep (FI.out.sep FAB.out)) (Grow.G.alloc (Grow.G.refl _) (.cells #[.int .i64 (f.n + (j : Int) + 1)] 3)))
        have SR := Lib.hid (blk_src (l := [f.n + (j : Int) + 1]) (Blk.new wz _ 3))
        go_wp2_with (refine wpList_appI (ys := [f.n + (j : Int) + 1]) rfl (.tmp 57) (.tmp 62) rfl HA.out (FS.out _ _ _) FAB.out rfl rfl rfl SR.out (by simp; omega) ?_; intro a10 c10 w10 H10)
        refine Stay.go ?_
        have H11 := Lib.hid H10
        clear H10 HA SR HK2 cg1 hglz
        go_wp2_with fail
        go_roundw
        case rel => exact ⟨j + 1, .slice va (lm.length + 1) vcc, a10, c10, lm ++ [m'], by omega, rfl, by go_num, by rw [List.length_append, List.length_singleton, HLL.out]; omega, HM2, Lib.hid (by rw [hids.out]; have := H11.out; rw [List.length_append, List.length_singleton, hil] at this; rw [show f.n + ((j + 1 : Nat) : Int) = f.n + (j : Int) + 1 by omega]; exact this)⟩
        case measure => simp [_root_.Go.RowKit.intOf]; omega
    · have hjK : j = K := by omega
      have hcase : ¬ ((CT : Int) + (j : Int) < want) ∨ ((CT : Int) + (j : Int) < want ∧ ¬ ((lm.length : Int) < f.room)) := by omega
      have hle : ¬ (want < (CT : Int) + (j : Int)) := by omega
      have hl40 : lm.length ≤ 40 := by omega
      have halive : lm.filter (fun m => m.h.alive) = lm := List.filter_eq_self.2 fun m hm => by
        refine alive_iff.2 ?_
        have h2 := HM0.out.2.2.1
        rw [HM0.out.2.2.2] at h2
        refine (h2.l.pod m.h ?_).2.1
        show m.h ∈ f.l ++ newP rv c f.n K
        rw [← hjK, ← HM1.out]
        exact List.mem_map_of_mem hm
      have HAL := Lib.hid halive
      have HL2 : Hid (lm.map HM.h = f'.l ∧ f'.room = f.room ∧ f'.n = f.n + (j : Int) ∧ tl = idsP f.n j) := Lib.hid ⟨by rw [HM1.out, HM0.out.2.2.2, hjK], by rw [HM0.out.2.2.2], by rw [HM0.out.2.2.2, hjK], by rw [hjK]; exact HTL.out⟩
      clear cg2 cg0 hS hll hjK halive
      go_wp2_with fail
      refine wp_spec (fun a0 A W => ∃ x17 x18 x19 x20 x21 x22 x23 x24 x25 x26 x27 x28 x29 x30 : Value, A = (((((((((((((((a0.put (some 17) x17).put (some 18) x18).put (some 19) x19).put (some 20) x20).put (some 21) x21).put (some 22) x22).put (some 23) x23).put (some 24) x24).put (some 25) x25).put (some 26) x26).put (some 27) x27).put (some 28) x28).put (some 29) x29).put (some 30) x30).put (some 31) (.bool false)) ∧ Grow.G wr W) ?_ ?_
      all_goals simp only [Act.put, L0, L1, L2]
      ·
        rcases hcase with q1 | ⟨q1, q2⟩
        · have d1 : decide ((CT : Int) + (j : Int) < want) = false := decide_eq_false (by omega)
          refine Evo2.start' (ℓ := none) (S := Chg (fun _ => False)) (E := Grow.G) (by kernel_rfl) ⟨Chg.pre _, by decide +kernel, (by intro c a d v w h; cases d <;> exact h), by decide +kernel⟩ (fun ok => ?_)
          refine Evo2.va ok 0 _ _ ?_
          refine Evo2.va ok 1 _ _ ?_
          refine Evo2.va ok 2 _ _ ?_
          refine Evo2.va ok 3 _ _ ?_
          first | (refine Evo2.va ok 4 _ _ ?_) | (refine Evo2.vi ok 4 _ ?_)
          first | (refine Evo2.va ok 5 _ _ ?_) | (refine Evo2.vi ok 5 _ ?_)
          first | (refine Evo2.va ok 6 _ _ ?_) | (refine Evo2.vi ok 6 _ ?_)
          first | (refine Evo2.vl ok 7 KC.out (Chg.refl (fun _ => False) _) _ _ ?_) | (refine Evo2.va ok 7 _ _ ?_) | (refine Evo2.vi ok 7 _ ?_)
          first | (refine Evo2.va ok 8 _ _ ?_) | (refine Evo2.vi ok 8 _ ?_)
          first | (refine Evo2.va ok 9 _ _ ?_) | (refine Evo2.vi ok 9 _ ?_)
          first | (refine Evo2.va ok 10 _ _ ?_) | (refine Evo2.vi ok 10 _ ?_)
          first | (refine Evo2.va ok 11 _ _ ?_) | (refine Evo2.vi ok 11 _ ?_)
          first | (refine Evo2.vl ok 12 KC.out (Chg.refl (fun _ => False) _) _ _ ?_) | (refine Evo2.va ok 12 _ _ ?_) | (refine Evo2.vi ok 12 _ ?_)
          first | (refine Evo2.va ok 13 _ _ ?_) | (refine Evo2.vi ok 13 _ ?_)
          refine Evo2.va ok 14 _ _ ?_
          refine Evo2.done (by decide +kernel) (fun wz gz => ?_)
          have AZ := Chg.trans (Chg.refl (fun _ => False) _) (Chg.grow gz)
          dsimp only [PostN] 
          (repeat apply Exists.intro) 
          exact ⟨rfl, AZ.toGrow (fun _ _ => id)⟩
        · have d1 : decide ((CT : Int) + (j : Int) < want) = true := decide_eq_true q1
          have d2 : decide ((lm.length : Int) < f.room) = false := decide_eq_false (by omega)
          refine Evo2.start' (ℓ := none) (S := Chg (fun _ => False)) (E := Grow.G) (by kernel_rfl) ⟨Chg.pre _, by decide +kernel, (by intro c a d v w h; cases d <;> exact h), by decide +kernel⟩ (fun ok => ?_)
          refine Evo2.va ok 0 _ _ ?_
          refine Evo2.va ok 1 _ _ ?_
          refine Evo2.va ok 2 _ _ ?_
          refine Evo2.va ok 3 _ _ ?_
          first | (refine Evo2.va ok 4 _ _ ?_) | (refine Evo2.vi ok 4 _ ?_)
          first | (refine Evo2.va ok 5 _ _ ?_) | (refine Evo2.vi ok 5 _ ?_)
          first | (refine Evo2.va ok 6 _ _ ?_) | (refine Evo2.vi ok 6 _ ?_)
          first | (refine Evo2.vl ok 7 KC.out (Chg.refl (fun _ => False) _) _ _ ?_) | (refine Evo2.va ok 7 _ _ ?_) | (refine Evo2.vi ok 7 _ ?_)
          first | (refine Evo2.va ok 8 _ _ ?_) | (refine Evo2.vi ok 8 _ ?_)
          first | (refine Evo2.va ok 9 _ _ ?_) | (refine Evo2.vi ok 9 _ ?_)
          first | (refine Evo2.va ok 10 _ _ ?_) | (refine Evo2.vi ok 10 _ ?_)
          first | (refine Evo2.va ok 11 _ _ ?_) | (refine Evo2.vi ok 11 _ ?_)
          first | (refine Evo2.vl ok 12 KC.out (Chg.refl (fun _ => False) _) _ _ ?_) | (refine Evo2.va ok 12 _ _ ?_) | (refine Evo2.vi ok 12 _ ?_)
          first | (refine Evo2.va ok 13 _ _ ?_) | (refine Evo2.vi ok 13 _ ?_)
          refine Evo2.va ok 14 _ _ ?_
          refine Evo2.done (by decide +kernel) (fun wz gz => ?_)
          have AZ := Chg.trans (Chg.refl (fun _ => False) _) (Chg.grow gz)
          dsimp only [PostN] 
          (repeat apply Exists.intro) 
          exact ⟨rfl, AZ.toGrow (fun _ _ => id)⟩
      ·
        rintro A W2 ⟨x17, x18, x19, x20, x21, x22, x23, x24, x25, x26, x27, x28, x29, x30, rfl, hg2⟩
        replace HK := Lib.hid (HK.out.grow ((FS.out _ _ _).sep (FI.out.sep FAB.out)) hg2)
        have d3 : decide (want < (CT : Int) + (j : Int)) = false := decide_eq_false (by omega)
        clear KC hg2 hcase
        go_wp2_with fail
        go_loopw [11, 12] (fun gv nv W => gv = .slice none 0 0 ∧ nv = .int .i64 ((CT : Int) + (j : Int)) ∧ W = W2) (fun _ _ _ => 0)
        case atStart => exact ⟨rfl, rfl, rfl⟩
        case round =>
        obtain ⟨rfl, rfl, rfl⟩ := hrel
        go_wp2_with fail
        refine (hold_rlsweep (A := IntO (.slice am j cm) (idsP f.n j)) (B := Sep A B) HK.out.rot FI.out FAB.out (by omega)).mono ?_
        rintro e w3 ⟨u, rfl, hh⟩
        have HF : Hid (Hold w0 w3 L (Sep A (Sep (RflP g f') (Sep (IntO (.slice am j cm) tl) B)))) := Lib.hid (by
          rw [HAL.out] at hh
          have h2 : Hold w0 w3 L (Sep A (Sep (RflS g f.room (f.n + (j : Int)) u lm) (Sep (IntO (.slice am j cm) (idsP f.n j)) B))) := (hh.rot.map fun F h => h.under fun F h => h.rot).rot
          rw [HL2.out.2.2.2]
          exact hold_rlclose (f := f') (by rw [HL2.out.2.1, HL2.out.2.2.1]; exact h2) HL2.out.1 HM0.out.2.2.1)
        clear hh
        go_wp2_with fail
        go_returns
        exact ⟨_, _, rfl, HF.out⟩
end Go.Proofs.Ytfnpghekkhnjkaa

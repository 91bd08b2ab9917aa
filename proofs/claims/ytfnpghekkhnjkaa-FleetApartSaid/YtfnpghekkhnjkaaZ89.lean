/- My own texts FpK, laid in one file. -/
import Derived.Test.YtfnpghekkhnjkaaZ88

/- The program's fleet: Take. -/
namespace Go.Proofs.Ytfnpghekkhnjkaa
set_option maxRecDepth 100000
set_option linter.unusedVariables false
set_option linter.unusedSimpArgs false
set_option linter.unnecessarySimpa false
open Go.RowKit Go.MapV Go.Maps Go.Args

theorem look_len (x : Po) : x.look.length = 3 := rfl
theorem own_looks {w : World} {base c : Nat} {a : Option Addr} {T : TypeId} {l : List Po} (h : w.ownsRow base T 3 (.slice a l.length c) l.length (looks l)) :
    l = [] ∨ ∃ g, a = some ⟨g, 0, none⟩ ∧ l.length ≤ c ∧ g < w.heap.size ∧ ∀ k p, l[k]? = some p → w.cell? ⟨g, k * 3, none⟩ = some (.int .i64 p.id) ∧ w.cell? ⟨g, k * 3 + 1, none⟩ = some (.int .i64 p.p.st) ∧ w.cell? ⟨g, k * 3 + 2, none⟩ = some (.int .i64 p.load) := by
  rcases h.2 with ⟨h1, h2⟩ | ⟨g, cap, cur, hv, hb, hg, hn, hm, hs, ht⟩
  · exact .inl (List.eq_nil_of_length_eq_zero h2)
  · injection hv with e1 e2 e3
    subst e1 e3
    refine .inr ⟨g, rfl, hn, Chg.lt_of hg, fun k p hk => ⟨?_, ?_, ?_⟩⟩
    · exact own_cell h (flat_at (cells := Po.look) (n := 3) (j := 0) look_len (x := p) (v := .int .i64 p.id) rfl hk)
    · exact own_cell h (flat_at (cells := Po.look) (n := 3) (j := 1) look_len (x := p) (v := .int .i64 p.p.st) rfl hk)
    · exact own_cell h (flat_at (cells := Po.look) (n := 3) (j := 2) look_len (x := p) (v := .int .i64 p.load) rfl hk)
section
variable {w0 w w' : World} {L : List MBox} {A B : Hp} {g : Nat} {f f' : Fl} {r n : Int} {mp ma : Nat} {lm p q : List PM} {m : PM} {ks : List Int} {av : Int → Value} {er : Int} {bo : Bool} {v : Value} {s : List Po}
/-- A row of what pods tell. -/
abbrev LkF (v : Value) (s : List Po) : Hp := RowF 0 lookT 3 v s.length (looks s)
theorem hold_lkR (h : Hold w0 w L (Sep A (Sep (LkF v s) B))) : w.ownsRow 0 lookT 3 v s.length (looks s) := by
  obtain ⟨F, ⟨F1, F2, _, ⟨F3, F4, ho, _⟩, _⟩, _⟩ := h.st
  exact ho.1
theorem hold_lk (h : Hold w0 w L (Sep A B)) (hA : Foot A) (hB : Foot B) (g : Grow.G w w') (ho : w'.ownsRow w.heap.size lookT 3 v s.length (looks s)) : Hold w0 w' L (Sep A (Sep (LkF v s) B)) :=
  h.beside2 hA hB g (F₁ := fun k => v.ownBlock = some k) ⟨own_base ho (Nat.zero_le _), fun k => Iff.rfl⟩ (fun k hk => (ho.lt k hk).1)
theorem take_cand {p : Pd} {x : Int} (hx : x ∉ p.l) : p.take x = 0 ↔ p.st = 2 ∧ (p.l.length : Int) < p.c := by
  unfold Pd.take
  split
  · rename_i h
    split
    · rename_i h2; exact ⟨fun e => (by cases e), fun e => by have := e.2; omega⟩
    · rename_i h2; exact ⟨fun _ => ⟨h, by omega⟩, fun _ => rfl⟩
  · rename_i h; exact ⟨fun e => (by cases e), fun e => absurd e.1 h⟩
set_option maxHeartbeats 16000000 in
theorem hold_ftake (h : Hold w0 w L (Sep (FlP g f) B)) (hB : Foot B) (rv : ByteArray) (x : Int) (hs : rv.size ≤ 100) (hx : wf64 x) (h1 : f.take rv x = er := by rfl) (h2 : f.takeB rv x = bo := by rfl) (h3 : f.aftTake rv x = f' := by rfl) :
    Calls Try.prog 20 #[pz g, .string rv, .int .i64 x] w fun e w' => e = .returned (.tuple #[.int .i64 er, .bool bo]) ∧ Hold w0 w' L (Sep (FlP g f') B) := by
  obtain ⟨mp, ma, lm, e1, ok, HS⟩ := hold_flopen h
  obtain ⟨F, hF⟩ := hold_FS HS
  have c3 := hF.c3
  have hl := hF.hb.lt
  have HMA := Lib.hid (hold_AS HS).mapN
  have HKX := Lib.hid (keysI x hx)
  have FB := Lib.hid hB
  cases hw : whereP f.l x with
  | some h0 =>
    have her : er = 0 := by rw [← h1]; unfold Fl.take Fl.takeH; rw [hw]
    have hbo : bo = false := by rw [← h2]; unfold Fl.takeB Fl.takeH; rw [hw]; rfl
    have hf' : f' = f := by rw [← h3]; unfold Fl.aftTake Fl.takeH; rw [hw]
    subst her hbo hf'
    have HA : Hid ((onZ (keysM (reqsP f'.l) (whereV f'.l)) (intK x)).getD (.int .i64 0) = .int .i64 h0.id) := Lib.hid (by rw [at_at]; exact where_some hw)
    have HI : Hid ((onZ (keysM (reqsP f'.l) (whereV f'.l)) (intK x)).isSome = true) := Lib.hid (by rw [at_is, hw]; rfl)
    have H := Lib.hid h
    clear h hF HS hw h1 h2 h3
    go_enter Try.func20, Try.ntmps20
    go_wp2_with (at_lookup; refine look2v (.int .i64 h0.id) true rfl rfl keyedZ Try.underlying60 zeroI rfl HMA.out rfl HKX.out HA.out HI.out ?_)
    go_returns
    exact ⟨rfl, H.out⟩
  | none =>
    have hTH : f.takeH rv x = pickP f.l rv := by unfold Fl.takeH; rw [hw]
    have hno := whereP_none hw
    have HA : Hid ((onZ (keysM (reqsP f.l) (whereV f.l)) (intK x)).getD (.int .i64 0) = .int .i64 0) := Lib.hid (by rw [at_at]; unfold whereV; rw [hw])
    have HI : Hid ((onZ (keysM (reqsP f.l) (whereV f.l)) (intK x)).isSome = false) := Lib.hid (by rw [at_is, hw]; rfl)
    have okm : PosOk (lm.map PM.h) := by rw [e1]; exact ok.l
    have hlen : lm.length ≤ 1000 := by
      have := ok.len; have := ok.room
      rw [← e1, List.length_map] at *
      omega
    have hwfm : ∀ m, m ∈ lm → wf64 m.h.id := fun m hm => Fl.wf ok (by rw [← e1]; exact List.mem_map.2 ⟨m, hm, rfl⟩)
    have EN := Lib.hid (each_new g rv)
    have HS1 := Lib.hid HS
    have HR := Lib.hid (And.intro e1 (And.intro ok (And.intro okm (And.intro hTH (And.intro hno (And.intro h1 (And.intro h2 h3)))))))
    have HWM := Lib.hid hwfm
    clear h hF HS hw h1 h2 h3 hTH hno e1 ok okm hwfm
    go_enter Try.func20, Try.ntmps20
    go_wp2_with (at_lookup; refine look2v (.int .i64 0) false rfl rfl keyedZ Try.underlying60 zeroI rfl HMA.out rfl HKX.out HA.out HI.out ?_)
    refine (EN.out w).mono ?_
    rintro e w1 ⟨b1, b2, rfl, hb1, hb2, k1, k2, hg1⟩
    have FS := Lib.hid (FlS.foot g f.room f.n mp ma lm (reqsP f.l) (whereV f.l))
    have H1 := HS1.out.grow (FS.out.sep FB.out) hg1
    obtain ⟨F0, hF1⟩ := hold_FS H1
    have SF := Lib.hid (sortedf_any 38 freeC swoF (enters_of Try.func38 (by kernel_rfl) rfl) freer_any 60 #[pz b1, pz b2] (enters_of Try.func60 (by kernel_rfl) rfl) (fun k => F0 k ∨ k = b1 ∨ k = b2) (eachL (lm.map PM.h) rv) w1
      (fun k hk => by rcases hk with hk | rfl | rfl <;> first | exact hF1.lt _ hk | exact k1.lt | exact k2.lt) (by unfold eachL; exact Nat.le_trans (List.length_filter_le _ _) (by rw [List.length_map]; exact hlen)) (each_seq b1 b2 g rv F0 f.room f.n mp ma lm w1 k1 k2 hF1 HR.out.2.2.1 hlen HWM.out))
    have H1' := Lib.hid H1
    clear H1 hF1 k1 k2 hg1 EN HS1 HMA HKX HA HI hb1 hb2 c3 hl
    go_wp2_with fail
    refine SF.out.mono ?_
    rintro e w2 ⟨v, s, rfl, hp, hsr, ho, hg2⟩
    have H2 := hold_lk H1'.out FS.out FB.out hg2 ho
    obtain ⟨va, vc, rfl⟩ := own_shape ho
    have H3 := Lib.hid H2
    have HP := Lib.hid hp
    have HSR := Lib.hid hsr
    have hsl : s.length ≤ 1000 := by rw [hp.length_eq]; unfold eachL; exact Nat.le_trans (List.length_filter_le _ _) (by rw [List.length_map]; exact hlen)
    clear H2 hp hsr ho hg2 H1' SF
    go_wp2_with fail
    go_loopw [27] (fun i wr => ∃ k : Nat, k ≤ s.length ∧ i = .int .i64 k ∧ Hid (Hold w0 wr L (Sep (FlS g f.room f.n mp ma lm (reqsP f.l) (whereV f.l)) (Sep (LkF (.slice va s.length vc) s) B))) ∧ Hid (∀ y, y ∈ s.take k → ¬ (y.p.st = 2 ∧ (y.load : Int) < y.p.c))) (fun i _ => s.length - (_root_.Go.RowKit.intOf i).toNat)
    case atStart => exact ⟨0, by omega, rfl, H3, Lib.hid (fun y hy => by simp at hy)⟩
    case round =>
      clear H3
      obtain ⟨k, hk, rfl, H, HX⟩ := hrel
      by_cases hlt : k < s.length
      · obtain ⟨y, hy⟩ : ∃ y, s[k]? = some y := ⟨_, List.getElem?_eq_getElem hlt⟩
        obtain ⟨b, rfl, -, hbl, hc⟩ := (own_looks (hold_lkR H.out)).resolve_left (fun e => by rw [e] at hlt; simp at hlt)
        obtain ⟨y0, y1, y2⟩ := hc k y hy
        have hyl : y ∈ lm.map PM.h := (List.mem_filter.1 (HP.out.mem_iff.1 (List.mem_of_getElem? hy))).1
        obtain ⟨m, hm, rfl⟩ := List.mem_map.1 hyl
        have d0 : decide ((k : Int) < (s.length : Int)) = true := decide_eq_true (by omega)
        have hk1 : IntKind.i64.wrap ((k : Int) + 1) = (k : Int) + 1 := IntWalk.i64_in _ ⟨by omega, by omega⟩
        have k1 : (0 : Int) ≤ (k : Int) := by omega
        have k2 : (k : Int) < (s.length : Int) := by omega
        have hms : m ∈ lm := hm
        obtain ⟨e1, ok, okm, hTH, hno, h1, h2, h3⟩ := HR.out
        have hmf : m.h ∈ f.l := by rw [← e1]; exact hyl
        have hxm := hno m.h hmf
        have hfm := findM_at (nodup_ids okm) hms
        have g1 := Grow.G.alloc (Grow.G.refl wr) (.cells #[.int .i64 m.h.id, .int .i64 m.h.p.st, .int .i64 m.h.load] lookT)
        have BN := Blk.new wr #[.int .i64 m.h.id, .int .i64 m.h.p.st, .int .i64 m.h.load] lookT
        have FLK := Lib.hid (RowF.foot 0 lookT 3 (.slice (some ⟨b, 0, none⟩) s.length vc) s.length (looks s))
        have H1 := H.out.grow (FS.out.sep (FLK.out.sep FB.out)) g1
        obtain ⟨p, q, rfl⟩ := List.append_of_mem hms
        have FR := Lib.hid ((FlR.foot g f.room f.n mp ma (idsM (p ++ m :: q)) (ownV (p ++ m :: q)) (p ++ q) (reqsP f.l) (whereV f.l)).sep (FLK.out.sep FB.out))
        obtain ⟨F1, HL1⟩ := (hold_pm H.out).namedL
        have HL0 := HL1.grow (PdP.foot _ _) FR.out g1
        have nb0 : Hid (¬ F1 wr.heap.size) := Lib.hid (fun q => Nat.lt_irrefl _ ((PdP.foot _ _).lt HL1.a _ q))
        obtain ⟨F3, hF3⟩ := hold_FS H1
        have ng : Hid (¬ F1 g) := Lib.hid (HL0.not fun F2 b => (FlR.g b).1)
        have nm : Hid (¬ F1 mp) := Lib.hid (HL0.not fun F2 b => (FlR.g b).2.1)
        have HYS := Lib.hid hy
        have HL := Lib.hid HL0
        have BG := Lib.hid hF3.hb
        have BM := Lib.hid hF3.hm
        have HF1 := Lib.hid H1
        have HWI := Lib.hid (Fl.wf ok hmf)
        have HK := Lib.hid (keysI m.h.id (Fl.wf ok hmf))
        have HV : Hid ((onZ (keysM (idsM (p ++ m :: q)) (ownV (p ++ m :: q))) (intK m.h.id)).getD ownZ = .agg #[.string m.h.rv, pz m.p]) := Lib.hid (by rw [own_at]; unfold ownV; rw [hfm]; rfl)
        have X1 := fld1 m.h.rv (some ⟨m.p, 0, none⟩)
        have HMF := Lib.hid (And.intro hmf hxm)
        have hlg := hF3.hb.lt
        clear hm hms hyl hmf hfm hxm H hc HL0 e1 ok okm hTH hno h1 h2 h3 hy H1 HL1
        go_wp2_with fail
        clear y0 y1 y2
        obtain ⟨W1, hW1⟩ : ∃ W1, W1 = wr.alloc (.cells #[.int .i64 m.h.id, .int .i64 m.h.p.st, .int .i64 m.h.load] lookT) := ⟨_, rfl⟩
        obtain ⟨bo2, hbo2⟩ : ∃ bo2, bo2 = wr.heap.size := ⟨_, rfl⟩
        have nb : Hid (¬ F1 bo2) := by rw [hbo2]; exact nb0
        rw [← hbo2] at BN ⊢
        rw [← hW1] at BN HL BG BM HF1 hF3 ⊢
        have KC := Lib.hid (fun (w' : World) (h : Chg F1 W1 w') => (⟨h.cell hF3.c2 ng.out, h.cell (Blk.at (cs := [Value.int .i64 m.h.id, .int .i64 m.h.p.st, .int .i64 m.h.load]) (k := 0) BN rfl) nb.out, trivial⟩ : w'.cell? ⟨g, 2, none⟩ = some (.map (some mp)) ∧ w'.cell? ⟨bo2, 0, none⟩ = some (.int .i64 m.h.id) ∧ True))
        clear hF3 g1 hW1 hbo2
        by_cases hcd : m.h.p.st = 2 ∧ (m.h.load : Int) < m.h.p.c
        · have HT : Hid (m.h.p.take x = 0) := Lib.hid ((take_cand HMF.out.2).2 hcd)
          refine Evo2.start' (ℓ := none) (S := Chg (F1)) (E := Grow.G) (by kernel_rfl) ⟨Chg.pre _, by decide +kernel, (by intro c a d v w h; cases d <;> exact h), by decide +kernel⟩ (fun ok => ?_)
          refine Evo2.va ok 0 _ _ ?_
          refine Evo2.va ok 1 _ _ ?_
          refine Evo2.va ok 2 _ _ ?_
          first | (refine Evo2.vl ok 3 KC.out (Chg.refl (F1) _) _ _ ?_) | (refine Evo2.va ok 3 _ _ ?_)
          refine Evo2.va ok 4 _ _ ?_
          first | (refine Evo2.vl ok 5 KC.out (Chg.refl (F1) _) _ _ ?_) | (refine Evo2.va ok 5 _ _ ?_)
          first | (refine Evo2.val ok 6 ?_ ?_ ?_; rotate_left; (focus (intro w' hg; refine exec_look1v (.agg #[.string m.h.rv, pz m.p]) (.int .i64 m.h.id) ?_ keyedZ Try.underlying59 zeroOwned (BM.out.chg (Chg.trans (Chg.refl (F1) _) hg) nm.out).mapN HK.out HV.out; (all_goals exact ⟨rfl, rfl, rfl, rfl⟩))); simp only [Act.put, L0, L1, L2]) | (refine Evo2.va ok 6 _ _ ?_)
          refine Evo2.va ok 7 _ _ ?_
          refine Evo2.va ok 8 _ _ ?_
          refine Evo2.all [9] (by decide +kernel) rfl ?_
          intro wp1 gp1 iq hq
          simp only [List.mem_cons, List.mem_nil_iff, or_false] at hq
          have AP1 := Chg.trans (Chg.refl (F1) _) (Chg.grow gp1)
          subst hq
          refine Evo2.enters 39 _ (by rfl) (by rfl) (by go_simp; exact ⟨rfl, rfl⟩) ?_
          refine (((HL.out.grow (PdP.foot _ _) FR.out gp1).call FR.out (ptake_any m.p m.h.p x wp1 F1 (HL.out.grow (PdP.foot _ _) FR.out gp1).a hx))).mono ?_
          rintro e wc1 ⟨rfl, H2, CH1⟩; rw [HT.out]
          refine ⟨_, rfl, .inr CH1, ?_⟩
          have AC1 := Chg.trans AP1 CH1
          simp only [Act.put, L0, L1, L2]
          refine Evo2.va ok 10 _ _ ?_
          refine Evo2.done (by decide +kernel) (fun wz gz => ?_)
          have AZ := Chg.trans AC1 (Chg.grow gz)
          have H3 := Lib.hid (hold_pm' (H2.grow ((PdP.foot _ _).sep FR.out) gz))
          have B2 := BN.chg AZ nb.out
          obtain ⟨F4, hF4⟩ := hold_FS H3.out
          have KC2 := Lib.hid (fun (w' : World) (h : Chg (fun _ => False) wz w') => (⟨h.cell hF4.c3 id, h.cell (Blk.at (cs := [Value.int .i64 m.h.id, .int .i64 m.h.p.st, .int .i64 m.h.load]) (k := 0) B2 rfl) id, trivial⟩ : w'.cell? ⟨g, 3, none⟩ = some (.map (some ma)) ∧ w'.cell? ⟨bo2, 0, none⟩ = some (.int .i64 m.h.id) ∧ True))
          have b20 := Blk.at (cs := [Value.int .i64 m.h.id, .int .i64 m.h.p.st, .int .i64 m.h.load]) (k := 0) B2 rfl
          have b2l := B2.lt
          have MB := Lib.hid (hold_AS H3.out)
          have hnm := Lib.hid (MB.out.2.ne B2)
          obtain ⟨e1, okf, okm, hTH, hno, h1, h2, h3⟩ := HR.out
          have hpk := pick_order (l := f.l) okf.l (by rw [← e1]; exact HP.out) HSR.out HYS.out hcd HX.out
          rw [hpk] at hTH
          have her : er = m.h.id := by rw [← h1]; unfold Fl.take; rw [hTH]
          have hbo : bo = true := by rw [← h2]; unfold Fl.takeB; rw [hTH]; rfl
          have hf' : f' = ⟨f.room, f.n, chgP f.l m.h.id (fun p => p.aftTake x)⟩ := by rw [← h3]; unfold Fl.aftTake; rw [hTH]
          have okt := Fl.ok_take okf rv hx
          rw [h3] at okt
          subst her hbo
          have HQ := Lib.hid (And.intro e1 (And.intro okf (And.intro okm (And.intro hf' okt))))
          have hlen2 : (reqsP f.l).length < maxLen := by
            have q1 := reqs_len okf.l; have q2 := okf.len; have q3 := okf.room
            unfold maxLen; omega
          obtain ⟨v', hv'⟩ : ∃ v' : Int → Value, v' = fun y => if y = x then .int .i64 m.h.id else whereV f.l y := ⟨_, rfl⟩
          have HV1 : Hid (v' x = .int .i64 m.h.id) := Lib.hid (by rw [hv']; exact if_pos rfl)
          have HV2 : Hid (∀ y, y ≠ x → v' y = whereV f.l y) := Lib.hid (fun y hy => by rw [hv']; exact if_neg hy)
          have hxk : x ∉ reqsP f.l := fun q => by obtain ⟨h, q1, q2⟩ := mem_reqs.1 q; exact hno h q1 q2
          have HND := Lib.hid (List.nodup_cons.2 ⟨hxk, reqs_nodup okf.l⟩)
          have HU : Hid (onZ (keysM (x :: reqsP f.l) v') (intK x) = some (.int .i64 m.h.id)) := Lib.hid (by rw [keysM_in List.mem_cons_self, HV1.out])
          have HO : Hid (∀ y, y ≠ intK x → onZ (keysM (x :: reqsP f.l) v') y = onZ (keysM (reqsP f.l) (whereV f.l)) y) := Lib.hid (onZ_ne fun y hy => by
            unfold keysM
            by_cases q : y ∈ reqsP f.l
            · rw [if_pos q, if_pos (List.mem_cons_of_mem _ q), HV2.out y hy]
            · rw [if_neg q, if_neg (fun r => (List.mem_cons.1 r).elim hy q)])
          have hlg := hF4.hb.lt
          have FM := Lib.hid ((BlkF.foot g (flC f.room f.n mp ma) fleetT).sep (((MapF.foot Try.prog 3 mp (idsM (p ++ m.to (m.h.p.aftTake x) :: q)) (ownV (p ++ m.to (m.h.p.aftTake x) :: q))).sep (SepL.foot PmF.foot (p ++ m.to (m.h.p.aftTake x) :: q))).sep (FLK.out.sep FB.out)))
          have HM2 := Lib.hid (hold_ma H3.out)
          clear H2 HL KC AZ gz gp1 CH1 hF4 HV HK X1 BG BM ng nm HF1 HX hcd e1 okf okm ok hTH hno h1 h2 h3 hpk hf' okt hv' hxk HMF HYS H3
          dsimp only [Exit.then]
          go_wp2_with fail
          refine Evo2.start' (ℓ := some 7) (S := Chg (fun _ => False)) (E := Grow.G) (by kernel_rfl) ⟨Chg.pre _, by decide +kernel, (by intro c a d v w h; cases d <;> exact h), by decide +kernel⟩ (fun ok => ?_)
          refine Evo2.va ok 0 _ _ ?_
          refine Evo2.va ok 1 _ _ ?_
          refine Evo2.va ok 2 _ _ ?_
          first | (refine Evo2.vl ok 3 KC2.out (Chg.refl (fun _ => False) _) _ _ ?_) | (refine Evo2.va ok 3 _ _ ?_)
          refine Evo2.va ok 4 _ _ ?_
          refine Evo2.va ok 5 _ _ ?_
          first | (refine Evo2.vl ok 6 KC2.out (Chg.refl (fun _ => False) _) _ _ ?_) | (refine Evo2.va ok 6 _ _ ?_)
          refine Evo2.all [7] (by decide +kernel) rfl ?_
          intro wp1 gp1 iq hq
          simp only [List.mem_cons, List.mem_nil_iff, or_false] at hq
          have AP1 := Chg.trans (Chg.refl (fun _ => False) _) (Chg.grow gp1)
          subst hq
          refine MapV.up (by rfl) (by rfl) rfl (key := .int .i64 x) keyedZ Try.underlying60 rfl (MB.out.2.chg AP1 id) hlen2 rfl rfl (keyZ undI hx.1 hx.2) HU.out HO.out ?_
          intro wm OM CM
          refine ⟨.inl (by first | rfl | trivial), ?_⟩
          simp only [Act.put, L0, L1, L2]
          refine Evo2.done (by decide +kernel) (fun wz gz => ?_)
          have AZ := AP1
          have H5 := hold_mapStep FM.out (HM2.out.grow ((MapF.foot _ _ _ _ _).sep FM.out) (chg_noneO AZ)) ⟨HND.out, MapB.tightZ OM undI HND.out (keysM_some (x :: reqsP f.l) v')⟩ CM
          have H6 := (hold_ma' H5).rot.drop1
          obtain ⟨e1, okf, okm, hf', okt⟩ := HQ.out
          have hst4 := (okm.pod m.h (by simp)).2.1
          have e2 : (p ++ m.to (m.h.p.aftTake x) :: q).map PM.h = f'.l := by
            rw [hf', ← e1]
            rw [List.map_append, List.map_cons] at okm
            show _ = chgP ((p ++ m :: q).map PM.h) m.h.id (fun p => p.aftTake x)
            rw [List.map_append (l₁ := p) (l₂ := m :: q), List.map_cons]
            exact (chgP_midP okm (gg := fun p => p.aftTake x) (by rw [take_st]; exact hst4)).symm
          have ok' := okt.l
          have hh : ∀ id y, hasP f'.l id y ↔ hasP f.l id y ∨ (id = m.h.id ∧ y = x) := fun id y => by
            rw [← e2, ← e1, has_mid, has_mid]
            show _ ∨ (m.h.id = id ∧ y ∈ (m.h.p.aftTake x).l) ↔ _
            unfold Pd.aftTake
            rw [if_pos HT.out]
            dsimp only
            rw [insZ_mem]
            constructor
            · rintro (q1 | ⟨q1, q2 | q2⟩)
              · exact .inl (.inl q1)
              · exact .inr ⟨q1.symm, q2⟩
              · exact .inl (.inr ⟨q1, q2⟩)
            · rintro ((q1 | ⟨q1, q2⟩) | ⟨q1, q2⟩)
              · exact .inl q1
              · exact .inr ⟨q1, .inr q2⟩
              · exact .inr ⟨q1.symm, .inl q2⟩
          have HC := Lib.hid ((hold_flclose (f := f') (by rw [hf']; exact H6) e2 okt (fun y => by
              rw [List.mem_cons, reqs_has, reqs_has]
              constructor
              · rintro ⟨id, q⟩
                rcases (hh id y).1 q with q | ⟨_, q⟩
                · exact .inr ⟨id, q⟩
                · exact .inl q
              · rintro (q | ⟨id, q⟩)
                · exact ⟨m.h.id, (hh _ _).2 (.inr ⟨rfl, q⟩)⟩
                · exact ⟨id, (hh _ _).2 (.inl q)⟩) (fun y hy => by
              by_cases q : y = x
              · rw [q, HV1.out, where_has ok' ((hh m.h.id x).2 (.inr ⟨rfl, rfl⟩))]
              · rw [HV2.out y q]
                obtain ⟨id, q2⟩ := reqs_has.1 ((List.mem_cons.1 hy).resolve_left q)
                rw [where_has ok' ((hh id y).2 (.inl q2)), where_has okf.l q2])).grow ((FlP.foot _ _).sep FB.out) gz)
          have b9 := Blk.at (cs := [Value.int .i64 m.h.id, .int .i64 m.h.p.st, .int .i64 m.h.load]) (k := 0) (((B2.chg AZ id).chg CM (fun e => hnm.out e.symm)).grow gz) rfl
          clear H5 H6 HM2 OM CM AZ KC2 e1 okm hf' okt e2 ok' hh hst4 MB
          go_wp2_with fail
          go_returns
          exact ⟨rfl, HC.out⟩
        · have hne : ¬ m.h.p.take x = 0 := fun e => hcd ((take_cand HMF.out.2).1 e)
          have hsame : Hid (m.h.p.aftTake x = m.h.p) := Lib.hid (by unfold Pd.aftTake; rw [if_neg hne])
          obtain ⟨te, hte⟩ : ∃ te, m.h.p.take x = te := ⟨_, rfl⟩
          rw [hte] at hne
          have d5 : (te == 0) = false := by simpa using hne
          have HTE := Lib.hid hte
          clear hte
          refine Evo2.start' (ℓ := none) (S := Chg (F1)) (E := Grow.G) (by kernel_rfl) ⟨Chg.pre _, by decide +kernel, (by intro c a d v w h; cases d <;> exact h), by decide +kernel⟩ (fun ok => ?_)
          refine Evo2.va ok 0 _ _ ?_
          refine Evo2.va ok 1 _ _ ?_
          refine Evo2.va ok 2 _ _ ?_
          first | (refine Evo2.vl ok 3 KC.out (Chg.refl (F1) _) _ _ ?_) | (refine Evo2.va ok 3 _ _ ?_)
          refine Evo2.va ok 4 _ _ ?_
          first | (refine Evo2.vl ok 5 KC.out (Chg.refl (F1) _) _ _ ?_) | (refine Evo2.va ok 5 _ _ ?_)
          first | (refine Evo2.val ok 6 ?_ ?_ ?_; rotate_left; (focus (intro w' hg; refine exec_look1v (.agg #[.string m.h.rv, pz m.p]) (.int .i64 m.h.id) ?_ keyedZ Try.underlying59 zeroOwned (BM.out.chg (Chg.trans (Chg.refl (F1) _) hg) nm.out).mapN HK.out HV.out; (all_goals exact ⟨rfl, rfl, rfl, rfl⟩))); simp only [Act.put, L0, L1, L2]) | (refine Evo2.va ok 6 _ _ ?_)
          refine Evo2.va ok 7 _ _ ?_
          refine Evo2.va ok 8 _ _ ?_
          refine Evo2.all [9] (by decide +kernel) rfl ?_
          intro wp1 gp1 iq hq
          simp only [List.mem_cons, List.mem_nil_iff, or_false] at hq
          have AP1 := Chg.trans (Chg.refl (F1) _) (Chg.grow gp1)
          subst hq
          refine Evo2.enters 39 _ (by rfl) (by rfl) (by go_simp; exact ⟨rfl, rfl⟩) ?_
          refine (((HL.out.grow (PdP.foot _ _) FR.out gp1).call FR.out (ptake_any m.p m.h.p x wp1 F1 (HL.out.grow (PdP.foot _ _) FR.out gp1).a hx))).mono ?_
          rintro e wc1 ⟨rfl, H2, CH1⟩; rw [HTE.out]
          refine ⟨_, rfl, .inr CH1, ?_⟩
          have AC1 := Chg.trans AP1 CH1
          simp only [Act.put, L0, L1, L2]
          refine Evo2.va ok 10 _ _ ?_
          refine Evo2.done (by decide +kernel) (fun wz gz => ?_)
          have AZ := Chg.trans AC1 (Chg.grow gz)
          rw [hsame.out] at H2
          have H3 : Hid (Hold w0 wz L (Sep (FlS g f.room f.n mp ma (p ++ m :: q) (reqsP f.l) (whereV f.l)) (Sep (LkF (.slice (some ⟨b, 0, none⟩) s.length vc) s) B))) := Lib.hid (hold_pm' (H2.grow ((PdP.foot _ _).sep FR.out) gz))
          have HX2 := Lib.hid (take_snocO HYS.out HX.out hcd)
          clear H2 HL KC AZ gz gp1 CH1 HV HK X1 BG BM ng nm HF1 HX hcd HMF HYS BN nb nb0
          dsimp only [Exit.then]
          go_wp2_with fail
          go_roundw
          case rel => exact ⟨k + 1, by omega, by go_num, H3, HX2⟩
          case measure => simp [_root_.Go.RowKit.intOf]; omega
      · have hkl : k = s.length := by omega
        have d0 : decide ((k : Int) < (s.length : Int)) = false := decide_eq_false (by omega)
        have nk : ¬ ((k : Int) < (s.length : Int)) := by omega
        obtain ⟨e1, okf, okm, hTH, hno, h1, h2, h3⟩ := HR.out
        have hpk := pick_none (s := s) (l := f.l) (rv := rv) (by rw [← e1]; exact HP.out) (fun y hy => HX.out y (by rw [hkl, List.take_length]; exact hy))
        rw [hpk] at hTH
        have her : er = 0 := by rw [← h1]; unfold Fl.take; rw [hTH]
        have hbo : bo = false := by rw [← h2]; unfold Fl.takeB; rw [hTH]; rfl
        have hf' : f' = f := by rw [← h3]; unfold Fl.aftTake; rw [hTH]
        subst her hbo hf'
        have HC := Lib.hid (hold_flclose (f := f') H.out.rot.drop1 e1 okf (fun y => Iff.rfl) (fun y _ => rfl))
        clear H HX hkl e1 okf okm hTH hno h1 h2 h3 hpk
        go_wp2_with fail
        go_returns
        exact ⟨rfl, HC.out⟩
end
end Go.Proofs.Ytfnpghekkhnjkaa

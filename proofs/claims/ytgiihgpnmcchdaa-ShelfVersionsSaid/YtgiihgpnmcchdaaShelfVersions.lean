
/- The walk of ShelfVersions. -/
import Derived.Test.YtgiihgpnmcchdaaVerP
import Derived.Test.YtgiihgpnmcchdaaArgL
import Derived.Test.YtgiihgpnmcchdaaShelfNames
import Derived.Test.YtgiihgpnmcchdaaZ2
import Derived.Test.YtgiihgpnmcchdaaZ29
namespace Go.Proofs.Ytgiihgpnmcchdaa
set_option maxRecDepth 100000
set_option linter.unusedVariables false
set_option linter.unusedSimpArgs false
set_option linter.unnecessarySimpa false
open Go.RowKit Go.MapV Go.Maps
attribute [local go_sem] Oper.semAt_some

theorem g0' {a b : World} (h : Chg (fun _ => False) a b) : Grow.G a b := h.toGrow fun _ _ q => q
def nmsC : List Value := [.string (vnC 0), .string (vnC 1), .string (vnC 2)]
def nmsR : List Value := [.string (vnR 0), .string (vnR 1), .string (vnR 2)]
abbrev verL (NC NR : List Value) (gb : Nat) (V : List Nat) : List MBox := [(gb, V.map vV, 38), (gb + 1, NC, 9), (gb + 1 + 1, NR, 9), (gb + 1 + 1 + 1, [.slice (some ⟨gb + 1, 0, none⟩) 3 3, .slice (some ⟨gb + 1 + 1, 0, none⟩) 3 3], 40)]
theorem nmsC_at {m : Nat} (h : m < 3) : nmsC[m]? = some (.string (vnC m)) := by
  match m, h with
  | 0, _ => rfl
  | 1, _ => rfl
  | 2, _ => rfl
theorem nmsR_at {m : Nat} (h : m < 3) : nmsR[m]? = some (.string (vnR m)) := by
  match m, h with
  | 0, _ => rfl
  | 1, _ => rfl
  | 2, _ => rfl
/-- Where a call's configuration lies, and its row of numbers. -/
theorem cfg_cells {w : World} {b o : Nat} {x : CallD} (h : ∀ j v, x.cells[j]? = some v → w.cell? ⟨b, o + j, none⟩ = some v) : ∀ j v, x.c.cells[j]? = some v → w.cell? ⟨b, o + 3 + j, none⟩ = some v := by
  intro j v hv
  have hj : j < 6 := (List.getElem?_eq_some_iff.1 hv).1
  have e : x.cells[3 + j]? = some v := by
    match j, hj with
    | 0, _ => exact hv
    | 1, _ => exact hv
    | 2, _ => exact hv
    | 3, _ => exact hv
    | 4, _ => exact hv
    | 5, _ => exact hv
  have := h (3 + j) v e
  rwa [← Nat.add_assoc] at this
/-- A name by its kind. -/
def vnK (kk m : Nat) : ByteArray := if kk = 0 then vnC m else vnR m
theorem vnK_sz {kk m : Nat} (hk : kk < 2) (hm : m < 3) : (vnK kk m).size ≤ 5 := by
  unfold vnK
  split
  · exact vnC_sz ⟨m, hm⟩
  · exact vnR_sz ⟨m, hm⟩
theorem two_cases {kk : Nat} (hk : kk < 2) : kk = 0 ∨ kk = 1 := by omega
theorem VI.farK {i n : Nat} {s : Sh} {V : List Nat} (h : VI i n s V) {kk m : Nat} (hk : kk < 2) (hm : m < 3) : (s.drop ((kk : Int) + 1) (vnK kk m) ((n : Int) + 5) = 6 ∨ s.drop ((kk : Int) + 1) (vnK kk m) ((n : Int) + 5) = 7) ∧ s.aftD ((kk : Int) + 1) (vnK kk m) ((n : Int) + 5) = s := by
  rcases two_cases hk with rfl | rfl
  · exact h.farC hm
  · exact h.farR hm
theorem VI.dropK {i n : Nat} {s : Sh} {V : List Nat} (h : VI i n s V) {kk m : Nat} (hk : kk < 2) (hm : m < 3) (hv : V.getD (kk * 3 + m) 0 ≠ 0) :
    s.drop ((kk : Int) + 1) (vnK kk m) (V.getD (kk * 3 + m) 0 : Nat) = 0 ∧ s.aftD ((kk : Int) + 1) (vnK kk m) (V.getD (kk * 3 + m) 0 : Nat) = s.cut ((kk : Int) + 1) (vnK kk m) ∧ VI (i + 1) (n + 1) (s.cut ((kk : Int) + 1) (vnK kk m)) (V.set (kk * 3 + m) 0) := by
  rcases two_cases hk with rfl | rfl
  · rw [Nat.zero_mul, Nat.zero_add] at hv ⊢
    exact h.dropC hm hv
  · rw [Nat.one_mul] at hv ⊢
    exact h.dropR hm hv
theorem verF_cells {w0 w w' : World} {A : Hp} {NC NR : List Value} {gb kk m x0 : Nat} {V : List Nat} {R : List MBox} {F : Nat → Prop} (h : HoldF w0 w (verL NC NR gb V ++ R) A F) (c : Chg F w w') (hC : ∀ m, m < 3 → NC[m]? = some (.string (vnC m))) (hR : ∀ m, m < 3 → NR[m]? = some (.string (vnR m))) (hk : kk < 2) (hm : m < 3) (hx : V[kk * 3 + m]? = some x0) :
    w'.cell? ⟨gb, kk * 3 + m, none⟩ = some (.int .i64 (x0 : Int)) ∧ w'.cell? ⟨gb + 1 + kk, m, none⟩ = some (.string (vnK kk m)) ∧ w'.cell? ⟨gb + 1 + 1 + 1, kk, none⟩ = some (.slice (some ⟨gb + 1 + kk, 0, none⟩) 3 3) ∧ True := by
  refine ⟨h.cell c (i := 0) rfl (by rw [List.getElem?_map, hx]; rfl), ?_, ?_, trivial⟩
  · rcases two_cases hk with rfl | rfl
    · exact h.cell c (i := 1) rfl (hC m hm)
    · exact h.cell c (i := 2) rfl (hR m hm)
  · rcases two_cases hk with rfl | rfl
    · exact h.cell c (i := 3) rfl rfl
    · exact h.cell c (i := 3) rfl rfl
theorem ver_cells {w0 w : World} {A : Hp} {NC NR : List Value} {gb kk m x0 : Nat} {V : List Nat} {R : List MBox} (h : Hold w0 w (verL NC NR gb V ++ R) A) (hC : ∀ m, m < 3 → NC[m]? = some (.string (vnC m))) (hR : ∀ m, m < 3 → NR[m]? = some (.string (vnR m))) (hk : kk < 2) (hm : m < 3) (hx : V[kk * 3 + m]? = some x0) :
    w.cell? ⟨gb, kk * 3 + m, none⟩ = some (.int .i64 (x0 : Int)) ∧ w.cell? ⟨gb + 1 + kk, m, none⟩ = some (.string (vnK kk m)) ∧ w.cell? ⟨gb + 1 + 1 + 1, kk, none⟩ = some (.slice (some ⟨gb + 1 + kk, 0, none⟩) 3 3) ∧ w.frozen? ⟨gb, kk * 3 + m, none⟩ = false ∧ gb < w.heap.size := by
  obtain ⟨F, hF⟩ := h.named
  obtain ⟨h1, h2, h3, _⟩ := verF_cells hF (Chg.refl _ _) hC hR hk hm hx
  exact ⟨h1, h2, h3, (h.mem.blk (i := 0) rfl).free _, (h.mem.blk (i := 0) rfl).lt⟩
theorem meas60 {k : Nat} (h : k < 60) : 60 - (intOf (.int .i64 ((k : Int) + 1))).toNat < 60 - (intOf (.int .i64 (k : Int))).toNat := by simp [intOf]; omega
set_option maxHeartbeats 16000000 in
theorem walkShelfVersions (w : World) (la : Option Addr) (xs : List CallD) (lc : Nat) (hl : CallsL w la xs) :
    Calls Try.prog 4 #[.slice la xs.length lc] w fun e w' => e = .returned (.bool true) ∧ Below w.heap.size w w' := by
  have KN := Lib.hid (fun w => known4_any w)
  have FE := Lib.hid (fun g s => (ShP.ft g s))
  have HL := Lib.hid hl
  have hle := hl.le
  unfold maxLen at hle
  clear hl
  go_enter Try.func4, Try.ntmps4
  go_wp2_with fail
  refine (KN.out _).mono ?_
  rintro e w1 ⟨rfl, hg⟩
  have H := Lib.hid ((Hold.nil w).grow Emp.foot hg)
  clear hg
  go_wp2_with fail
  refine (hold_new H.out Emp.foot).mono ?_
  rintro e w2 ⟨g, rfl, hh⟩
  replace H := Lib.hid hh
  clear hh
  go_wp2_with fail
  have F0 := FE.out g Sh.new
  have HA := (((H.out.alloc' F0 ([0, 0, 0, 0, 0, 0].map vV) 38 rfl).alloc' F0 nmsC 9 (g := w2.heap.size + 1) (by simp)).alloc' F0 nmsR 9 (g := w2.heap.size + 1 + 1) (by simp)).alloc' F0 [.slice (some ⟨w2.heap.size + 1, 0, none⟩) 3 3, .slice (some ⟨w2.heap.size + 1 + 1, 0, none⟩) 3 3] 40 (g := w2.heap.size + 1 + 1 + 1) (by simp)
  obtain ⟨W0, hW0⟩ : ∃ W0, W0 = ((((w2.alloc (.cells #[.int .i64 0, .int .i64 0, .int .i64 0, .int .i64 0, .int .i64 0, .int .i64 0] 38)).alloc (.cells #[.string ⟨#[119, 101, 98]⟩, .string ⟨#[97, 112, 105]⟩, .string ⟨#[97, 45, 98]⟩] 9)).alloc (.cells #[.string ⟨#[102, 114, 111, 110, 116]⟩, .string ⟨#[98, 97, 99, 107]⟩, .string ⟨#[114, 45, 49]⟩] 9)).alloc (.cells #[.slice (some ⟨w2.heap.size + 1, 0, none⟩) 3 3, .slice (some ⟨w2.heap.size + 1 + 1, 0, none⟩) 3 3] 40)) := ⟨_, rfl⟩
  have HK : Hold w W0 (verL nmsC nmsR w2.heap.size [0, 0, 0, 0, 0, 0]) (Sep (ShP g Sh.new) Emp) := by rw [hW0]; exact HA
  have HK := Lib.hid HK
  rw [← hW0]
  clear hW0 HA F0 H
  have NCa := Lib.hid (fun m h => @nmsC_at m h)
  have NRa := Lib.hid (fun m h => @nmsR_at m h)
  generalize nmsC = NC at *
  generalize nmsR = NR at *
  generalize w2.heap.size = gb at *
  go_loopw [4, 7] (fun nv i wr => ∃ (k n : Nat) (s : Sh) (V : List Nat), k ≤ 60 ∧ VI k n s V ∧ nv = .int .i64 n ∧ i = .int .i64 k ∧ Hid (Hold w wr (verL NC NR gb V) (Sep (ShP g s) Emp))) (fun _ i _ => 60 - (intOf i).toNat)
  case atStart => exact ⟨0, 0, Sh.new, [0, 0, 0, 0, 0, 0], by omega, VI.new, rfl, rfl, HK⟩
  case round =>
    clear HK
    obtain ⟨k, n, s, V, hk, hI, rfl, rfl, HK⟩ := hrel
    by_cases hlt : k < xs.length ∧ k < 60
    · obtain ⟨h1, h2⟩ := hlt
      obtain ⟨x, hx⟩ : ∃ x, xs[k]? = some x := ⟨_, List.getElem?_eq_getElem h1⟩
      obtain ⟨b, off, rfl, hc⟩ := HL.out.at hx
      have ok := HL.out.ok x (List.mem_of_getElem? hx)
      have hc0 := hc _ HK.out.below
      have d1 : decide ((k : Int) < (xs.length : Int)) = true := decide_eq_true (by omega)
      have d2 : decide ((k : Int) < 60) = true := decide_eq_true (by omega)
      have k1 : (0 : Int) ≤ (k : Int) := by omega
      have k2 : (k : Int) < (xs.length : Int) := by omega
      have hk1 : IntKind.i64.wrap ((k : Int) + 1) = (k : Int) + 1 := IntWalk.i64_in _ ⟨by omega, by omega⟩
      have hni := hI.ni
      have c0 := hc0 0 _ rfl
      have c1 := hc0 1 _ rfl
      rw [Nat.add_zero] at c0
      have KC := Lib.hid (fun (w' : World) (h : Chg (fun _ => False) wr w') => (⟨h.cell c0 id, h.cell c1 id, trivial⟩ : w'.cell? ⟨b, off + k * 10, none⟩ = some (.int .i64 x.kd) ∧ w'.cell? ⟨b, off + k * 10 + 1, none⟩ = some (.int .i64 x.nm) ∧ True))
      have WK := Lib.hid (fun w => (within4_any x.kd 2 w (by omega) (by omega) ok.k.1 ok.k.2).mono (fun e w' (h : _ ∧ _) => (⟨h.1, h.2 ▸ Grow.G.refl _⟩ : _ ∧ Grow.G w w')))
      have WN := Lib.hid (fun w => (within4_any x.nm 3 w (by omega) (by omega) ok.n.1 ok.n.2).mono (fun e w' (h : _ ∧ _) => (⟨h.1, h.2 ▸ Grow.G.refl _⟩ : _ ∧ Grow.G w w')))
      have WV := Lib.hid (fun w => within4_any x.vr 5 w (by omega) (by omega) ok.v.1 ok.v.2)
      have rk := withinI_range x.kd 2 (by omega)
      have rm := withinI_range x.nm 3 (by omega)
      obtain ⟨m, hm⟩ : ∃ m : Nat, withinI x.nm 3 = m := ⟨(withinI x.nm 3).toNat, by omega⟩
      rw [hm] at WN rm
      have hm3 : m < 3 := by omega
      have m1 : (0 : Int) ≤ (m : Int) := by omega
      have m2 : (m : Int) < 3 := by omega
      obtain ⟨kk, hkk⟩ : ∃ kk : Nat, withinI x.kd 2 = kk := ⟨(withinI x.kd 2).toNat, by omega⟩
      rw [hkk] at WK rk
      have hk2 : kk < 2 := by omega
      have q1 : (0 : Int) ≤ (kk : Int) := by omega
      have q2 : (kk : Int) < 2 := by omega
      have hwk1 : IntKind.i64.wrap ((kk : Int) + 1) = (kk : Int) + 1 := IntWalk.i64_in _ ⟨by omega, by omega⟩
      obtain ⟨y, hy⟩ : ∃ y, withinI x.vr 5 = y := ⟨_, rfl⟩
      rw [hy] at WV
      clear hm hkk hy hc0 rk
      go_wp2_with fail
      refine wp_spec (fun a0 A W => ∃ x33 x34 x35 x36 x37 x38 x39 x40 x41 x42 x43 x44 : Value, A = ((((((((((((((a0.put (some 8) (.int .i64 (kk : Int))).put (some 9) (.int .i64 (m : Int))).put (some 33) x33).put (some 34) x34).put (some 35) x35).put (some 36) x36).put (some 37) x37).put (some 38) x38).put (some 39) x39).put (some 40) x40).put (some 41) x41).put (some 42) x42).put (some 43) x43).put (some 44) x44) ∧ Hid (Grow.G wr W)) ?_ ?_
      all_goals simp only [Act.put, L0, L1, L2]
      ·
        refine Evo2.start' (ℓ := none) (S := Chg (fun _ => False)) (E := Grow.G) (by kernel_rfl) ⟨Chg.pre _, by decide +kernel, (by intro c a d v w h; cases d <;> exact h), by decide +kernel⟩ (fun ok => ?_)
        refine Evo2.va ok 0 _ _ ?_
        refine Evo2.va ok 1 _ _ ?_
        refine Evo2.va ok 2 _ _ ?_
        refine Evo2.va ok 3 _ _ ?_
        first | (refine Evo2.vl ok 4 KC.out (Chg.refl (fun _ => False) _) _ _ ?_) | (refine Evo2.va ok 4 _ _ ?_)
        (refine Evo2.cal ok 5 ?_ 11 ?_ ?_ ?_ ?_; rotate_left 2; (focus (intro w'; go_simp <;> with_reducible rfl)); (focus (intro w' g'; with_reducible exact WK.out w')); simp only [Act.put, L0, L1, L2])
        refine Evo2.va ok 6 _ _ ?_
        refine Evo2.va ok 7 _ _ ?_
        refine Evo2.va ok 8 _ _ ?_
        refine Evo2.va ok 9 _ _ ?_
        first | (refine Evo2.vl ok 10 KC.out (Chg.refl (fun _ => False) _) _ _ ?_) | (refine Evo2.va ok 10 _ _ ?_)
        (refine Evo2.cal ok 11 ?_ 11 ?_ ?_ ?_ ?_; rotate_left 2; (focus (intro w'; go_simp <;> with_reducible rfl)); (focus (intro w' g'; with_reducible exact WN.out w')); simp only [Act.put, L0, L1, L2])
        refine Evo2.va ok 12 _ _ ?_
        refine Evo2.va ok 13 _ _ ?_
        refine Evo2.done (by decide +kernel) (fun wz gz => ?_)
        have AZ := Chg.trans (Chg.refl (fun _ => False) _) (Chg.grow gz)
        dsimp only [PostN] 
        (repeat apply Exists.intro) 
        exact ⟨rfl, Lib.hid (g0' AZ)⟩
      ·
        rintro A wz ⟨x33, x34, x35, x36, x37, x38, x39, x40, x41, x42, x43, x44, rfl, GZ⟩
        have HK := Lib.hid (HK.out.grow (FE.out _ _) GZ.out)
        have hc1 := hc _ HK.out.below
        have c2 := hc1 2 _ rfl
        have HC := Lib.hid hc1
        clear GZ KC WK WN c0 c1 hc hc1
        go_wp2_with fail
        refine (WV.out _).mono ?_
        rintro e wx ⟨rfl, rfl⟩
        clear WV c2
        have hsn := hI.sn
        have hVl := hI.len
        have hix : kk * 3 + m < 6 := by omega
        obtain ⟨x0, hx0⟩ : ∃ x0, V.getD (kk * 3 + m) 0 = x0 := ⟨_, rfl⟩
        have HX0 : Hid (V[kk * 3 + m]? = some x0) := Lib.hid (by rw [← hx0]; simp [List.getD, hVl, hix])
        have hn1 : IntKind.i64.wrap ((n : Int) + 1) = (n : Int) + 1 := IntWalk.i64_in _ ⟨by omega, by omega⟩
        have VC := Lib.hid (fun (w' W : World) (s : Sh) (R : List MBox) (h : Hold w w' (verL NC NR gb V ++ R) (Sep (ShP g s) Emp)) => ver_cells h NCa.out NRa.out hk2 hm3 HX0.out)
        have HX := Lib.hid hx0
        have HI := Lib.hid hI
        clear hI hx0
        by_cases hy : y = 0
        · subst hy
          obtain ⟨hd, haf⟩ := HI.out.farK hk2 hm3
          have hnz := vnK_sz hk2 hm3
          generalize hvn : vnK kk m = vn at *
          have HVN := Lib.hid hvn
          clear hvn
          have DF := Lib.hid (fun (w w' : World) (L : List MBox) (g : Nat) (h : Hold w w' L (Sep (ShP g s) Emp)) => by
            have := hold_drop h Emp.foot ((kk : Int) + 1) vn ((n : Int) + 5) (by unfold maxLen; omega) (by omega)
            rwa [haf] at this)
          obtain ⟨d, hdd⟩ : ∃ d, s.drop ((kk : Int) + 1) vn ((n : Int) + 5) = d := ⟨_, rfl⟩
          rw [hdd] at DF hd
          have hn5 : IntKind.i64.wrap ((n : Int) + 5) = (n : Int) + 5 := IntWalk.i64_in _ ⟨by omega, by omega⟩
          clear hdd haf
          obtain ⟨cv, cN, cS, zq, lq⟩ := VC.out wz wz _ [] HK.out
          rcases hd with rfl | rfl
          case' inl =>
            go_wp2_with fail
            refine (DF.out _ _ _ _ HK.out).mono ?_
            rintro e we ⟨rfl, hst⟩
            replace HK := Lib.hid hst
            clear hst
            clear cv cN cS zq lq
            obtain ⟨cv, cN, cS, zq, lq⟩ := VC.out we we _ [] HK.out
            go_wp2_with fail
          case' inr =>
            go_wp2_with fail
          all_goals
            clear cv cN cS zq lq
            refine (DF.out _ _ _ _ HK.out).mono ?_
            rintro e wd ⟨rfl, hst⟩
            replace HK := Lib.hid hst
            clear hst
            obtain ⟨cv, cN, cS, zq, lq⟩ := VC.out wd wd _ [] HK.out
            clear DF
            by_cases hp : x0 = 0
            · subst hp
              go_wp2_with fail
              exact ⟨⟨k + 1, n, s, V, h2, HI.out.more, by first | rfl | trivial, rfl, HK⟩, meas60 h2⟩
            · have t0 : decide (0 < x0) = true := decide_eq_true (by omega)
              have t1 : decide (0 < (x0 : Int)) = true := decide_eq_true (by omega)
              obtain ⟨p1, p2, p3⟩ := HI.out.dropK hk2 hm3 (by rw [HX.out]; exact hp)
              rw [HX.out, HVN.out] at p1 p2
              rw [HVN.out] at p3
              have DD := Lib.hid (fun (w w' : World) (L : List MBox) (g : Nat) (F : Nat → Prop) (h : HoldF w w' L (Sep (ShP g s) Emp) F) => by
                have := h.call (Sep.callL Emp.foot fun F hS => sdrop_any g F s ((kk : Int) + 1) vn (x0 : Int) _ hS (by unfold maxLen; omega) (by omega))
                rwa [p1, p2] at this)
              have P3 := Lib.hid p3
              clear p1 p2 p3
              generalize s.cut ((kk : Int) + 1) vn = S2 at *
              go_wp2_with fail
              obtain ⟨F, hF⟩ := HK.out.named
              have HF := Lib.hid hF
              have KC := Lib.hid (fun (w' : World) (h : Chg F wd w') => verF_cells (R := []) hF h NCa.out NRa.out hk2 hm3 HX0.out)
              rw [HVN.out] at KC
              clear hF cv cN cS zq lq
              refine wp_spec (fun a0 A W => ∃ x86 x87 x88 x89 x90 x91 x92 x93 x94 x95 x96 x97 x98 x99 x100 : Value, A = ((((((((((((((((a0.put (some 86) x86).put (some 87) x87).put (some 88) x88).put (some 89) x89).put (some 90) x90).put (some 91) x91).put (some 92) x92).put (some 93) x93).put (some 94) x94).put (some 95) x95).put (some 96) x96).put (some 97) x97).put (some 98) x98).put (some 99) x99).put (some 100) x100).put (some 101) (.bool false)) ∧ Hid (Hold w W (verL NC NR gb V) (Sep (ShP g S2) Emp))) ?_ ?_
              all_goals simp only [Act.put, L0, L1, L2]
              ·
                refine Evo2.start' (ℓ := none) (S := Chg (F)) (E := Grow.G) (by kernel_rfl) ⟨Chg.pre _, by decide +kernel, (by intro c a d v w h; cases d <;> exact h), by decide +kernel⟩ (fun ok => ?_)
                refine Evo2.va ok 0 _ _ ?_
                refine Evo2.va ok 1 _ _ ?_
                refine Evo2.va ok 2 _ _ ?_
                refine Evo2.va ok 3 _ _ ?_
                refine Evo2.va ok 4 _ _ ?_
                first | (refine Evo2.vl ok 5 KC.out (Chg.refl (F) _) _ _ ?_) | (refine Evo2.va ok 5 _ _ ?_)
                refine Evo2.va ok 6 _ _ ?_
                refine Evo2.va ok 7 _ _ ?_
                first | (refine Evo2.vl ok 8 KC.out (Chg.refl (F) _) _ _ ?_) | (refine Evo2.va ok 8 _ _ ?_)
                refine Evo2.va ok 9 _ _ ?_
                refine Evo2.va ok 10 _ _ ?_
                refine Evo2.va ok 11 _ _ ?_
                refine Evo2.va ok 12 _ _ ?_
                first | (refine Evo2.vl ok 13 KC.out (Chg.refl (F) _) _ _ ?_) | (refine Evo2.va ok 13 _ _ ?_)
                refine Evo2.all [14] (by decide +kernel) rfl ?_
                intro wp1 gp1 iq hq
                simp only [List.mem_cons, List.mem_nil_iff, or_false] at hq
                have AP1 := Chg.trans (Chg.refl (F) _) (Chg.grow gp1)
                replace HK := Lib.hid (HK.out.grow (FE.out _ _) gp1)
                subst hq
                refine Evo2.enters 9 _ (by rfl) (by rfl) (by go_simp; exact ⟨rfl, rfl⟩) ?_
                refine (DD.out _ _ _ _ F (HF.out.grow (FE.out _ _) gp1)).mono ?_
                rintro e wc1 ⟨rfl, hst, hC⟩; have CH1 := hC; replace HK := Lib.hid hst; clear hst hC
                refine ⟨_, rfl, .inr CH1, ?_⟩
                have AC1 := Chg.trans AP1 CH1
                simp only [Act.put, L0, L1, L2]
                refine Evo2.va ok 15 _ _ ?_
                refine Evo2.done (by decide +kernel) (fun wz gz => ?_)
                have AZ := Chg.trans AC1 (Chg.grow gz)
                replace HK := Lib.hid (HK.out.grow (FE.out _ _) gz)
                dsimp only [PostN] 
                (repeat apply Exists.intro) 
                exact ⟨rfl, HK⟩
              ·
                rintro A W5 ⟨x86, x87, x88, x89, x90, x91, x92, x93, x94, x95, x96, x97, x98, x99, x100, rfl, H8⟩
                replace HK := H8
                clear H8 KC HF DD
                obtain ⟨cv, cN, cS, zq, lq⟩ := VC.out W5 W5 _ [] HK.out
                go_wp2_with (refine Hold.store 0 (t := 3) (FE.out g _) rfl rfl rfl rfl (vs := [.int .i64 0]) rfl (n := 1) (by kernel_rfl) HK.out rfl rfl (by simp; omega) rfl ?_; intro W8 HMm CW8)
                replace HK := Lib.hid HMm
                clear HMm CW8
                refine Stay.go ?_
                go_wp2_with fail
                exact ⟨⟨k + 1, n + 1, S2, V.set (kk * 3 + m) 0, h2, P3.out, rfl, rfl, Lib.hid (by show Hold w _ (verL NC NR gb _) _; rw [verL, ← tk_set V (kk * 3 + m) 0 (by omega)]; exact HK.out)⟩, meas60 h2⟩
        · have ty : (y == 0) = false := by simpa using hy
          obtain ⟨cv, cN, cS, zq, lq⟩ := VC.out wz wz _ [] HK.out
          rcases two_cases hk2 with hkk | hkk
          · have t3 : ((kk : Int) == 0) = true := by rw [hkk]; rfl
            have CF := cfg_cells HC.out
            have GC := Lib.hid (fun w => gcfg_any x.c 0 w ok.c (by unfold wf64; omega))
            have hX := gCfg_ok x.c 0
            obtain ⟨gc, hgc⟩ : ∃ gc, gCfg x.c 0 = gc := ⟨_, rfl⟩
            rw [hgc] at GC hX
            have hX2 := cfg_named hX (vnC_ok ⟨m, hm3⟩)
            have e0 : kk * 3 + m = m := by rw [hkk]; omega
            obtain ⟨p1, p2, p3⟩ := HI.out.putC hm3 (c := { gc with nm := vnC m }) hX2 rfl
            have hx1 := HX.out
            rw [e0] at hx1
            rw [hx1] at p1 p2
            have hmz := (vnC_sz ⟨m, hm3⟩)
            dsimp only at hmz
            have PC := Lib.hid (fun (w w' : World) (L : List MBox) (g : Nat) (F : Nat → Prop) (h : HoldF w w' L (Sep (ShP g s) Emp) F) => by
              have := h.call (Sep.callL Emp.foot fun F hS => sputC_any g F s { gc with nm := vnC m } (x0 : Int) _ hS (by show (vnC m).size ≤ _; omega) (by omega))
              rwa [p1, p2, show s.numOf 0 = (n : Int) + 1 from by unfold Sh.numOf; rw [if_pos rfl, hsn]; rfl] at this)
            have P3 : Hid (VI (k + 1) (n + 1) (s.setC { gc with nm := vnC m }) (V.set (kk * 3 + m) (n + 1))) := Lib.hid (by rw [e0]; exact p3)
            have NC1 := Lib.hid (NCa.out m hm3)
            clear p1 p2 p3 hX hX2 hgc cN cS e0 hx1 hkk
            generalize s.setC { gc with nm := vnC m } = S2 at *
            obtain ⟨gn, g1, g2, g3, g4, g5⟩ := gc
            unfold Cfg.v at *
            dsimp only at *
            have CF := Lib.hid CF
            go_wp2_with (refine SlOf.load (t := 23) rfl rfl rfl Try.underlying23 (m := 6) (by kernel_rfl) CF.out rfl ?_)
            refine (GC.out _).mono ?_
            rintro e w5 ⟨rfl, hg⟩
            replace HK := Lib.hid (HK.out.grow (FE.out g _) hg)
            clear hg GC CF cv zq lq
            go_wp2_with ((refine Hold.storeAll 4 (t := 23) (FE.out g _) rfl rfl rfl rfl (n := 6) (by kernel_rfl) (Hold.alloc' HK.out (FE.out g _) _ _ rfl) rfl rfl rfl rfl ?_; intro W7 HMm CW7))
            simp only [K0, K1, L1, L2, K2, K3, K4, K5, K6, K7, Nat.reduceAdd, Nat.reduceSub] at HMm
            replace HK := Lib.hid HMm
            clear HMm
            refine Stay.go ?_
            have cN := HK.out.mem.cell (i := 1) (o := m) rfl NC1.out
            have cS : W7.cell? ⟨gb + 1 + 1 + 1, 0, none⟩ = some (.slice (some ⟨gb + 1, 0, none⟩) 3 3) := HK.out.mem.cell (i := 3) rfl rfl
            generalize vnC m = vn at *
            go_wp2_with ((refine Hold.store 4 (t := 9) (FE.out g _) rfl rfl rfl rfl (vs := [.string vn]) rfl (n := 1) (by kernel_rfl) HK.out rfl rfl (by simp) rfl ?_; intro W8 HMm CW8))
            simp only [K0, K1, L1, L2, K2, K3, K4, K5, K6, K7, Nat.reduceAdd, Nat.reduceSub] at HMm
            replace HK := Lib.hid HMm
            clear HMm
            refine Stay.go ?_
            clear cN cS
            go_wp2_with fail
            obtain ⟨F, hF⟩ := HK.out.named
            have HF := Lib.hid hF
            have KC := Lib.hid (fun (w' : World) (h : Chg F W8 w') => verF_cells (R := [_]) hF h NCa.out NRa.out hk2 hm3 HX0.out)
            clear hF
            have CE : (Try.prog.info? 23).map (·.size) = some 6 := by kernel_rfl
            refine wp_spec (fun a0 A W => ∃ x122 x123 x124 x125 x126 x127 x128 x129 x130 x131 x132 : Value, ∃ (R : List MBox), A = (((((((((((((a0.put (some 10) (.int .i64 ((n : Int) + 1))).put (some 11) (.int .i64 0)).put (some 122) x122).put (some 123) x123).put (some 124) x124).put (some 125) x125).put (some 126) x126).put (some 127) x127).put (some 128) x128).put (some 129) x129).put (some 130) x130).put (some 131) x131).put (some 132) x132) ∧ Hid (Hold w W (verL NC NR gb V ++ R) (Sep (ShP g S2) Emp))) ?_ ?_
            all_goals simp only [Act.put, L0, L1, L2]
            ·
              refine Evo2.start' (ℓ := none) (S := Chg (F)) (E := Grow.G) (by kernel_rfl) ⟨Chg.pre _, by decide +kernel, (by intro c a d v w h; cases d <;> exact h), by decide +kernel⟩ (fun ok => ?_)
              refine Evo2.va ok 0 _ _ ?_
              first | (refine Evo2.val ok 1 ?_ ?_ ?_; rotate_left; (focus (intro w' hg; refine Box.exec_loadAll ?_ Try.underlying23 CE (HF.out.blk (Chg.trans (Chg.refl (F) _) hg) (i := 4) rfl) ?_; (all_goals (first | exact ⟨rfl, rfl⟩ | rfl)))); simp only [Act.put, L0, L1, L2]) | (refine Evo2.vl ok 1 KC.out (Chg.refl (F) _) _ _ ?_) | (refine Evo2.va ok 1 _ _ ?_)
              refine Evo2.va ok 2 _ _ ?_
              refine Evo2.va ok 3 _ _ ?_
              refine Evo2.va ok 4 _ _ ?_
              refine Evo2.va ok 5 _ _ ?_
              first | (refine Evo2.vl ok 6 KC.out (Chg.refl (F) _) _ _ ?_) | (refine Evo2.va ok 6 _ _ ?_)
              refine Evo2.all [7] (by decide +kernel) rfl ?_
              intro wp1 gp1 iq hq
              simp only [List.mem_cons, List.mem_nil_iff, or_false] at hq
              have AP1 := Chg.trans (Chg.refl (F) _) (Chg.grow gp1)
              replace HK := Lib.hid (HK.out.grow (FE.out _ _) gp1)
              subst hq
              refine Evo2.enters 8 _ (by rfl) (by rfl) (by go_simp; exact ⟨rfl, rfl⟩) ?_
              refine (PC.out _ _ _ _ F (HF.out.grow (FE.out _ _) gp1)).mono ?_
              rintro e wc1 ⟨rfl, hst, hC⟩; have CH1 := hC; replace HK := Lib.hid hst; clear hst hC
              refine ⟨_, rfl, .inr CH1, ?_⟩
              have AC1 := Chg.trans AP1 CH1
              simp only [Act.put, L0, L1, L2]
              refine Evo2.va ok 8 _ _ ?_
              refine Evo2.va ok 9 _ _ ?_
              refine Evo2.va ok 10 _ _ ?_
              refine Evo2.va ok 11 _ _ ?_
              refine Evo2.va ok 12 _ _ ?_
              refine Evo2.done (by decide +kernel) (fun wz gz => ?_)
              have AZ := Chg.trans AC1 (Chg.grow gz)
              replace HK := Lib.hid (HK.out.grow (FE.out _ _) gz)
              dsimp only [PostN] 
              (repeat apply Exists.intro) 
              exact ⟨rfl, Lib.hid (show Hold w _ (verL NC NR gb V ++ [_]) _ from HK.out)⟩
            ·
              rintro A W9 ⟨x122, x123, x124, x125, x126, x127, x128, x129, x130, x131, x132, R, rfl, H8⟩
              replace HK := Lib.hid (show Hold w W9 (verL NC NR gb V) (Sep (ShP g S2) Emp) from H8.out.take 4)
              clear H8 KC HF PC
              go_wp2_with (refine Hold.store 0 (t := 3) (FE.out g _) rfl rfl rfl rfl (vs := [.int .i64 ((n : Int) + 1)]) rfl (n := 1) (by kernel_rfl) HK.out rfl rfl (by simp; omega) rfl ?_; intro W10 HMm CW10)
              replace HK := Lib.hid HMm
              clear HMm CW10
              refine Stay.go ?_
              go_wp2_with fail
              exact ⟨⟨k + 1, n + 1, S2, V.set (kk * 3 + m) (n + 1), h2, P3.out, rfl, rfl, Lib.hid (by show Hold w _ (verL NC NR gb _) _; rw [verL, ← tk_set V (kk * 3 + m) (n + 1) (by omega)]; exact HK.out)⟩, meas60 h2⟩
          · have t3 : ((kk : Int) == 0) = false := by rw [hkk]; rfl
            have c9 := HC.out 9 _ rfl
            have GR := Lib.hid (fun w h => groute_own 0 (.slice x.na x.ns.length x.nc) x.ns 0 w (by unfold wf64; omega) h (by unfold wf64; omega))
            unfold RtOwn at GR
            have HZ := Lib.hid ok.ns
            have hR := gRoute_ok 0 x.ns 0 (by omega)
            have hR0 : withinI 0 61 = 0 := by decide +kernel
            rw [hR0] at GR
            have hRK := gTs_ok 0 x.ns
            have hRL := nT_range x.ns
            rw [← gTs_len (rtCf 0) x.ns] at hRL
            have hR2 := rt_named hR (vnR_ok ⟨m, hm3⟩)
            generalize rtName 0 = rn at *
            generalize rtCf 0 = rc at *
            generalize gTs rc x.ns = ts at *
            have hrc : rc.size ≤ 16 := (rt_small (r := ⟨vnR m, rc, ts, 0⟩) hR2).2.1
            have e0 : kk * 3 + m = 3 + m := by rw [hkk]
            obtain ⟨p1, p2, p3⟩ := HI.out.putR hm3 (r := ⟨vnR m, rc, ts, 0⟩) hR2 rfl
            have hx1 := HX.out
            rw [e0] at hx1
            rw [hx1] at p1 p2
            have hmz := (vnR_sz ⟨m, hm3⟩)
            dsimp only at hmz
            have PR := Lib.hid (fun (w w' : World) (L : List MBox) (B : Hp) (hB : Foot B) (g : Nat) (F : Nat → Prop) (a : Option Addr) (cap : Nat) (h : HoldF w w' L (Sep (ShP g s) B) F) (ht : TgtSl w' a ts) => by
              have := h.call (Sep.callL hB fun F hS => sputR_any g F s ⟨vnR m, rc, ts, 0⟩ a cap (x0 : Int) _ hS (by show (vnR m).size ≤ _; omega) (by show rc.size ≤ _; omega) (by show ts.length ≤ _; unfold maxLen; omega) ht hRK (by omega))
              rwa [p1, p2, show s.numOf 0 = (n : Int) + 1 from by unfold Sh.numOf; rw [if_pos rfl, hsn]; rfl] at this)
            have P3 : Hid (VI (k + 1) (n + 1) (s.setR ⟨vnR m, rc, ts, 0⟩) (V.set (kk * 3 + m) (n + 1))) := Lib.hid (by rw [e0]; exact p3)
            have NR1 := Lib.hid (NRa.out m hm3)
            clear p1 p2 p3 hR hR2 hRK hR0 cN cS e0 hx1 hkk
            generalize s.setR ⟨vnR m, rc, ts, 0⟩ = S2 at *
            unfold rtV at *
            dsimp only at *
            go_wp2_with fail
            refine (GR.out _ (HZ.out.below HK.out.below)).mono ?_
            rintro e w5 ⟨b5, cc, rfl, ho, hg⟩
            replace HK := Lib.hid (hold_ts HK.out (ShP.foot _ _) Emp.foot hg ho)
            have FT := Lib.hid (fun g s b v => (ShP.foot g s).sep ((TsF.foot b v ts).sep Emp.foot))
            have FB := Lib.hid (fun b v => (TsF.foot b v ts).sep Emp.foot)
            clear ho hg GR c9 cv zq lq
            go_wp2_with ((refine Hold.storeAll 4 (t := 46) (FT.out g _ _ _) rfl rfl rfl rfl (n := 4) (by kernel_rfl) (Hold.alloc' HK.out (FT.out g _ _ _) _ _ rfl) rfl rfl rfl rfl ?_; intro W7 HMm CW7))
            simp only [K0, K1, L1, L2, K2, K3, K4, K5, K6, K7, Nat.reduceAdd, Nat.reduceSub] at HMm
            replace HK := Lib.hid HMm
            clear HMm
            refine Stay.go ?_
            have cN := HK.out.mem.cell (i := 2) (o := m) rfl NR1.out
            have cS : W7.cell? ⟨gb + 1 + 1 + 1, 1, none⟩ = some (.slice (some ⟨gb + 1 + 1, 0, none⟩) 3 3) := HK.out.mem.cell (i := 3) rfl rfl
            generalize vnR m = vn at *
            go_wp2_with ((refine Hold.store 4 (t := 9) (FT.out g _ _ _) rfl rfl rfl rfl (vs := [.string vn]) rfl (n := 1) (by kernel_rfl) HK.out rfl rfl (by simp) rfl ?_; intro W8 HMm CW8))
            simp only [K0, K1, L1, L2, K2, K3, K4, K5, K6, K7, Nat.reduceAdd, Nat.reduceSub] at HMm
            replace HK := Lib.hid HMm
            clear HMm
            refine Stay.go ?_
            clear cN cS
            go_wp2_with fail
            obtain ⟨F, hF⟩ := HK.out.named
            have HF := Lib.hid hF
            have KC := Lib.hid (fun (w' : World) (h : Chg F W8 w') => verF_cells (R := [_]) hF h NCa.out NRa.out hk2 hm3 HX0.out)
            clear hF
            have CE : (Try.prog.info? 46).map (·.size) = some 4 := by kernel_rfl
            refine wp_spec (fun a0 A W => ∃ x145 x146 x147 x148 x149 x150 x151 x152 x153 x154 x155 : Value, ∃ (R : List MBox), A = (((((((((((((a0.put (some 10) (.int .i64 ((n : Int) + 1))).put (some 11) (.int .i64 0)).put (some 145) x145).put (some 146) x146).put (some 147) x147).put (some 148) x148).put (some 149) x149).put (some 150) x150).put (some 151) x151).put (some 152) x152).put (some 153) x153).put (some 154) x154).put (some 155) x155) ∧ Hid (Hold w W (verL NC NR gb V ++ R) (Sep (ShP g S2) Emp))) ?_ ?_
            all_goals simp only [Act.put, L0, L1, L2]
            ·
              refine Evo2.start' (ℓ := none) (S := Chg (F)) (E := Grow.G) (by kernel_rfl) ⟨Chg.pre _, by decide +kernel, (by intro c a d v w h; cases d <;> exact h), by decide +kernel⟩ (fun ok => ?_)
              refine Evo2.va ok 0 _ _ ?_
              first | (refine Evo2.val ok 1 ?_ ?_ ?_; rotate_left; (focus (intro w' hg; refine Box.exec_loadAll ?_ Try.underlying46 CE (HF.out.blk (Chg.trans (Chg.refl (F) _) hg) (i := 4) rfl) ?_; (all_goals (first | exact ⟨rfl, rfl⟩ | rfl)))); simp only [Act.put, L0, L1, L2]) | (refine Evo2.vl ok 1 KC.out (Chg.refl (F) _) _ _ ?_) | (refine Evo2.va ok 1 _ _ ?_)
              refine Evo2.va ok 2 _ _ ?_
              refine Evo2.va ok 3 _ _ ?_
              refine Evo2.va ok 4 _ _ ?_
              refine Evo2.va ok 5 _ _ ?_
              first | (refine Evo2.vl ok 6 KC.out (Chg.refl (F) _) _ _ ?_) | (refine Evo2.va ok 6 _ _ ?_)
              refine Evo2.all [7] (by decide +kernel) rfl ?_
              intro wp1 gp1 iq hq
              simp only [List.mem_cons, List.mem_nil_iff, or_false] at hq
              have AP1 := Chg.trans (Chg.refl (F) _) (Chg.grow gp1)
              replace HK := Lib.hid (HK.out.grow (by first | exact FT.out _ _ _ _ | exact FE.out _ _) gp1)
              subst hq
              refine Evo2.enters 13 _ (by rfl) (by rfl) (by go_simp; exact ⟨rfl, rfl⟩) ?_
              refine (PR.out _ _ _ _ (FB.out _ _) _ F _ _ (HF.out.grow (FT.out _ _ _ _) gp1) (see_ts HK.out)).mono ?_
              rintro e wc1 ⟨rfl, hst, hC⟩; have CH1 := hC; replace HK := Lib.hid hst.rot.drop1; clear hst hC
              refine ⟨_, rfl, .inr CH1, ?_⟩
              have AC1 := Chg.trans AP1 CH1
              simp only [Act.put, L0, L1, L2]
              refine Evo2.va ok 8 _ _ ?_
              refine Evo2.va ok 9 _ _ ?_
              refine Evo2.va ok 10 _ _ ?_
              refine Evo2.va ok 11 _ _ ?_
              refine Evo2.va ok 12 _ _ ?_
              refine Evo2.done (by decide +kernel) (fun wz gz => ?_)
              have AZ := Chg.trans AC1 (Chg.grow gz)
              replace HK := Lib.hid (HK.out.grow (by first | exact FT.out _ _ _ _ | exact FE.out _ _) gz)
              dsimp only [PostN] 
              (repeat apply Exists.intro) 
              exact ⟨rfl, Lib.hid (show Hold w _ (verL NC NR gb V ++ [_]) _ from HK.out)⟩
            ·
              rintro A W9 ⟨x145, x146, x147, x148, x149, x150, x151, x152, x153, x154, x155, R, rfl, H8⟩
              replace HK := Lib.hid (show Hold w W9 (verL NC NR gb V) (Sep (ShP g S2) Emp) from H8.out.take 4)
              clear H8 KC HF PR
              go_wp2_with (refine Hold.store 0 (t := 3) (FE.out g _) rfl rfl rfl rfl (vs := [.int .i64 ((n : Int) + 1)]) rfl (n := 1) (by kernel_rfl) HK.out rfl rfl (by simp; omega) rfl ?_; intro W10 HMm CW10)
              replace HK := Lib.hid HMm
              clear HMm CW10
              refine Stay.go ?_
              go_wp2_with fail
              exact ⟨⟨k + 1, n + 1, S2, V.set (kk * 3 + m) (n + 1), h2, P3.out, rfl, rfl, Lib.hid (by show Hold w _ (verL NC NR gb _) _; rw [verL, ← tk_set V (kk * 3 + m) (n + 1) (by omega)]; exact HK.out)⟩, meas60 h2⟩
    · have hjj : (¬ k < xs.length) ∨ (k < xs.length ∧ ¬ k < 60) := by omega
      rcases hjj with h1 | ⟨h1, h2⟩
      case' inl => have d1 : decide ((k : Int) < (xs.length : Int)) = false := decide_eq_false (by omega)
      case' inr =>
        have d1 : decide ((k : Int) < (xs.length : Int)) = true := decide_eq_true (by omega)
        have d2 : decide ((k : Int) < 60) = false := decide_eq_false (by omega)
      all_goals
        clear hlt
        go_wp2_with fail
        go_ret
        exact ⟨rfl, HK.out.below⟩
end Go.Proofs.Ytgiihgpnmcchdaa

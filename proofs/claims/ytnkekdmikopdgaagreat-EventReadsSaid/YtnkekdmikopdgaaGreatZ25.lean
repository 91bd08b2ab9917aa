/- My own texts RP0, RP1, RP2, RP3, laid in one file. -/
import Derived.Test.YtnkekdmikopdgaaGreatZ24
import Derived.Test.YtnkekdmikopdgaaGreatZ2
import Derived.Test.YtnkekdmikopdgaaGreatZ20
import Derived.Test.YtnkekdmikopdgaaGreatZ17
import Derived.Test.YtnkekdmikopdgaaGreatZ13
import Derived.Test.YtnkekdmikopdgaaGreatZ23

/- damperref3's Parse: what a call of it keeps while it reads. -/
namespace Go.Proofs.YtnkekdmikopdgaaGreat
set_option maxRecDepth 100000
set_option linter.unusedVariables false
set_option linter.unusedSimpArgs false
set_option linter.unnecessarySimpa false
open Go.RowKit

abbrev Z15 : List Value := [.int .i64 0, .string ⟨#[]⟩, .string ⟨#[]⟩, .int .i64 0, .int .i64 0, .string ⟨#[]⟩, .int .i64 0, .int .i64 0, .int .i64 0, .int .i64 0, .int .i64 0, .string ⟨#[]⟩, .string ⟨#[]⟩, .slice none 0 0, .int .i64 0]
theorem TkAt.bad {w : World} {g : Nat} {a : Option Addr} {c : Nat} {zs : List Int} {s : LS} (h : TkAt w g a c zs s) : w.cell? ⟨g, 2, none⟩ = some (.bool s.2) := by
 obtain ⟨p, h1, h2, h3⟩ := h
 exact evd h3 (i := 2) rfl
theorem TkAt.at {w : World} {g : Nat} {a : Option Addr} {c : Nat} {zs : List Int} {s : LS} (h : TkAt w g a c zs s) : ∃ p : Nat, w.cell? ⟨g, 1, none⟩ = some (.int .i64 p) ∧ p ≤ zs.length ∧ s.1 = zs.drop p := by
 obtain ⟨p, h1, h2, h3⟩ := h
 exact ⟨p, evd h3 (i := 1) rfl, h1, h2⟩
/-- The result's box, the taker, the event's box. -/
structure PSt (w W : World) (eb : Nat) (a : Option Addr) (c : Nat) (zs : List Int) (s : LS) (cs : List Value) : Prop where
 mem : Mem w W [(w.heap.size, Z15, 28), (eb, cs, 28)]
 tk : TkAt W (w.heap.size + 1) a c zs s
 eb : w.heap.size + 1 < eb
section
variable {w W W' : World} {eb : Nat} {a : Option Addr} {c : Nat} {zs : List Int} {s s' : LS} {cs : List Value}
theorem PSt.took (h : PSt w W eb a c zs s cs) (ht : TkAt W' (w.heap.size + 1) a c zs s') (hc : Chg (fun k => k = w.heap.size + 1) W W') : PSt w W' eb a c zs s' cs :=
 ⟨h.mem.chg hc (fun k hk q => by have q : k = w.heap.size + 1 := q; omega) (fun b hb q => by
  have q : b.1 = w.heap.size + 1 := q
  have := h.eb
  simp at hb
  rcases hb with rfl | rfl <;> dsimp only at q <;> omega), ht, h.eb⟩
theorem PSt.put {cs' : List Value} (h : PSt w W eb a c zs s cs) (hm : Mem w W' [(w.heap.size, Z15, 28), (eb, cs', 28)]) (hc : Chg (fun k => k = eb) W W') : PSt w W' eb a c zs s cs' :=
 ⟨hm, h.tk.chg hc (fun q => by have q : w.heap.size + 1 = eb := q; have := h.eb; omega), h.eb⟩
theorem PSt.grow (h : PSt w W eb a c zs s cs) (g : Grow.G W W') : PSt w W' eb a c zs s cs := ⟨h.mem.grow g, h.tk.grow g, h.eb⟩
/-- A change further on. -/
theorem PSt.far {G : Nat → Prop} (h : PSt w W eb a c zs s cs) (hc : Chg G W W') (hG : ∀ k, k ≤ eb → ¬ G k) : PSt w W' eb a c zs s cs :=
 ⟨h.mem.chg hc (fun k hk => hG k (by have := h.eb; omega)) (fun b hb => by
  have := h.eb
  simp at hb
  rcases hb with rfl | rfl
  ·
   exact hG _ (by dsimp only; omega)
  ·
   exact hG _ (Nat.le_refl _)), h.tk.chg hc (hG _ (by have := h.eb; omega)), h.eb⟩
theorem BySl.below {B sb : Nat} (h : BySl w sb a c zs) (k : Below B w W) (hs : sb < B) : BySl W sb a c zs := h.chg (Chg.ofBelow k) (by show ¬ B ≤ sb; omega)
theorem PSt.num (h : PSt w W eb a c zs s cs) {sb n : Nat} (hs : BySl w sb a c zs) (hsb : sb < w.heap.size) (hz : zs.length ≤ 1000000) (hn : n ≤ 4) (hbt : Bts s.1) :
  Calls Tryz.prog 48 #[.pointer (some ⟨w.heap.size + 1, 0, none⟩), .int .i64 n] W fun e W' => e = .returned (.int .i64 (Qnum n s).1) ∧ PSt w W' eb a c zs (Qnum n s).2 cs ∧ Chg (fun k => k = w.heap.size + 1) W W' :=
 (tk_num (w.heap.size + 1) sb a c zs s n W h.tk (hs.below h.mem.below hsb) (by omega) hn hz hbt).mono fun e W' ⟨h1, h2, h3⟩ => ⟨h1, h.took h2 h3, h3⟩
theorem PSt.txt (h : PSt w W eb a c zs s cs) {sb : Nat} (hs : BySl w sb a c zs) (hsb : sb < w.heap.size) (hz : zs.length ≤ 1000000) (hbt : Bts s.1) :
  Calls Tryz.prog 49 #[.pointer (some ⟨w.heap.size + 1, 0, none⟩)] W fun e W' => e = .returned (.string (Qtxt s).1) ∧ PSt w W' eb a c zs (Qtxt s).2 cs ∧ Chg (fun k => k = w.heap.size + 1) W W' :=
 (tk_txt (w.heap.size + 1) sb a c zs s W h.tk (hs.below h.mem.below hsb) (by omega) hz hbt).mono fun e W' ⟨h1, h2, h3⟩ => ⟨h1, h.took h2 h3, h3⟩
/-- One cell of the event's box is set. -/
theorem PSt.store {ops : Array Oper} {rest : List Oper} {o : Oper} {α : Act} {Q : Exit → Act → World → Prop} {t : TypeId} {p x : Operand} (ho : o.op = .store t p x) (hgd : o.guard = none)
  {off : Nat} (hp : α.eval p = .pointer (some ⟨eb, off, none⟩)) {v : Value} (hx : α.eval x = v) (hv : v.cells = #[v]) (hs : (Tryz.prog.info? t).map (·.size) = some 1)
  (h : PSt w W eb a c zs s cs) (hoff : off < cs.length) (h1 : v.oneCell' = true)
  (k : ∀ W', PSt w W' eb a c zs s (cs.set off v) → Chg (fun k => k = eb) W W' → Stay (wpList Tryz.prog ops Q rest (α.put o.dst undef) W')) : wpList Tryz.prog ops Q (o :: rest) α W := by
 refine Mem.store 1 ho hgd hp hx (vs := [v]) hv hs h.mem rfl rfl (by omega) (by simpa using h1) fun W' hm hc => k W' (h.put ?_ hc) hc
 have e : cs.take off ++ [v] ++ cs.drop (off + [v].length) = cs.set off v := by
  rw [List.set_eq_take_append_cons_drop, if_pos hoff]; simp
 rw [e] at hm
 simpa using hm
end
theorem qnum_one (k : Int) (r : List Int) : Qnum 1 (k :: r, false) = (k, (r, false)) := by
 unfold Qnum
 rw [qtk_some (by simp)]
 simp [valB]
theorem rp_bad {k : Int} {r : List Int} {X : EvD} {s : LS} (hk : ¬ (k < 1 ∨ 13 < k)) (h : evQ k r = (X, s)) (hs : s.2 = true) : evParse (k :: r) = (ev0, 10) := by
 rw [parse_q]; dsimp only; rw [if_neg hk, h, if_pos hs]
theorem rp_more {k : Int} {r : List Int} {X : EvD} {s : LS} (hk : ¬ (k < 1 ∨ 13 < k)) (h : evQ k r = (X, s)) (hs : s.2 = false) (hl : s.1 ≠ []) : evParse (k :: r) = (ev0, 11) := by
 rw [parse_q]; dsimp only; rw [if_neg hk, h, if_neg (by simp [hs]), if_pos hl]
theorem rp_chk {k : Int} {r : List Int} {X : EvD} {s : LS} (hk : ¬ (k < 1 ∨ 13 < k)) (h : evQ k r = (X, s)) (hs : s.2 = false) (hl : s.1 = []) (hc : X.chk ≠ 0) : evParse (k :: r) = (ev0, X.chk) := by
 rw [parse_q]; dsimp only; rw [if_neg hk, h, if_neg (by simp [hs]), if_neg (by simp [hl]), if_pos hc]
theorem rp_ok {k : Int} {r : List Int} {X : EvD} {s : LS} (hk : ¬ (k < 1 ∨ 13 < k)) (h : evQ k r = (X, s)) (hs : s.2 = false) (hl : s.1 = []) (hc : X.chk = 0) : evParse (k :: r) = (X, 0) := by
 rw [parse_q]; dsimp only; rw [if_neg hk, h, if_neg (by simp [hs]), if_neg (by simp [hl]), if_neg (by simp [hc])]
theorem rp_kind {k : Int} {r : List Int} (hk : k < 1 ∨ 13 < k) : evParse (k :: r) = (ev0, 12) := by
 rw [parse_q]; dsimp only; rw [if_pos hk]

set_option maxHeartbeats 4000000 in
theorem rparse_nil (a : Option Addr) (c : Nat) (w : World) :
  Calls Tryz.prog 22 #[.slice a 0 c] w fun x w' => ParseR [] w x w' := by
 have CE : (Tryz.prog.info? 28).map (·.size) = some 15 := by kernel_rfl
 have CI : (Tryz.prog.info? 3).map (·.size) = some 1 := by kernel_rfl
 have CS : (Tryz.prog.info? 9).map (·.size) = some 1 := by kernel_rfl
 have TB := Lib.hid (fun W (h : TkAt W (w.heap.size + 1) a c [] ([], false)) => tk_num0 (w.heap.size + 1) a c W h)
 have RB := Lib.hid (show evParse [] = (ev0, 10) from rfl)
 go_enter Tryz.func22, Tryz.ntmps22
 go_wp2_with fail
 have GA := Grow.G.alloc (Grow.G.alloc (Grow.G.refl w) (.cells Z15.toArray 28)) (.cells #[.slice a 0 c, .int .i64 0, .bool false] 88)
 have M0 := (Mem.alloc' (Mem.nil w) Z15 28 (g := w.heap.size) rfl).grow (Grow.G.alloc (Grow.G.refl _) (.cells #[.slice a 0 c, .int .i64 0, .bool false] 88))
 have KT0 : TkAt ((w.alloc (.cells Z15.toArray 28)).alloc (.cells #[.slice a 0 c, .int .i64 0, .bool false] 88)) (w.heap.size + 1) a c [] ([], false) := ⟨0, Nat.zero_le _, rfl, by exact Blk.new' (by simp)⟩
 refine (TB.out _ KT0).mono ?_
 rintro e W1 ⟨rfl, KT1, C1⟩
 have M1 := M0.chg C1 (fun k hk q => by have q : k = w.heap.size + 1 := q; omega) (fun b hb q => by
  have q : b.1 = w.heap.size + 1 := q
  simp at hb
  subst hb
  dsimp only at q
  omega)
 simp only [K0, K1, L1, L2, K2, K3, K4, K5, K6, K7, Nat.reduceAdd, Nat.reduceSub] at M1
 have HM1 := Lib.hid M1
 have HK1 := Lib.hid KT1
 have sz1 := C1.size
 simp only [World.size_alloc] at sz1
 clear M0 KT0 GA M1 KT1 C1 TB
 go_wp2_with (refine Mem.storeAll 1 (t := 28) rfl rfl rfl rfl CE (Mem.alloc' HM1.out _ _ rfl) rfl rfl rfl rfl ?_; intro W2 M2 C2)
 simp only [K0, K1, L1, L2, K2, K3, K4, K5, K6, K7, Nat.reduceAdd, Nat.reduceSub] at M2
 have P0 : PSt w W2 W1.heap.size a c [] ([], true) _ := ⟨M2, (HK1.out.grow (Grow.G.alloc (Grow.G.refl _) _)).chg C2 (fun q => by have q : w.heap.size + 1 = W1.heap.size := q; omega), by omega⟩
 have HP := Lib.hid P0
 clear M2 C2 P0 HM1 HK1
 refine Stay.go ?_
 generalize W1.heap.size = eb at *
 have q2 := HP.out.tk.bad
 dsimp only at q2
 go_wp2_with (first | (refine Mem.storeAll 0 (t := 28) rfl rfl rfl rfl CE HP.out.mem rfl rfl rfl rfl ?_; intro W9 M9 C9) | (refine Mem.load1 1 (t := 3) rfl rfl rfl Tryz.underlying3 rfl HP.out.mem rfl rfl ?_))
 simp only [K0, K1, L1, L2, K2, K3, K4, K5, K6, K7, Nat.reduceAdd, Nat.reduceSub] at M9
 have HM := Lib.hid M9
 clear M9 C9
 refine Stay.go ?_
 have BF := HM.out.blk (i := 0) rfl
 go_wp2_with fail
 refine bodyPost_ret (v := .tuple #[.agg Z15.toArray, .int .i64 10]) (by simp [Z15, results, Tryz.results22, go_sem, BF.cell]) rfl ⟨none, 0, ?_, ?_, HM.out.below⟩
 ·
  rw [RB.out]; rfl
 ·
  rw [RB.out]; exact .inl rfl
set_option maxHeartbeats 4000000 in
theorem rparse_out (sb : Nat) (a : Option Addr) (c : Nat) (zs r : List Int) (k : Int) (w : World) (hs : BySl w sb a c zs) (hsb : sb < w.heap.size) (hz : zs.length ≤ 1000000) (hbt : Bts zs) (hzs : zs = k :: r) (hk : k < 1 ∨ 13 < k) :
  Calls Tryz.prog 22 #[.slice a zs.length c] w fun x w' => ParseR zs w x w' := by
 have CE : (Tryz.prog.info? 28).map (·.size) = some 15 := by kernel_rfl
 have CI : (Tryz.prog.info? 3).map (·.size) = some 1 := by kernel_rfl
 have CS : (Tryz.prog.info? 9).map (·.size) = some 1 := by kernel_rfl
 have TB := Lib.hid (fun W (h : TkAt W (w.heap.size + 1) a c zs (zs, false)) (hb : BySl W sb a c zs) => tk_num (w.heap.size + 1) sb a c zs (zs, false) 1 W h hb (by omega) (by decide) hz hbt)
 rw [show Qnum 1 (zs, false) = (k, (r, false)) from by rw [hzs]; exact qnum_one _ _] at TB
 dsimp only at TB
 have RB := Lib.hid (show evParse zs = (ev0, 12) from by rw [hzs]; exact rp_kind hk)
 have HS := Lib.hid hs
 clear hs hbt hzs
 go_enter Tryz.func22, Tryz.ntmps22
 go_wp2_with fail
 have GA := Grow.G.alloc (Grow.G.alloc (Grow.G.refl w) (.cells Z15.toArray 28)) (.cells #[.slice a zs.length c, .int .i64 0, .bool false] 88)
 have M0 := (Mem.alloc' (Mem.nil w) Z15 28 (g := w.heap.size) rfl).grow (Grow.G.alloc (Grow.G.refl _) (.cells #[.slice a zs.length c, .int .i64 0, .bool false] 88))
 have KT0 : TkAt ((w.alloc (.cells Z15.toArray 28)).alloc (.cells #[.slice a zs.length c, .int .i64 0, .bool false] 88)) (w.heap.size + 1) a c zs (zs, false) := ⟨0, Nat.zero_le _, rfl, by exact Blk.new' (by simp)⟩
 refine (TB.out _ KT0 (HS.out.below (Below.mono GA (Nat.le_refl _)) hsb)).mono ?_
 rintro e W1 ⟨rfl, KT1, C1⟩
 have M1 := M0.chg C1 (fun k hk q => by have q : k = w.heap.size + 1 := q; omega) (fun b hb q => by
  have q : b.1 = w.heap.size + 1 := q
  simp at hb
  subst hb
  dsimp only at q
  omega)
 simp only [K0, K1, L1, L2, K2, K3, K4, K5, K6, K7, Nat.reduceAdd, Nat.reduceSub] at M1
 have HM1 := Lib.hid M1
 have HK1 := Lib.hid KT1
 have sz1 := C1.size
 simp only [World.size_alloc] at sz1
 clear M0 KT0 GA M1 KT1 C1 TB HS
 go_wp2_with (refine Mem.storeAll 1 (t := 28) rfl rfl rfl rfl CE (Mem.alloc' HM1.out _ _ rfl) rfl rfl rfl rfl ?_; intro W2 M2 C2)
 simp only [K0, K1, L1, L2, K2, K3, K4, K5, K6, K7, Nat.reduceAdd, Nat.reduceSub] at M2
 have P0 : PSt w W2 W1.heap.size a c zs (r, false) _ := ⟨M2, (HK1.out.grow (Grow.G.alloc (Grow.G.refl _) _)).chg C2 (fun q => by have q : w.heap.size + 1 = W1.heap.size := q; omega), by omega⟩
 have HP := Lib.hid P0
 clear M2 C2 P0 HM1 HK1
 refine Stay.go ?_
 generalize W1.heap.size = eb at *
 have q2 := HP.out.tk.bad
 dsimp only at q2
 rcases hk with hk | hk
 ·
  go_wp2_with (first | (refine Mem.storeAll 0 (t := 28) rfl rfl rfl rfl CE HP.out.mem rfl rfl rfl rfl ?_; intro W9 M9 C9) | (refine Mem.load1 1 (t := 3) rfl rfl rfl Tryz.underlying3 rfl HP.out.mem rfl rfl ?_))
  simp only [K0, K1, L1, L2, K2, K3, K4, K5, K6, K7, Nat.reduceAdd, Nat.reduceSub] at M9
  have HM := Lib.hid M9
  clear M9 C9
  refine Stay.go ?_
  have BF := HM.out.blk (i := 0) rfl
  go_wp2_with fail
  refine bodyPost_ret (v := .tuple #[.agg Z15.toArray, .int .i64 12]) (by simp [Z15, results, Tryz.results22, go_sem, BF.cell]) rfl ⟨none, 0, ?_, ?_, HM.out.below⟩
  ·
   rw [RB.out]; rfl
  ·
   rw [RB.out]; exact .inl rfl
 ·
  have hk2 : ¬ k < 1 := by omega
  have q0 := evd (HP.out.mem.blk (i := 1) rfl) (i := 0) rfl
  go_wp2_with (first | (refine Mem.storeAll 0 (t := 28) rfl rfl rfl rfl CE HP.out.mem rfl rfl rfl rfl ?_; intro W9 M9 C9) | (refine Mem.load1 1 (t := 3) rfl rfl rfl Tryz.underlying3 rfl HP.out.mem rfl rfl ?_))
  simp only [K0, K1, L1, L2, K2, K3, K4, K5, K6, K7, Nat.reduceAdd, Nat.reduceSub] at M9
  have HM := Lib.hid M9
  clear M9 C9 q0
  refine Stay.go ?_
  have BF := HM.out.blk (i := 0) rfl
  go_wp2_with fail
  refine bodyPost_ret (v := .tuple #[.agg Z15.toArray, .int .i64 12]) (by simp [Z15, results, Tryz.results22, go_sem, BF.cell]) rfl ⟨none, 0, ?_, ?_, HM.out.below⟩
  ·
   rw [RB.out]; rfl
  ·
   rw [RB.out]; exact .inl rfl

theorem Qtgt_eq (s : LS) : Qtgt s = (⟨(Qtxt s).1, (Qtxt (Qtxt s).2).1, (Qnum 1 (Qtxt (Qtxt s).2).2).1⟩, (Qnum 1 (Qtxt (Qtxt s).2).2).2) := rfl
theorem Qtgts_ok {s : LS} (h : Bts s.1) : ∀ n, ∀ t ∈ (Qtgts n s).1, t.ok
 | 0, t, ht => by cases ht
 | n + 1, t, ht => by
  cases hb : (Qtgts n s).2.2 with
  | true => rw [Qtgts_halt hb] at ht; exact Qtgts_ok h n t ht
  | false =>
   rw [Qtgts_succ hb] at ht
   rcases List.mem_append.1 ht with ht | ht
   ·
    exact Qtgts_ok h n t ht
   ·
    rw [List.mem_singleton] at ht
    subst ht
    rw [Qtgt_eq]
    have b0 := Qtgts_bts h n
    have b1 := Qtxt_bts b0
    have b2 := Qtxt_bts b1
    have z0 := Qtxt_size b0
    have z1 := Qtxt_size b1
    have z2 := Qnum_bd (k := 1) b2
    exact ⟨by dsimp only; omega, by dsimp only; omega, by dsimp only; unfold wf64; omega⟩
/-- One more target behind a row of the call's own; what it has changed is that row alone. -/
theorem wpList_moret2 {ops : Array Oper} {rest : List Oper} {o : Oper} {a : Act} {Q : Exit → Act → World → Prop} {w : World} (hgd : o.guard = none) (s x : Operand)
  (ho : o.op = .call { callee := .builtin .append, args := #[s, x], argTypes := #[24, 24] })
  {ts : List Tgt} {sa : Option Addr} {n c : Nat} (hs : a.eval s = .slice sa n c) {b c2 : Nat} (t : Tgt) (hx : a.eval x = .slice (some ⟨b, 0, none⟩) 1 c2) (hb : Blk w b #[.string t.rv, .string t.tg, .int .i64 t.pc] 39)
  {base : Nat} (hown : OwnTs w base (.slice sa n c) ts) (hn : ts.length = n) (hb1 : base ≤ w.heap.size) (hl : ts.length ≤ 1000)
  (h : ∀ sa' c' w', OwnTs w' base (.slice sa' (n + 1) c') (ts ++ [t]) → Chg (fun k => (Value.slice sa n c).ownBlock = some k) w w' → wpList Tryz.prog ops Q rest (a.put o.dst (.slice sa' (n + 1) c')) w') : wpList Tryz.prog ops Q (o :: rest) a w := by
 obtain ⟨i0, hi, hz0, hz1, hz2⟩ := info_parts infoT
 subst hn
 refine Fr.wpList_append_src _ hgd s x 24 ho base 39 i0 (.agg #[.string ⟨#[]⟩, .string ⟨#[]⟩, .int .i64 0]) 3 40 Tryz.underlying24 hi hz0 hz1 hz2 rfl (by decide) _ _ _ hs hown _ 1 c2 [.string t.rv, .string t.tg, .int .i64 t.pc] hx rfl (.inr ⟨_, rfl, news_blk hb⟩) (by intro u hu; simp at hu; rcases hu with rfl | rfl | rfl <;> rfl) ?_ ?_ hb1 ?_
 ·
  unfold maxLen; omega
 ·
  omega
 ·
  intro v' w' hown' hfr
  obtain ⟨sa', c', rfl⟩ := own_shape hown'
  refine h sa' c' w' ?_ (Chg.ofFr hfr)
  unfold OwnTs
  rw [flatT_snoc, List.length_append]
  exact hown'
/-- One cell of a block. -/
theorem Box.store1 {P : Program} {ops : Array Oper} {rest : List Oper} {o : Oper} {α : Act} {Q : Exit → Act → World → Prop} {t : TypeId} {p x : Operand} {W : World} (ho : o.op = .store t p x) (hgd : o.guard = none)
  {g off : Nat} (hp : α.eval p = .pointer (some ⟨g, off, none⟩)) {v : Value} (hx : α.eval x = v) (hv : v.cells = #[v]) (hs : (P.info? t).map (·.size) = some 1)
  {cs : List Value} {T : TypeId} (hb : Blk W g cs.toArray T) (hoff : off < cs.length) (h1 : v.oneCell' = true)
  (k : ∀ W', Blk W' g (cs.set off v).toArray T → Chg (fun k => k = g) W W' → Stay (wpList P ops Q rest (α.put o.dst undef) W')) : wpList P ops Q (o :: rest) α W := by
 have hc : P.cellsOf t = 1 := by
  unfold Program.cellsOf
  cases hi : P.info? t with
  | none => rw [hi] at hs; cases hs
  | some i => rw [hi] at hs; simpa using hs
 refine Box.store ho hgd hp hx hb ⟨by cases hi : P.info? t with
  | none => rw [hi] at hs; cases hs
  | some i => rfl, by rw [hc, hv]; rfl⟩ (by rw [hv]; simp; omega) (by rw [hv]; exact fun u hu => by simp at hu; subst hu; exact h1) fun w' hb' hch => k w' ?_ hch
 have e : cs.take off ++ [v] ++ cs.drop (off + [v].length) = cs.set off v := by
  rw [List.set_eq_take_append_cons_drop, if_pos hoff]; simp
 rw [hv] at hb'
 simp only [List.toList_toArray] at hb'
 rw [e] at hb'
 exact hb'
set_option maxHeartbeats 8000000 in
theorem rparse_2 (sb : Nat) (a : Option Addr) (c : Nat) (zs r : List Int) (w : World) (hs : BySl w sb a c zs) (hsb : sb < w.heap.size) (hz : zs.length ≤ 1000000) (hbt : Bts zs) (hzs : zs = 2 :: r) :
  Calls Tryz.prog 22 #[.slice a zs.length c] w fun x w' => ParseR zs w x w' := by
 have CE : (Tryz.prog.info? 28).map (·.size) = some 15 := by kernel_rfl
 have CI : (Tryz.prog.info? 3).map (·.size) = some 1 := by kernel_rfl
 have CS : (Tryz.prog.info? 9).map (·.size) = some 1 := by kernel_rfl
 have CT : (Tryz.prog.info? 24).map (·.size) = some 1 := by kernel_rfl
 have CX : (Tryz.prog.info? 39).map (·.size) = some 3 := by kernel_rfl
 have b0 : Bts r := fun x hx => hbt x (by rw [hzs]; simp [hx])
 have TB := Lib.hid (fun W (h : TkAt W (w.heap.size + 1) a c zs (zs, false)) (hb : BySl W sb a c zs) => tk_num (w.heap.size + 1) sb a c zs (zs, false) 1 W h hb (by omega) (by decide) hz hbt)
 rw [show Qnum 1 (zs, false) = (2, (r, false)) from by rw [hzs]; exact qnum_one _ _] at TB
 dsimp only at TB
 obtain ⟨s1, h1⟩ : ∃ s, (Qnum 4 (r, false)).2 = s := ⟨_, rfl⟩
 have b1 : Bts s1.1 := h1 ▸ Qnum_bts (s := (r, false)) b0
 have T1 := Lib.hid (fun W eb cs (h : PSt w W eb a c zs (r, false) cs) => h.num (n := 4) hs hsb hz (by decide) b0)
 rw [h1] at T1
 obtain ⟨s2, h2⟩ : ∃ s, (Qtxt s1).2 = s := ⟨_, rfl⟩
 have b2 : Bts s2.1 := h2 ▸ Qtxt_bts (s := s1) b1
 have T2 := Lib.hid (fun W eb cs (h : PSt w W eb a c zs s1 cs) => h.txt hs hsb hz b1)
 have z2 := Qtxt_size (s := s1) b1
 rw [h2] at T2
 obtain ⟨s3, h3⟩ : ∃ s, (Qtxt s2).2 = s := ⟨_, rfl⟩
 have b3 : Bts s3.1 := h3 ▸ Qtxt_bts (s := s2) b2
 have T3 := Lib.hid (fun W eb cs (h : PSt w W eb a c zs s2 cs) => h.txt hs hsb hz b2)
 have z3 := Qtxt_size (s := s2) b2
 rw [h3] at T3
 obtain ⟨s4, h4⟩ : ∃ s, (Qnum 1 s3).2 = s := ⟨_, rfl⟩
 have b4 : Bts s4.1 := h4 ▸ Qnum_bts (s := s3) b3
 have T4 := Lib.hid (fun W eb cs (h : PSt w W eb a c zs s3 cs) => h.num (n := 1) hs hsb hz (by decide) b3)
 rw [h4] at T4
 obtain ⟨s5, h5⟩ : ∃ s, (Qnum 1 s4).2 = s := ⟨_, rfl⟩
 have b5 : Bts s5.1 := h5 ▸ Qnum_bts (s := s4) b4
 have T5 := Lib.hid (fun W eb cs (h : PSt w W eb a c zs s4 cs) => h.num (n := 1) hs hsb hz (by decide) b4)
 rw [h5] at T5
 have nb := Qnum_bd (k := 1) b4
 have NN : Hid ((Qnum 1 s4).1 = ((Qnum 1 s4).1.toNat : Int)) := Lib.hid (Int.toNat_of_nonneg nb.1).symm
 have E : Hid (evQ 2 r = ({ ev0 with k := 2, n := (Qnum 4 (r, false)).1, rn := (Qtxt s1).1, rc := (Qtxt s2).1, rr := (Qnum 1 s3).1, ts := (Qtgts (Qnum 1 s4).1.toNat s5).1 }, (Qtgts (Qnum 1 s4).1.toNat s5).2)) := Lib.hid (by subst h5 h4 h3 h2 h1; rfl)
 clear h1 h2 h3 h4 h5
 have OKS := Lib.hid (fun n => Qtgts_ok b5 n)
 have LN := Lib.hid (fun n => Qtgts_len s5 n)
 have BT := Lib.hid (fun n => Qtgts_bts b5 n)
 have STP := Lib.hid (fun n m (h : (Qtgts n s5).2.2 = true) (hm : n ≤ m) => Qtgts_stop h m hm)
 have TX := Lib.hid (fun s (hb : Bts s.1) W eb cs (h : PSt w W eb a c zs s cs) => h.txt hs hsb hz hb)
 have TN := Lib.hid (fun s (hb : Bts s.1) W eb cs (h : PSt w W eb a c zs s cs) => h.num (n := 1) hs hsb hz (by decide) hb)
 generalize (Qnum 4 (r, false)).1 = v1 at *
 generalize (Qtxt s1).1 = v2 at *
 generalize (Qtxt s2).1 = v3 at *
 generalize (Qnum 1 s3).1 = v4 at *
 generalize (Qnum 1 s4).1.toNat = m at *
 generalize (Qnum 1 s4).1 = m' at *
 obtain rfl := NN.out
 have hm : m ≤ 255 := by omega
 have SCK := Lib.hid (fun ta tc W (ht : TgtSl W ta (Qtgts m s5).1) => (show Calls Tryz.prog 15 #[.agg #[.int .i64 2, .string ⟨#[]⟩, .string ⟨#[]⟩, .int .i64 v1, .int .i64 0, .string ⟨#[]⟩, .int .i64 0, .int .i64 0, .int .i64 0, .int .i64 0, .int .i64 0, .string v2, .string v3, .slice ta (Qtgts m s5).1.length tc, .int .i64 v4]] W fun x W' => x = .returned (.int .i64 (EvD.chk { ev0 with k := 2, n := v1, rn := v2, rc := v3, rr := v4, ts := (Qtgts m s5).1 })) ∧ Grow.G W W' from rchk_any { ev0 with k := 2, n := v1, rn := v2, rc := v3, rr := v4, ts := (Qtgts m s5).1 } ta tc W ⟨(show ByteArray.size _ ≤ _ from by exact Nat.zero_le _), (show ByteArray.size _ ≤ _ from by exact Nat.zero_le _), (show ByteArray.size _ ≤ _ from by exact Nat.zero_le _), (show ByteArray.size v2 ≤ _ from by omega), (show ByteArray.size v3 ≤ _ from by omega), (show List.length (Qtgts m s5).1 ≤ _ from by have := LN.out m; omega), ht, fun i hi => OKS.out m _ (by
  have hi : i < (Qtgts m s5).1.length := hi
  show (Qtgts m s5).1.getD i tg0 ∈ _
  simp [List.getD, hi])⟩))
 have RB := Lib.hid (fun h => (show evParse zs = (ev0, 10) from by rw [hzs]; exact rp_bad (by decide) E.out h))
 have RM := Lib.hid (fun h1 h2 => (show evParse zs = (ev0, 11) from by rw [hzs]; exact rp_more (by decide) E.out h1 h2))
 have RC := Lib.hid (fun h1 h2 h3 => (show evParse zs = (ev0, _) from by rw [hzs]; exact rp_chk (by decide) E.out h1 h2 h3))
 have RO := Lib.hid (fun h1 h2 h3 => (show evParse zs = (_, 0) from by rw [hzs]; exact rp_ok (by decide) E.out h1 h2 h3))
 generalize EvD.chk { ev0 with k := 2, n := v1, rn := v2, rc := v3, rr := v4, ts := (Qtgts m s5).1 } = ck at *
 have HS := Lib.hid hs
 have HB5 := Lib.hid b5
 clear hs hbt hzs E b0 b1 b2 b3 b4 b5 NN nb
 go_enter Tryz.func22, Tryz.ntmps22
 go_wp2_with fail
 have GA := Grow.G.alloc (Grow.G.alloc (Grow.G.refl w) (.cells Z15.toArray 28)) (.cells #[.slice a zs.length c, .int .i64 0, .bool false] 88)
 have M0 := (Mem.alloc' (Mem.nil w) Z15 28 (g := w.heap.size) rfl).grow (Grow.G.alloc (Grow.G.refl _) (.cells #[.slice a zs.length c, .int .i64 0, .bool false] 88))
 have KT0 : TkAt ((w.alloc (.cells Z15.toArray 28)).alloc (.cells #[.slice a zs.length c, .int .i64 0, .bool false] 88)) (w.heap.size + 1) a c zs (zs, false) := ⟨0, Nat.zero_le _, rfl, by exact Blk.new' (by simp)⟩
 refine (TB.out _ KT0 (HS.out.below (Below.mono GA (Nat.le_refl _)) hsb)).mono ?_
 rintro e W1 ⟨rfl, KT1, C1⟩
 have M1 := M0.chg C1 (fun k hk q => by have q : k = w.heap.size + 1 := q; omega) (fun b hb q => by
  have q : b.1 = w.heap.size + 1 := q
  simp at hb
  subst hb
  dsimp only at q
  omega)
 simp only [K0, K1, L1, L2, K2, K3, K4, K5, K6, K7, Nat.reduceAdd, Nat.reduceSub] at M1
 have HM1 := Lib.hid M1
 have HK1 := Lib.hid KT1
 have sz1 := C1.size
 simp only [World.size_alloc] at sz1
 clear M0 KT0 GA M1 KT1 C1 TB HS
 go_wp2_with (refine Mem.storeAll 1 (t := 28) rfl rfl rfl rfl CE (Mem.alloc' HM1.out _ _ rfl) rfl rfl rfl rfl ?_; intro W2 M2 C2)
 simp only [K0, K1, L1, L2, K2, K3, K4, K5, K6, K7, Nat.reduceAdd, Nat.reduceSub] at M2
 have P0 : PSt w W2 W1.heap.size a c zs (r, false) _ := ⟨M2, (HK1.out.grow (Grow.G.alloc (Grow.G.refl _) _)).chg C2 (fun q => by have q : w.heap.size + 1 = W1.heap.size := q; omega), by omega⟩
 have HP := Lib.hid P0
 clear M2 C2 P0 HM1 HK1
 refine Stay.go ?_
 generalize W1.heap.size = eb at *
 have q2 := HP.out.tk.bad
 dsimp only at q2
 have q0 := evd (HP.out.mem.blk (i := 1) rfl) (i := 0) rfl
 go_wp2_with (refine Mem.load1 1 (t := 3) rfl rfl rfl Tryz.underlying3 rfl HP.out.mem rfl rfl ?_)
 clear q2 q0
 refine (T1.out _ _ _ HP.out).mono ?_
 rintro e U1 ⟨rfl, P1, -⟩
 replace HP := Lib.hid P1
 clear P1 T1
 have q2 := True.intro
 go_wp2_with (refine PSt.store (t := 3) rfl rfl rfl rfl rfl CI HP.out (Nat.le_of_ble_eq_true rfl) rfl ?_; intro V1 P1 C1)
 simp only [K0, K1, L1, L2, K2, K3, K4, K5, K6, K7, Nat.reduceAdd, Nat.reduceSub] at P1
 replace HP := Lib.hid P1
 clear P1 C1
 refine Stay.go ?_
 replace q2 := HP.out.tk.bad
 have q0 := evd (HP.out.mem.blk (i := 1) rfl) (i := 0) rfl
 go_wp2_with (refine Mem.load1 1 (t := 3) rfl rfl rfl Tryz.underlying3 rfl HP.out.mem rfl rfl ?_)
 clear q2 q0
 refine (T2.out _ _ _ HP.out).mono ?_
 rintro e U2 ⟨rfl, P2, -⟩
 replace HP := Lib.hid P2
 clear P2 T2
 have q2 := True.intro
 go_wp2_with (refine PSt.store (t := 9) rfl rfl rfl rfl rfl CS HP.out (Nat.le_of_ble_eq_true rfl) rfl ?_; intro V2 P2 C2)
 simp only [K0, K1, L1, L2, K2, K3, K4, K5, K6, K7, Nat.reduceAdd, Nat.reduceSub] at P2
 replace HP := Lib.hid P2
 clear P2 C2
 refine Stay.go ?_
 replace q2 := HP.out.tk.bad
 have q0 := evd (HP.out.mem.blk (i := 1) rfl) (i := 0) rfl
 go_wp2_with (refine Mem.load1 1 (t := 3) rfl rfl rfl Tryz.underlying3 rfl HP.out.mem rfl rfl ?_)
 clear q2 q0
 refine (T3.out _ _ _ HP.out).mono ?_
 rintro e U3 ⟨rfl, P3, -⟩
 replace HP := Lib.hid P3
 clear P3 T3
 have q2 := True.intro
 go_wp2_with (refine PSt.store (t := 9) rfl rfl rfl rfl rfl CS HP.out (Nat.le_of_ble_eq_true rfl) rfl ?_; intro V3 P3 C3)
 simp only [K0, K1, L1, L2, K2, K3, K4, K5, K6, K7, Nat.reduceAdd, Nat.reduceSub] at P3
 replace HP := Lib.hid P3
 clear P3 C3
 refine Stay.go ?_
 replace q2 := HP.out.tk.bad
 have q0 := evd (HP.out.mem.blk (i := 1) rfl) (i := 0) rfl
 go_wp2_with (refine Mem.load1 1 (t := 3) rfl rfl rfl Tryz.underlying3 rfl HP.out.mem rfl rfl ?_)
 clear q2 q0
 refine (T4.out _ _ _ HP.out).mono ?_
 rintro e U4 ⟨rfl, P4, -⟩
 replace HP := Lib.hid P4
 clear P4 T4
 have q2 := True.intro
 go_wp2_with (refine PSt.store (t := 3) rfl rfl rfl rfl rfl CI HP.out (Nat.le_of_ble_eq_true rfl) rfl ?_; intro V4 P4 C4)
 simp only [K0, K1, L1, L2, K2, K3, K4, K5, K6, K7, Nat.reduceAdd, Nat.reduceSub] at P4
 replace HP := Lib.hid P4
 clear P4 C4
 refine Stay.go ?_
 replace q2 := HP.out.tk.bad
 have q0 := evd (HP.out.mem.blk (i := 1) rfl) (i := 0) rfl
 go_wp2_with (refine Mem.load1 1 (t := 3) rfl rfl rfl Tryz.underlying3 rfl HP.out.mem rfl rfl ?_)
 clear q2 q0
 refine (T5.out _ _ _ HP.out).mono ?_
 rintro e U5 ⟨rfl, P5, -⟩
 replace HP := Lib.hid P5
 clear P5 T5
 have q2 := True.intro
 go_wp2_with fail
 clear q2
 refine wp_specE ?id (fun a0 A W => ∃ x7 x8 x80 x81 x82 x83 x84 x85 x86 x87 x88 x89 x90 x91 x92 x93 x94 x95 x96 x97 x98 x99 x100 x101 x102 x103 x104 x105 x106 x107 x108 : Value, A = (((((((((((((((((((((((((((((((a0.put (some 7) x7).put (some 8) x8).put (some 80) x80).put (some 81) x81).put (some 82) x82).put (some 83) x83).put (some 84) x84).put (some 85) x85).put (some 86) x86).put (some 87) x87).put (some 88) x88).put (some 89) x89).put (some 90) x90).put (some 91) x91).put (some 92) x92).put (some 93) x93).put (some 94) x94).put (some 95) x95).put (some 96) x96).put (some 97) x97).put (some 98) x98).put (some 99) x99).put (some 100) x100).put (some 101) x101).put (some 102) x102).put (some 103) x103).put (some 104) x104).put (some 105) x105).put (some 106) x106).put (some 107) x107).put (some 108) x108) ∧ Hid (∃ ta tc, PSt w W eb a c zs (Qtgts m s5).2 [.int .i64 2, .string ⟨#[]⟩, .string ⟨#[]⟩, .int .i64 v1, .int .i64 0, .string ⟨#[]⟩, .int .i64 0, .int .i64 0, .int .i64 0, .int .i64 0, .int .i64 0, .string v2, .string v3, .slice ta (Qtgts m s5).1.length tc, .int .i64 v4] ∧ OwnTs W (eb + 1) (.slice ta (Qtgts m s5).1.length tc) (Qtgts m s5).1)) ?_ ?_
 all_goals simp only [Act.put, L0, L1, L2]
 ·
  go_loopw [7] (fun ii wr => ∃ i : Nat, i ≤ m ∧ ii = .int .i64 i ∧ Hid (∃ ta tc, PSt w wr eb a c zs (Qtgts i s5).2 [.int .i64 2, .string ⟨#[]⟩, .string ⟨#[]⟩, .int .i64 v1, .int .i64 0, .string ⟨#[]⟩, .int .i64 0, .int .i64 0, .int .i64 0, .int .i64 0, .int .i64 0, .string v2, .string v3, .slice ta (Qtgts i s5).1.length tc, .int .i64 v4] ∧ OwnTs wr (eb + 1) (.slice ta (Qtgts i s5).1.length tc) (Qtgts i s5).1)) (fun ii _ => m - (intOf ii).toNat)
  case atStart => exact ⟨0, by omega, rfl, Lib.hid ⟨none, 0, HP.out, ⟨rfl, .inl ⟨rfl, rfl⟩⟩⟩⟩
  case round =>
   clear HP
   obtain ⟨i, hi, rfl, OI⟩ := hrel
   have q2 : ∃ x, wr.cell? ⟨w.heap.size + 1, 2, none⟩ = some (.bool x) ∧ (Qtgts i s5).2.2 = x := by
    obtain ⟨ta, tc, hp, ow⟩ := OI.out
    exact ⟨_, hp.tk.bad, rfl⟩
   obtain ⟨x, q2, hx⟩ := q2
   by_cases hlt : i < m
   rotate_left
   ·
    obtain rfl : i = m := by omega
    clear TX TN RB RM RC RO SCK
    go_wp2_with fail
    dsimp only [PostE]
    refine ⟨rfl, ?_⟩
    (repeat apply Exists.intro)
    exact ⟨rfl, OI⟩
   cases x with
   | true =>
    have OE : Hid (∃ ta tc, PSt w wr eb a c zs (Qtgts m s5).2 [.int .i64 2, .string ⟨#[]⟩, .string ⟨#[]⟩, .int .i64 v1, .int .i64 0, .string ⟨#[]⟩, .int .i64 0, .int .i64 0, .int .i64 0, .int .i64 0, .int .i64 0, .string v2, .string v3, .slice ta (Qtgts m s5).1.length tc, .int .i64 v4] ∧ OwnTs wr (eb + 1) (.slice ta (Qtgts m s5).1.length tc) (Qtgts m s5).1) := Lib.hid (by rw [STP.out i m hx hi]; exact OI.out)
    clear TX TN RB RM RC RO SCK OI hx
    go_wp2_with fail
    dsimp only [PostE]
    refine ⟨rfl, ?_⟩
    (repeat apply Exists.intro)
    exact ⟨rfl, OE⟩
   | false =>
    obtain ⟨ta, tc, hp, ow⟩ := OI.out
    have SN := Lib.hid (Qtgts_succ (s := s5) (n := i) hx)
    have LI := LN.out i
    have BI := Lib.hid (BT.out i)
    have HP := Lib.hid hp
    have HO := Lib.hid ow
    clear hp ow OI hx STP
    rw [Qtgt_eq] at SN
    obtain ⟨Z, hZ⟩ : ∃ Z, Qtgts (i + 1) s5 = Z := ⟨_, rfl⟩
    rw [hZ] at SN
    have HZ := Lib.hid hZ
    clear hZ
    generalize Qtgts i s5 = y at *
    obtain ⟨ts, t0⟩ := y
    dsimp only at *
    have X0 := Lib.hid (TX.out t0 BI.out)
    have B1 := Qtxt_bts BI.out
    have X1 := Lib.hid (TX.out (Qtxt t0).2 B1)
    have B2 := Qtxt_bts B1
    have X2 := Lib.hid (TN.out (Qtxt (Qtxt t0).2).2 B2)
    clear B1 B2 BI TX TN RB RM RC RO SCK LN BT OKS HB5
    generalize (Qtxt t0).1 = u1 at *
    generalize (Qtxt t0).2 = t1 at *
    generalize (Qtxt t1).1 = u2 at *
    generalize (Qtxt t1).2 = t2 at *
    generalize (Qnum 1 t2).1 = u3 at *
    generalize (Qnum 1 t2).2 = t3 at *
    go_wp2_with fail
    refine (X0.out _ _ _ HP.out).mono ?_
    rintro e U1 ⟨rfl, P1, C1⟩
    have O1 := C1.own HO.out (fun k hk q => by have := (HO.out.lt k hk).1; have := HP.out.eb; have q : k = w.heap.size + 1 := q; omega)
    replace HP := Lib.hid P1
    replace HO := Lib.hid O1
    clear P1 O1 C1 X0 q2
    have sx := HP.out.mem.lt (i := 1) rfl
    have se := HP.out.eb
    go_wp2_with (refine Box.storeAll (t := 39) rfl rfl rfl rfl CX (Blk.new _ _ _) (vs := [.string u1, .string ⟨#[]⟩, .int .i64 0]) rfl rfl rfl ?_; intro V1 BX C1; change Stay _)
    have P1 := (HP.out.grow (Grow.G.alloc (Grow.G.refl _) (.cells #[.string ⟨#[]⟩, .string ⟨#[]⟩, .int .i64 0] 39))).far C1 (fun k hk q => by have q : k = U1.heap.size := q; omega)
    have O1 := own_past HO.out (Grow.G.alloc (Grow.G.refl _) (.cells #[.string ⟨#[]⟩, .string ⟨#[]⟩, .int .i64 0] 39)) C1 (Nat.le_refl _)
    have LB := Lib.hid (fun k (hk : (Value.slice ta ts.length tc).ownBlock = some k) => HO.out.lt k hk)
    replace HP := Lib.hid P1
    replace HO := Lib.hid O1
    have HX := Lib.hid BX
    clear P1 O1 C1 BX
    refine Stay.go ?_
    generalize U1.heap.size = xb at *
    go_wp2_with fail
    refine (X1.out _ _ _ HP.out).mono ?_
    rintro e U2 ⟨rfl, P1, C1⟩
    have O1 := C1.own HO.out (fun k hk q => by have := (HO.out.lt k hk).1; have q : k = w.heap.size + 1 := q; omega)
    have BX := HX.out.chg C1 (fun q => by have q : xb = w.heap.size + 1 := q; omega)
    replace HP := Lib.hid P1
    replace HO := Lib.hid O1
    replace HX := Lib.hid BX
    clear P1 O1 C1 X1 BX
    go_wp2_with (refine Box.store1 (t := 9) rfl rfl rfl rfl rfl CS HX.out (Nat.le_of_ble_eq_true rfl) rfl ?_; intro V2 BX C1)
    have P1 := HP.out.far C1 (fun k hk q => by have q : k = xb := q; omega)
    have O1 := C1.own HO.out (fun k hk q => by have := (LB.out k hk).2; have q : k = xb := q; omega)
    simp only [List.set_cons_zero, List.set_cons_succ] at BX
    replace HP := Lib.hid P1
    replace HO := Lib.hid O1
    replace HX := Lib.hid BX
    clear P1 O1 C1 BX
    refine Stay.go ?_
    go_wp2_with fail
    refine (X2.out _ _ _ HP.out).mono ?_
    rintro e U3 ⟨rfl, P1, C1⟩
    have O1 := C1.own HO.out (fun k hk q => by have := (HO.out.lt k hk).1; have q : k = w.heap.size + 1 := q; omega)
    have BX := HX.out.chg C1 (fun q => by have q : xb = w.heap.size + 1 := q; omega)
    replace HP := Lib.hid P1
    replace HO := Lib.hid O1
    replace HX := Lib.hid BX
    clear P1 O1 C1 X2 BX
    go_wp2_with (refine Box.store1 (t := 3) rfl rfl rfl rfl rfl CI HX.out (Nat.le_of_ble_eq_true rfl) rfl ?_; intro V3 BX C1)
    have P1 := HP.out.far C1 (fun k hk q => by have q : k = xb := q; omega)
    have O1 := C1.own HO.out (fun k hk q => by have := (LB.out k hk).2; have q : k = xb := q; omega)
    simp only [List.set_cons_zero, List.set_cons_succ] at BX
    replace HP := Lib.hid P1
    replace HO := Lib.hid O1
    replace HX := Lib.hid BX
    clear P1 O1 C1 BX
    refine Stay.go ?_
    go_wp2_with (first | refine Mem.load1 1 (t := 24) rfl rfl rfl Tryz.underlying24 rfl HP.out.mem rfl rfl ?_ | refine Box.loadAll (t := 39) rfl rfl rfl Tryz.underlying39 CX HX.out rfl ?_ | (at_builtin; refine wpList_moret2 rfl _ _ rfl rfl ⟨u1, u2, u3⟩ rfl (Blk.new _ _ _) (own_later HO.out (Grow.G.alloc (Grow.G.refl _) _)) rfl (by have := HP.out.mem.lt (i := 1) rfl; simp; omega) (by omega) ?_))
    intro sa5 c5 w5 ho5 ch5
    have P1 := (HP.out.grow (Grow.G.alloc (Grow.G.refl _) (.cells #[.string u1, .string u2, .int .i64 u3] 39))).far ch5 (fun k hk q => by have := (LB.out k q).1; omega)
    replace HP := Lib.hid P1
    replace HO := Lib.hid ho5
    clear P1 ho5 ch5 HX
    go_wp2_with (refine PSt.store (t := 24) rfl rfl rfl rfl rfl CT HP.out (Nat.le_of_ble_eq_true rfl) rfl ?_; intro V5 P5 C5)
    simp only [K0, K1, L1, L2, K2, K3, K4, K5, K6, K7, Nat.reduceAdd, Nat.reduceSub] at P5
    have O5 := C5.own HO.out (fun k hk q => by have := (HO.out.lt k hk).1; have q : k = eb := q; omega)
    replace HP := Lib.hid P5
    replace HO := Lib.hid O5
    clear P5 O5 C5
    refine Stay.go ?_
    have NEW : Hid (∃ ta tc, PSt w V5 eb a c zs Z.2 [.int .i64 2, .string ⟨#[]⟩, .string ⟨#[]⟩, .int .i64 v1, .int .i64 0, .string ⟨#[]⟩, .int .i64 0, .int .i64 0, .int .i64 0, .int .i64 0, .int .i64 0, .string v2, .string v3, .slice ta Z.1.length tc, .int .i64 v4] ∧ OwnTs V5 (eb + 1) (.slice ta Z.1.length tc) Z.1) := Lib.hid (by
     have e := SN.out
     subst e
     refine ⟨sa5, c5, ?_, ?_⟩
     ·
      rw [List.length_append]; exact HP.out
     ·
      rw [List.length_append]; exact HO.out)
    clear HP HO SN
    go_wp2_with fail
    go_roundw
    case rel => exact ⟨i + 1, by omega, by go_num, by rw [HZ.out]; exact NEW⟩
    case measure => simp [intOf]; omega
 ·
  rintro A V6 ⟨x7, x8, x80, x81, x82, x83, x84, x85, x86, x87, x88, x89, x90, x91, x92, x93, x94, x95, x96, x97, x98, x99, x100, x101, x102, x103, x104, x105, x106, x107, x108, rfl, OF⟩
  obtain ⟨ta, tc, hp, ow⟩ := OF.out
  have HP := Lib.hid hp
  have tg := OwnTs.tgts ow
  have HT := Lib.hid tg.1
  have HTB := Lib.hid tg.2
  clear hp ow OF tg
  have q2 := HP.out.tk.bad
  have q0 := evd (HP.out.mem.blk (i := 1) rfl) (i := 0) rfl
  obtain ⟨p, q1, hp1, hp2⟩ := HP.out.tk.at
  have SL := SCK.out ta tc
  clear TX TN OKS LN BT STP SCK HB5
  generalize (Qtgts m s5).1 = ts at *
  generalize (Qtgts m s5).2 = sm at *
  have SCK := Lib.hid SL
  clear SL
  obtain ⟨l, b⟩ := sm
  dsimp only at q2 hp2 RB RM RC RO
  cases b with
  | true =>
   replace RB := Lib.hid (RB.out rfl)
   clear RM RC RO
   go_wp2_with (first | (refine Mem.storeAll 0 (t := 28) rfl rfl rfl rfl CE HP.out.mem rfl rfl rfl rfl ?_; intro W9 M9 C9) | (refine Mem.load1 1 (t := 3) rfl rfl rfl Tryz.underlying3 rfl HP.out.mem rfl rfl ?_))
   simp only [K0, K1, L1, L2, K2, K3, K4, K5, K6, K7, Nat.reduceAdd, Nat.reduceSub] at M9
   have HM := Lib.hid M9
   clear M9 C9
   refine Stay.go ?_
   have BF := HM.out.blk (i := 0) rfl
   go_wp2_with fail
   refine bodyPost_ret (v := .tuple #[.agg Z15.toArray, .int .i64 10]) (by simp [Z15, results, Tryz.results22, go_sem, BF.cell]) rfl ⟨none, 0, ?_, ?_, HM.out.below⟩
   ·
    rw [RB.out]; rfl
   ·
    rw [RB.out]; exact .inl rfl
  | false =>
   have HP2 := Lib.hid hp2
   have ep := congrArg List.length hp2
   rw [List.length_drop] at ep
   clear hp2
   by_cases hlt : (p : Int) < (zs.length : Int)
   ·
    replace RM := Lib.hid (RM.out (by trivial) (by intro q; rw [q] at ep; simp at ep; omega))
    clear RB RC RO
    go_wp2_with (first | (refine Mem.storeAll 0 (t := 28) rfl rfl rfl rfl CE HP.out.mem rfl rfl rfl rfl ?_; intro W9 M9 C9) | (refine Mem.load1 1 (t := 3) rfl rfl rfl Tryz.underlying3 rfl HP.out.mem rfl rfl ?_))
    simp only [K0, K1, L1, L2, K2, K3, K4, K5, K6, K7, Nat.reduceAdd, Nat.reduceSub] at M9
    have HM := Lib.hid M9
    clear M9 C9
    refine Stay.go ?_
    have BF := HM.out.blk (i := 0) rfl
    go_wp2_with fail
    refine bodyPost_ret (v := .tuple #[.agg Z15.toArray, .int .i64 11]) (by simp [Z15, results, Tryz.results22, go_sem, BF.cell]) rfl ⟨none, 0, ?_, ?_, HM.out.below⟩
    ·
     rw [RM.out]; rfl
    ·
     rw [RM.out]; exact .inl rfl
   ·
    have hl0 : l = [] := List.eq_nil_of_length_eq_zero (by omega)
    replace RC := Lib.hid (RC.out (by trivial) hl0)
    replace RO := Lib.hid (RO.out (by trivial) hl0)
    clear RB RM hl0 ep
    go_wp2_with (first | (refine Mem.loadAll 1 (t := 28) rfl rfl rfl Tryz.underlying28 CE HP.out.mem rfl rfl ?_) | (refine Mem.load1 1 (t := 3) rfl rfl rfl Tryz.underlying3 rfl HP.out.mem rfl rfl ?_))
    refine (SCK.out _ HT.out).mono ?_
    rintro e W5 ⟨rfl, g5⟩
    have P5 := HP.out.grow g5
    replace HP := Lib.hid P5
    replace HT := Lib.hid (HT.out.later g5)
    clear P5 g5 q1 q2 q0 SCK
    by_cases hc : ck = 0
    ·
     subst hc
     replace RO := Lib.hid (RO.out rfl)
     clear RC
     go_wp2_with (first | (refine Mem.loadAll 1 (t := 28) rfl rfl rfl Tryz.underlying28 CE HP.out.mem rfl rfl ?_) | (refine Mem.storeAll 0 (t := 28) rfl rfl rfl rfl CE HP.out.mem rfl rfl rfl rfl ?_; intro W9 M9 C9))
     simp only [K0, K1, L1, L2, K2, K3, K4, K5, K6, K7, Nat.reduceAdd, Nat.reduceSub] at M9
     have HM := Lib.hid M9
     have HT9 := Lib.hid (HT.out.chg C9 (fun b o h q => by have := (HTB.out b o h).1; have := HP.out.eb; have q : b = w.heap.size := q; omega))
     clear M9 C9
     refine Stay.go ?_
     have BF := HM.out.blk (i := 0) rfl
     go_wp2_with fail
     refine bodyPost_ret (v := .tuple #[.agg #[.int .i64 2, .string ⟨#[]⟩, .string ⟨#[]⟩, .int .i64 v1, .int .i64 0, .string ⟨#[]⟩, .int .i64 0, .int .i64 0, .int .i64 0, .int .i64 0, .int .i64 0, .string v2, .string v3, .slice ta ts.length tc, .int .i64 v4], .int .i64 0]) (by simp [results, Tryz.results22, go_sem, BF.cell]) rfl ⟨ta, tc, ?_, ?_, HM.out.below⟩
     ·
      rw [RO.out]; rfl
     ·
      rw [RO.out]; exact HT9.out
    ·
     have hc2 : (ck != 0) = true := by simpa using hc
     replace RC := Lib.hid (RC.out hc)
     clear RO hc
     go_wp2_with (first | (refine Mem.storeAll 0 (t := 28) rfl rfl rfl rfl CE HP.out.mem rfl rfl rfl rfl ?_; intro W9 M9 C9) | (refine Mem.load1 1 (t := 3) rfl rfl rfl Tryz.underlying3 rfl HP.out.mem rfl rfl ?_))
     simp only [K0, K1, L1, L2, K2, K3, K4, K5, K6, K7, Nat.reduceAdd, Nat.reduceSub] at M9
     have HM := Lib.hid M9
     clear M9 C9
     refine Stay.go ?_
     have BF := HM.out.blk (i := 0) rfl
     go_wp2_with fail
     refine bodyPost_ret (v := .tuple #[.agg Z15.toArray, .int .i64 ck]) (by simp [Z15, results, Tryz.results22, go_sem, BF.cell]) rfl ⟨none, 0, ?_, ?_, HM.out.below⟩
     ·
      rw [RC.out]; rfl
     ·
      rw [RC.out]; exact .inl rfl

set_option maxHeartbeats 8000000 in
theorem rparse_3 (sb : Nat) (a : Option Addr) (c : Nat) (zs r : List Int) (w : World) (hs : BySl w sb a c zs) (hsb : sb < w.heap.size) (hz : zs.length ≤ 1000000) (hbt : Bts zs) (hzs : zs = 3 :: r) :
  Calls Tryz.prog 22 #[.slice a zs.length c] w fun x w' => ParseR zs w x w' := by
 have CE : (Tryz.prog.info? 28).map (·.size) = some 15 := by kernel_rfl
 have CI : (Tryz.prog.info? 3).map (·.size) = some 1 := by kernel_rfl
 have CS : (Tryz.prog.info? 9).map (·.size) = some 1 := by kernel_rfl
 have b0 : Bts r := fun x hx => hbt x (by rw [hzs]; simp [hx])
 have T0 := Lib.hid (fun W eb cs (h : PSt w W eb a c zs (zs, false) cs) => h.num (n := 1) hs hsb hz (by decide) hbt)
 have TB := Lib.hid (fun W (h : TkAt W (w.heap.size + 1) a c zs (zs, false)) (hb : BySl W sb a c zs) => tk_num (w.heap.size + 1) sb a c zs (zs, false) 1 W h hb (by omega) (by decide) hz hbt)
 rw [show Qnum 1 (zs, false) = (3, (r, false)) from by rw [hzs]; exact qnum_one _ _] at TB
 dsimp only at TB
 obtain ⟨s1, h1⟩ : ∃ s, (Qnum 4 (r, false)).2 = s := ⟨_, rfl⟩
 have b1 : Bts s1.1 := h1 ▸ Qnum_bts (s := (r, false)) b0
 have T1 := Lib.hid (fun W eb cs (h : PSt w W eb a c zs (r, false) cs) => h.num (n := 4) hs hsb hz (by decide) b0)
 rw [h1] at T1
 obtain ⟨s2, h2⟩ : ∃ s, (Qtxt s1).2 = s := ⟨_, rfl⟩
 have b2 : Bts s2.1 := h2 ▸ Qtxt_bts (s := s1) b1
 have T2 := Lib.hid (fun W eb cs (h : PSt w W eb a c zs s1 cs) => h.txt hs hsb hz b1)
 have z2 := Qtxt_size (s := s1) b1
 rw [h2] at T2
 obtain ⟨s3, h3⟩ : ∃ s, (Qnum 4 s2).2 = s := ⟨_, rfl⟩
 have b3 : Bts s3.1 := h3 ▸ Qnum_bts (s := s2) b2
 have T3 := Lib.hid (fun W eb cs (h : PSt w W eb a c zs s2 cs) => h.num (n := 4) hs hsb hz (by decide) b2)
 rw [h3] at T3
 have E : Hid (evQ 3 r = ({ ev0 with k := 3, n := (Qnum 4 (r, false)).1, nm := (Qtxt s1).1, dr := (Qnum 4 s2).1 }, s3)) := Lib.hid (by subst h3 h2 h1; rfl)
 clear h1 h2 h3
 generalize (Qnum 4 (r, false)).1 = v1 at *
 generalize (Qtxt s1).1 = v2 at *
 generalize (Qnum 4 s2).1 = v3 at *
 have SCK := Lib.hid (fun W => (show Calls Tryz.prog 15 #[.agg #[.int .i64 3, .string v2, .string ⟨#[]⟩, .int .i64 v1, .int .i64 v3, .string ⟨#[]⟩, .int .i64 0, .int .i64 0, .int .i64 0, .int .i64 0, .int .i64 0, .string ⟨#[]⟩, .string ⟨#[]⟩, .slice none 0 0, .int .i64 0]] W fun x W' => x = .returned (.int .i64 (EvD.chk { ev0 with k := 3, n := v1, nm := v2, dr := v3 })) ∧ Grow.G W W' from rchk_any { ev0 with k := 3, n := v1, nm := v2, dr := v3 } none 0 W ⟨(show ByteArray.size v2 ≤ _ from by omega), (show ByteArray.size _ ≤ _ from by exact Nat.zero_le _), (show ByteArray.size _ ≤ _ from by exact Nat.zero_le _), (show ByteArray.size _ ≤ _ from by exact Nat.zero_le _), (show ByteArray.size _ ≤ _ from by exact Nat.zero_le _), Nat.zero_le _, .inl rfl, fun i hi => absurd hi (Nat.not_lt_zero _)⟩))
 have RB := Lib.hid (fun h => (show evParse zs = (ev0, 10) from by rw [hzs]; exact rp_bad (by decide) E.out h))
 have RM := Lib.hid (fun h1 h2 => (show evParse zs = (ev0, 11) from by rw [hzs]; exact rp_more (by decide) E.out h1 h2))
 have RC := Lib.hid (fun h1 h2 h3 => (show evParse zs = (ev0, _) from by rw [hzs]; exact rp_chk (by decide) E.out h1 h2 h3))
 have RO := Lib.hid (fun h1 h2 h3 => (show evParse zs = (_, 0) from by rw [hzs]; exact rp_ok (by decide) E.out h1 h2 h3))
 have XV : Hid (∀ x, x = EvD.chk { ev0 with k := 3, n := v1, nm := v2, dr := v3 } → x = EvD.chk { ev0 with k := 3, n := v1, nm := v2, dr := v3 }) := Lib.hid (fun _ h => h)
 generalize EvD.chk { ev0 with k := 3, n := v1, nm := v2, dr := v3 } = ck at *
 have HS := Lib.hid hs
 have NZ : Hid (zs.length = r.length + 1) := Lib.hid (by rw [hzs]; rfl)
 clear hs hbt hzs E XV T0 b0 b1 b2 b3
 go_enter Tryz.func22, Tryz.ntmps22
 go_wp2_with fail
 have GA := Grow.G.alloc (Grow.G.alloc (Grow.G.refl w) (.cells Z15.toArray 28)) (.cells #[.slice a zs.length c, .int .i64 0, .bool false] 88)
 have M0 := (Mem.alloc' (Mem.nil w) Z15 28 (g := w.heap.size) rfl).grow (Grow.G.alloc (Grow.G.refl _) (.cells #[.slice a zs.length c, .int .i64 0, .bool false] 88))
 have KT0 : TkAt ((w.alloc (.cells Z15.toArray 28)).alloc (.cells #[.slice a zs.length c, .int .i64 0, .bool false] 88)) (w.heap.size + 1) a c zs (zs, false) := ⟨0, Nat.zero_le _, rfl, by exact Blk.new' (by simp)⟩
 refine (TB.out _ KT0 (HS.out.below (Below.mono GA (Nat.le_refl _)) hsb)).mono ?_
 rintro e W1 ⟨rfl, KT1, C1⟩
 have M1 := M0.chg C1 (fun k hk q => by have q : k = w.heap.size + 1 := q; omega) (fun b hb q => by
  have q : b.1 = w.heap.size + 1 := q
  simp at hb
  subst hb
  dsimp only at q
  omega)
 (try simp only [K0, K1, L1, L2, K2, K3, K4, K5, K6, K7, Nat.reduceAdd, Nat.reduceSub] at M1)
 have HM1 := Lib.hid M1
 have HK1 := Lib.hid KT1
 have sz1 := C1.size
 simp only [World.size_alloc] at sz1
 clear M0 KT0 GA M1 KT1 C1 TB HS
 go_wp2_with (refine Mem.storeAll 1 (t := 28) rfl rfl rfl rfl CE (Mem.alloc' HM1.out _ _ rfl) rfl rfl rfl rfl ?_; intro W2 M2 C2)
 (try simp only [K0, K1, L1, L2, K2, K3, K4, K5, K6, K7, Nat.reduceAdd, Nat.reduceSub] at M2)
 have P0 : PSt w W2 W1.heap.size a c zs (r, false) _ := ⟨M2, (HK1.out.grow (Grow.G.alloc (Grow.G.refl _) _)).chg C2 (fun q => by have q : w.heap.size + 1 = W1.heap.size := q; omega), by omega⟩
 have HP := Lib.hid P0
 clear M2 C2 P0 HM1 HK1
 refine Stay.go ?_
 generalize W1.heap.size = eb at *
 have q2 := HP.out.tk.bad
 dsimp only at q2
 have q0 := evd (HP.out.mem.blk (i := 1) rfl) (i := 0) rfl
 go_wp2_with (refine Mem.load1 1 (t := 3) rfl rfl rfl Tryz.underlying3 rfl HP.out.mem rfl rfl ?_)
 clear q2 q0
 refine (T1.out _ _ _ HP.out).mono ?_
 rintro e U1 ⟨rfl, P1, -⟩
 replace HP := Lib.hid P1
 clear P1 T1
 have q2 := True.intro
 go_wp2_with (refine PSt.store (t := 3) rfl rfl rfl rfl rfl CI HP.out (Nat.le_of_ble_eq_true rfl) rfl ?_; intro V1 P1 C1)
 simp only [K0, K1, L1, L2, K2, K3, K4, K5, K6, K7, Nat.reduceAdd, Nat.reduceSub] at P1
 replace HP := Lib.hid P1
 clear P1 C1
 refine Stay.go ?_
 replace q2 := HP.out.tk.bad
 have q0 := evd (HP.out.mem.blk (i := 1) rfl) (i := 0) rfl
 go_wp2_with (refine Mem.load1 1 (t := 3) rfl rfl rfl Tryz.underlying3 rfl HP.out.mem rfl rfl ?_)
 clear q2 q0
 refine (T2.out _ _ _ HP.out).mono ?_
 rintro e U2 ⟨rfl, P2, -⟩
 replace HP := Lib.hid P2
 clear P2 T2
 have q2 := True.intro
 go_wp2_with (refine PSt.store (t := 9) rfl rfl rfl rfl rfl CS HP.out (Nat.le_of_ble_eq_true rfl) rfl ?_; intro V2 P2 C2)
 simp only [K0, K1, L1, L2, K2, K3, K4, K5, K6, K7, Nat.reduceAdd, Nat.reduceSub] at P2
 replace HP := Lib.hid P2
 clear P2 C2
 refine Stay.go ?_
 replace q2 := HP.out.tk.bad
 have q0 := evd (HP.out.mem.blk (i := 1) rfl) (i := 0) rfl
 go_wp2_with (refine Mem.load1 1 (t := 3) rfl rfl rfl Tryz.underlying3 rfl HP.out.mem rfl rfl ?_)
 clear q2 q0
 refine (T3.out _ _ _ HP.out).mono ?_
 rintro e U3 ⟨rfl, P3, -⟩
 replace HP := Lib.hid P3
 clear P3 T3
 have q2 := True.intro
 go_wp2_with (refine PSt.store (t := 3) rfl rfl rfl rfl rfl CI HP.out (Nat.le_of_ble_eq_true rfl) rfl ?_; intro V3 P3 C3)
 simp only [K0, K1, L1, L2, K2, K3, K4, K5, K6, K7, Nat.reduceAdd, Nat.reduceSub] at P3
 replace HP := Lib.hid P3
 clear P3 C3
 refine Stay.go ?_
 replace q2 := HP.out.tk.bad
 have q0 := evd (HP.out.mem.blk (i := 1) rfl) (i := 0) rfl
 obtain ⟨p, q1, hp1, hp2⟩ := HP.out.tk.at
 obtain ⟨l, b⟩ := s3
 dsimp only at q2 hp2 RB RM RC RO
 cases b with
 | true =>
  replace RB := Lib.hid (RB.out rfl)
  clear RM RC RO
  go_wp2_with (first | (refine Mem.storeAll 0 (t := 28) rfl rfl rfl rfl CE HP.out.mem rfl rfl rfl rfl ?_; intro W9 M9 C9) | (refine Mem.load1 1 (t := 3) rfl rfl rfl Tryz.underlying3 rfl HP.out.mem rfl rfl ?_))
  simp only [K0, K1, L1, L2, K2, K3, K4, K5, K6, K7, Nat.reduceAdd, Nat.reduceSub] at M9
  have HM := Lib.hid M9
  clear M9 C9
  refine Stay.go ?_
  have BF := HM.out.blk (i := 0) rfl
  go_wp2_with fail
  refine bodyPost_ret (v := .tuple #[.agg Z15.toArray, .int .i64 10]) (by simp [Z15, results, Tryz.results22, go_sem, BF.cell]) rfl ⟨none, 0, ?_, ?_, HM.out.below⟩
  ·
   rw [RB.out]; rfl
  ·
   rw [RB.out]; exact .inl rfl
 | false =>
  have HP2 := Lib.hid hp2
  have ep := congrArg List.length hp2
  rw [List.length_drop] at ep
  clear hp2
  by_cases hlt : (p : Int) < (zs.length : Int)
  ·
   replace RM := Lib.hid (RM.out (by trivial) (by intro q; rw [q] at ep; simp at ep; omega))
   clear RB RC RO
   go_wp2_with (first | (refine Mem.storeAll 0 (t := 28) rfl rfl rfl rfl CE HP.out.mem rfl rfl rfl rfl ?_; intro W9 M9 C9) | (refine Mem.load1 1 (t := 3) rfl rfl rfl Tryz.underlying3 rfl HP.out.mem rfl rfl ?_))
   simp only [K0, K1, L1, L2, K2, K3, K4, K5, K6, K7, Nat.reduceAdd, Nat.reduceSub] at M9
   have HM := Lib.hid M9
   clear M9 C9
   refine Stay.go ?_
   have BF := HM.out.blk (i := 0) rfl
   go_wp2_with fail
   refine bodyPost_ret (v := .tuple #[.agg Z15.toArray, .int .i64 11]) (by simp [Z15, results, Tryz.results22, go_sem, BF.cell]) rfl ⟨none, 0, ?_, ?_, HM.out.below⟩
   ·
    rw [RM.out]; rfl
   ·
    rw [RM.out]; exact .inl rfl
  ·
   have hl0 : l = [] := List.eq_nil_of_length_eq_zero (by omega)
   replace RC := Lib.hid (RC.out (by trivial) hl0)
   replace RO := Lib.hid (RO.out (by trivial) hl0)
   clear RB RM hl0 ep
   go_wp2_with (first | (refine Mem.loadAll 1 (t := 28) rfl rfl rfl Tryz.underlying28 CE HP.out.mem rfl rfl ?_) | (refine Mem.load1 1 (t := 3) rfl rfl rfl Tryz.underlying3 rfl HP.out.mem rfl rfl ?_))
   refine (SCK.out _).mono ?_
   rintro e W5 ⟨rfl, g5⟩
   have P5 := HP.out.grow g5
   replace HP := Lib.hid P5
   clear P5 g5 q1 q2 q0 SCK
   by_cases hc : ck = 0
   ·
    subst hc
    replace RO := Lib.hid (RO.out rfl)
    clear RC
    go_wp2_with (first | (refine Mem.loadAll 1 (t := 28) rfl rfl rfl Tryz.underlying28 CE HP.out.mem rfl rfl ?_) | (refine Mem.storeAll 0 (t := 28) rfl rfl rfl rfl CE HP.out.mem rfl rfl rfl rfl ?_; intro W9 M9 C9))
    simp only [K0, K1, L1, L2, K2, K3, K4, K5, K6, K7, Nat.reduceAdd, Nat.reduceSub] at M9
    have HM := Lib.hid M9
    clear M9 C9
    refine Stay.go ?_
    have BF := HM.out.blk (i := 0) rfl
    go_wp2_with fail
    refine bodyPost_ret (v := .tuple #[.agg #[.int .i64 3, .string v2, .string ⟨#[]⟩, .int .i64 v1, .int .i64 v3, .string ⟨#[]⟩, .int .i64 0, .int .i64 0, .int .i64 0, .int .i64 0, .int .i64 0, .string ⟨#[]⟩, .string ⟨#[]⟩, .slice none 0 0, .int .i64 0], .int .i64 0]) (by simp [results, Tryz.results22, go_sem, BF.cell]) rfl ⟨none, 0, ?_, ?_, HM.out.below⟩
    ·
     rw [RO.out]; rfl
    ·
     rw [RO.out]; exact .inl rfl
   ·
    have hc2 : (ck != 0) = true := by simpa using hc
    replace RC := Lib.hid (RC.out hc)
    clear RO hc
    go_wp2_with (first | (refine Mem.storeAll 0 (t := 28) rfl rfl rfl rfl CE HP.out.mem rfl rfl rfl rfl ?_; intro W9 M9 C9) | (refine Mem.load1 1 (t := 3) rfl rfl rfl Tryz.underlying3 rfl HP.out.mem rfl rfl ?_))
    simp only [K0, K1, L1, L2, K2, K3, K4, K5, K6, K7, Nat.reduceAdd, Nat.reduceSub] at M9
    have HM := Lib.hid M9
    clear M9 C9
    refine Stay.go ?_
    have BF := HM.out.blk (i := 0) rfl
    go_wp2_with fail
    refine bodyPost_ret (v := .tuple #[.agg Z15.toArray, .int .i64 ck]) (by simp [Z15, results, Tryz.results22, go_sem, BF.cell]) rfl ⟨none, 0, ?_, ?_, HM.out.below⟩
    ·
     rw [RC.out]; rfl
    ·
     rw [RC.out]; exact .inl rfl

set_option maxHeartbeats 8000000 in
theorem rparse_9 (sb : Nat) (a : Option Addr) (c : Nat) (zs r : List Int) (w : World) (hs : BySl w sb a c zs) (hsb : sb < w.heap.size) (hz : zs.length ≤ 1000000) (hbt : Bts zs) (hzs : zs = 9 :: r) :
  Calls Tryz.prog 22 #[.slice a zs.length c] w fun x w' => ParseR zs w x w' := by
 have CE : (Tryz.prog.info? 28).map (·.size) = some 15 := by kernel_rfl
 have CI : (Tryz.prog.info? 3).map (·.size) = some 1 := by kernel_rfl
 have CS : (Tryz.prog.info? 9).map (·.size) = some 1 := by kernel_rfl
 have b0 : Bts r := fun x hx => hbt x (by rw [hzs]; simp [hx])
 have T0 := Lib.hid (fun W eb cs (h : PSt w W eb a c zs (zs, false) cs) => h.num (n := 1) hs hsb hz (by decide) hbt)
 have TB := Lib.hid (fun W (h : TkAt W (w.heap.size + 1) a c zs (zs, false)) (hb : BySl W sb a c zs) => tk_num (w.heap.size + 1) sb a c zs (zs, false) 1 W h hb (by omega) (by decide) hz hbt)
 rw [show Qnum 1 (zs, false) = (9, (r, false)) from by rw [hzs]; exact qnum_one _ _] at TB
 dsimp only at TB
 have E : Hid (evQ 9 r = ({ ev0 with k := 9 }, (r, false))) := Lib.hid (by rfl)
 have SCK := Lib.hid (fun W => (show Calls Tryz.prog 15 #[.agg #[.int .i64 9, .string ⟨#[]⟩, .string ⟨#[]⟩, .int .i64 0, .int .i64 0, .string ⟨#[]⟩, .int .i64 0, .int .i64 0, .int .i64 0, .int .i64 0, .int .i64 0, .string ⟨#[]⟩, .string ⟨#[]⟩, .slice none 0 0, .int .i64 0]] W fun x W' => x = .returned (.int .i64 (EvD.chk { ev0 with k := 9 })) ∧ Grow.G W W' from rchk_any { ev0 with k := 9 } none 0 W ⟨(show ByteArray.size _ ≤ _ from by exact Nat.zero_le _), (show ByteArray.size _ ≤ _ from by exact Nat.zero_le _), (show ByteArray.size _ ≤ _ from by exact Nat.zero_le _), (show ByteArray.size _ ≤ _ from by exact Nat.zero_le _), (show ByteArray.size _ ≤ _ from by exact Nat.zero_le _), Nat.zero_le _, .inl rfl, fun i hi => absurd hi (Nat.not_lt_zero _)⟩))
 have RB := Lib.hid (fun h => (show evParse zs = (ev0, 10) from by rw [hzs]; exact rp_bad (by decide) E.out h))
 have RM := Lib.hid (fun h1 h2 => (show evParse zs = (ev0, 11) from by rw [hzs]; exact rp_more (by decide) E.out h1 h2))
 have RC := Lib.hid (fun h1 h2 h3 => (show evParse zs = (ev0, _) from by rw [hzs]; exact rp_chk (by decide) E.out h1 h2 h3))
 have RO := Lib.hid (fun h1 h2 h3 => (show evParse zs = (_, 0) from by rw [hzs]; exact rp_ok (by decide) E.out h1 h2 h3))
 have XV : Hid (∀ x, x = EvD.chk { ev0 with k := 9 } → x = EvD.chk { ev0 with k := 9 }) := Lib.hid (fun _ h => h)
 generalize EvD.chk { ev0 with k := 9 } = ck at *
 have HS := Lib.hid hs
 have NZ : Hid (zs.length = r.length + 1) := Lib.hid (by rw [hzs]; rfl)
 clear hs hbt hzs E XV T0 b0
 go_enter Tryz.func22, Tryz.ntmps22
 go_wp2_with fail
 have GA := Grow.G.alloc (Grow.G.alloc (Grow.G.refl w) (.cells Z15.toArray 28)) (.cells #[.slice a zs.length c, .int .i64 0, .bool false] 88)
 have M0 := (Mem.alloc' (Mem.nil w) Z15 28 (g := w.heap.size) rfl).grow (Grow.G.alloc (Grow.G.refl _) (.cells #[.slice a zs.length c, .int .i64 0, .bool false] 88))
 have KT0 : TkAt ((w.alloc (.cells Z15.toArray 28)).alloc (.cells #[.slice a zs.length c, .int .i64 0, .bool false] 88)) (w.heap.size + 1) a c zs (zs, false) := ⟨0, Nat.zero_le _, rfl, by exact Blk.new' (by simp)⟩
 refine (TB.out _ KT0 (HS.out.below (Below.mono GA (Nat.le_refl _)) hsb)).mono ?_
 rintro e W1 ⟨rfl, KT1, C1⟩
 have M1 := M0.chg C1 (fun k hk q => by have q : k = w.heap.size + 1 := q; omega) (fun b hb q => by
  have q : b.1 = w.heap.size + 1 := q
  simp at hb
  subst hb
  dsimp only at q
  omega)
 (try simp only [K0, K1, L1, L2, K2, K3, K4, K5, K6, K7, Nat.reduceAdd, Nat.reduceSub] at M1)
 have HM1 := Lib.hid M1
 have HK1 := Lib.hid KT1
 have sz1 := C1.size
 simp only [World.size_alloc] at sz1
 clear M0 KT0 GA M1 KT1 C1 TB HS
 go_wp2_with (refine Mem.storeAll 1 (t := 28) rfl rfl rfl rfl CE (Mem.alloc' HM1.out _ _ rfl) rfl rfl rfl rfl ?_; intro W2 M2 C2)
 (try simp only [K0, K1, L1, L2, K2, K3, K4, K5, K6, K7, Nat.reduceAdd, Nat.reduceSub] at M2)
 have P0 : PSt w W2 W1.heap.size a c zs (r, false) _ := ⟨M2, (HK1.out.grow (Grow.G.alloc (Grow.G.refl _) _)).chg C2 (fun q => by have q : w.heap.size + 1 = W1.heap.size := q; omega), by omega⟩
 have HP := Lib.hid P0
 clear M2 C2 P0 HM1 HK1
 refine Stay.go ?_
 generalize W1.heap.size = eb at *
 have q2 := HP.out.tk.bad
 dsimp only at q2
 have q0 := evd (HP.out.mem.blk (i := 1) rfl) (i := 0) rfl
 obtain ⟨p, q1, hp1, hp2⟩ := HP.out.tk.at
 dsimp only at q2 hp2 RB RM RC RO
 have HP2 := Lib.hid hp2
 have ep := congrArg List.length hp2
 rw [List.length_drop] at ep
 clear hp2
 by_cases hlt : (p : Int) < (zs.length : Int)
 ·
  replace RM := Lib.hid (RM.out (by trivial) (by intro q; rw [q] at ep; simp at ep; omega))
  clear RB RC RO
  go_wp2_with (first | (refine Mem.storeAll 0 (t := 28) rfl rfl rfl rfl CE HP.out.mem rfl rfl rfl rfl ?_; intro W9 M9 C9) | (refine Mem.load1 1 (t := 3) rfl rfl rfl Tryz.underlying3 rfl HP.out.mem rfl rfl ?_))
  simp only [K0, K1, L1, L2, K2, K3, K4, K5, K6, K7, Nat.reduceAdd, Nat.reduceSub] at M9
  have HM := Lib.hid M9
  clear M9 C9
  refine Stay.go ?_
  have BF := HM.out.blk (i := 0) rfl
  go_wp2_with fail
  refine bodyPost_ret (v := .tuple #[.agg Z15.toArray, .int .i64 11]) (by simp [Z15, results, Tryz.results22, go_sem, BF.cell]) rfl ⟨none, 0, ?_, ?_, HM.out.below⟩
  ·
   rw [RM.out]; rfl
  ·
   rw [RM.out]; exact .inl rfl
 ·
  have hl0 : r = [] := List.eq_nil_of_length_eq_zero (by omega)
  replace RC := Lib.hid (RC.out (by trivial) hl0)
  replace RO := Lib.hid (RO.out (by trivial) hl0)
  clear RB RM hl0 ep
  go_wp2_with (first | (refine Mem.loadAll 1 (t := 28) rfl rfl rfl Tryz.underlying28 CE HP.out.mem rfl rfl ?_) | (refine Mem.load1 1 (t := 3) rfl rfl rfl Tryz.underlying3 rfl HP.out.mem rfl rfl ?_))
  refine (SCK.out _).mono ?_
  rintro e W5 ⟨rfl, g5⟩
  have P5 := HP.out.grow g5
  replace HP := Lib.hid P5
  clear P5 g5 q1 q2 q0 SCK
  by_cases hc : ck = 0
  ·
   subst hc
   replace RO := Lib.hid (RO.out rfl)
   clear RC
   go_wp2_with (first | (refine Mem.loadAll 1 (t := 28) rfl rfl rfl Tryz.underlying28 CE HP.out.mem rfl rfl ?_) | (refine Mem.storeAll 0 (t := 28) rfl rfl rfl rfl CE HP.out.mem rfl rfl rfl rfl ?_; intro W9 M9 C9))
   simp only [K0, K1, L1, L2, K2, K3, K4, K5, K6, K7, Nat.reduceAdd, Nat.reduceSub] at M9
   have HM := Lib.hid M9
   clear M9 C9
   refine Stay.go ?_
   have BF := HM.out.blk (i := 0) rfl
   go_wp2_with fail
   refine bodyPost_ret (v := .tuple #[.agg #[.int .i64 9, .string ⟨#[]⟩, .string ⟨#[]⟩, .int .i64 0, .int .i64 0, .string ⟨#[]⟩, .int .i64 0, .int .i64 0, .int .i64 0, .int .i64 0, .int .i64 0, .string ⟨#[]⟩, .string ⟨#[]⟩, .slice none 0 0, .int .i64 0], .int .i64 0]) (by simp [results, Tryz.results22, go_sem, BF.cell]) rfl ⟨none, 0, ?_, ?_, HM.out.below⟩
   ·
    rw [RO.out]; rfl
   ·
    rw [RO.out]; exact .inl rfl
  ·
   have hc2 : (ck != 0) = true := by simpa using hc
   replace RC := Lib.hid (RC.out hc)
   clear RO hc
   go_wp2_with (first | (refine Mem.storeAll 0 (t := 28) rfl rfl rfl rfl CE HP.out.mem rfl rfl rfl rfl ?_; intro W9 M9 C9) | (refine Mem.load1 1 (t := 3) rfl rfl rfl Tryz.underlying3 rfl HP.out.mem rfl rfl ?_))
   simp only [K0, K1, L1, L2, K2, K3, K4, K5, K6, K7, Nat.reduceAdd, Nat.reduceSub] at M9
   have HM := Lib.hid M9
   clear M9 C9
   refine Stay.go ?_
   have BF := HM.out.blk (i := 0) rfl
   go_wp2_with fail
   refine bodyPost_ret (v := .tuple #[.agg Z15.toArray, .int .i64 ck]) (by simp [Z15, results, Tryz.results22, go_sem, BF.cell]) rfl ⟨none, 0, ?_, ?_, HM.out.below⟩
   ·
    rw [RC.out]; rfl
   ·
    rw [RC.out]; exact .inl rfl
end Go.Proofs.YtnkekdmikopdgaaGreat

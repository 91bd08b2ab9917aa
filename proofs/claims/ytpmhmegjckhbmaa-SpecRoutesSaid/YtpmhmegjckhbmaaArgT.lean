/- How a configuration, a route that came in read. -/
import Derived.Test.YtpmhmegjckhbmaaArgs
import Derived.Test.YtpmhmegjckhbmaaLaw2a
namespace Go.Proofs.Ytpmhmegjckhbmaa
set_option linter.unusedVariables false
set_option linter.unusedSimpArgs false
open Go.ChangeShapes Go.WideShapes Go.ChangeAt Go.RowKit Go.Args

theorem wf64_i {n : Int} (h : (Lit.int .i64 n).wf = true) : wf64 n := by
  have := Go.bounds_i64 h
  exact ⟨by omega, by omega⟩
section
variable {H : Type} {enc : TypeId × Value → H} {W : World}
theorem rd_i64 {cs : List Value} {d : DataW H} (h : Rd enc Try.prog W 3 cs d) : ∃ n, cs = [.int .i64 n] ∧ wf64 n := by
  obtain ⟨n, h1, h2⟩ := h.int Try.underlying3
  exact ⟨n, h1, wf64_i h2⟩
theorem list6 {α : Type} {l : List α} (h : l.length = 6) : ∃ a b c d e f, l = [a, b, c, d, e, f] := by
  match l, h with
  | [a, b, c, d, e, f], _ => exact ⟨a, b, c, d, e, f, rfl⟩
theorem list4 {α : Type} {l : List α} (h : l.length = 4) : ∃ a b c d, l = [a, b, c, d] := by
  match l, h with
  | [a, b, c, d], _ => exact ⟨a, b, c, d, rfl⟩
theorem list3 {α : Type} {l : List α} (h : l.length = 3) : ∃ a b c, l = [a, b, c] := by
  match l, h with
  | [a, b, c], _ => exact ⟨a, b, c, rfl⟩
def Cfg.cells (c : Cfg) : List Value := [.string c.nm, .int .i64 c.im, .int .i64 c.co, .int .i64 c.mn, .int .i64 c.mx, .int .i64 c.gr]
theorem cfg_rd {cs : List Value} {d : DataW H} (h : Rd enc Try.prog W 23 cs d) (hs : Sz Try.prog 23 d) : ∃ c : Cfg, cs = c.cells ∧ c.wf ∧ c.nm.size ≤ reachBytes := by
  obtain ⟨hl, hf⟩ := h.struct Try.underlying23 hs
  obtain ⟨x0, x1, x2, x3, x4, x5, rfl⟩ := list6 (hl.trans (show Try.prog.cellsOf 23 = 6 by kernel_rfl))
  obtain ⟨d0, r0, s0⟩ := hf 0 _ rfl
  obtain ⟨d1, r1, s1⟩ := hf 1 _ rfl
  obtain ⟨d2, r2, s2⟩ := hf 2 _ rfl
  obtain ⟨d3, r3, s3⟩ := hf 3 _ rfl
  obtain ⟨d4, r4, s4⟩ := hf 4 _ rfl
  obtain ⟨d5, r5, s5⟩ := hf 5 _ rfl
  clear hf
  obtain ⟨nm, e0, b0⟩ := r0.string Try.underlying9 s0
  obtain ⟨im, e1, b1⟩ := rd_i64 r1
  obtain ⟨co, e2, b2⟩ := rd_i64 r2
  obtain ⟨mn, e3, b3⟩ := rd_i64 r3
  obtain ⟨mx, e4, b4⟩ := rd_i64 r4
  obtain ⟨gr, e5, b5⟩ := rd_i64 r5
  have cS : Try.prog.cellsOf 9 = 1 := by kernel_rfl
  have cI : Try.prog.cellsOf 3 = 1 := by kernel_rfl
  simp [cS] at e0
  simp [cI] at e1 e2 e3 e4 e5
  exact ⟨⟨nm, im, co, mn, mx, gr⟩, by simp [Cfg.cells, *], ⟨b1, b2, b3, b4, b5⟩, b0⟩
def Tgt.cells (t : Tgt) : List Value := [.string t.rv, .string t.tg, .int .i64 t.pc]
theorem tgt_rd {cs : List Value} {d : DataW H} (h : Rd enc Try.prog W 41 cs d) (hs : Sz Try.prog 41 d) : ∃ t : Tgt, cs = t.cells ∧ t.ok := by
  obtain ⟨hl, hf⟩ := h.struct Try.underlying41 hs
  obtain ⟨x0, x1, x2, rfl⟩ := list3 (hl.trans (show Try.prog.cellsOf 41 = 3 by kernel_rfl))
  obtain ⟨d0, r0, s0⟩ := hf 0 _ rfl
  obtain ⟨d1, r1, s1⟩ := hf 1 _ rfl
  obtain ⟨d2, r2, s2⟩ := hf 2 _ rfl
  clear hf
  obtain ⟨rv, e0, b0⟩ := r0.string Try.underlying9 s0
  obtain ⟨tg, e1, b1⟩ := r1.string Try.underlying9 s1
  obtain ⟨pc, e2, b2⟩ := rd_i64 r2
  have cS : Try.prog.cellsOf 9 = 1 := by kernel_rfl
  have cI : Try.prog.cellsOf 3 = 1 := by kernel_rfl
  simp [cS] at e0 e1
  simp [cI] at e2
  exact ⟨⟨rv, tg, pc⟩, by simp [Tgt.cells, *], by simpa [reachBytes] using b0, by simpa [reachBytes] using b1, b2⟩
theorem choose_list {α : Type} (d : α) : ∀ (n : Nat) (p : Nat → α → Prop), (∀ i, i < n → ∃ x, p i x) → ∃ l : List α, l.length = n ∧ ∀ i, i < n → p i (l.getD i d)
  | 0, _, _ => ⟨[], rfl, fun i h => by omega⟩
  | n + 1, p, h => by
    obtain ⟨x, hx⟩ := h 0 (by omega)
    obtain ⟨l, hl, hp⟩ := choose_list d n (fun i => p (i + 1)) (fun i hi => h (i + 1) (by omega))
    refine ⟨x :: l, by simp [hl], fun i hi => ?_⟩
    cases i with
    | zero => exact hx
    | succ i => simpa using hp i (by omega)
theorem tgts_rd {cs : List Value} {d : DataW H} (h : Rd enc Try.prog W 33 cs d) (hs : Sz Try.prog 33 d) :
    ∃ a ts c, cs = [.slice a ts.length c] ∧ TgtSl W a ts ∧ (∀ i, i < ts.length → (ts.getD i tg0).ok) ∧ ts.length ≤ maxLen := by
  rcases h.slice Try.underlying33 hs with rfl | ⟨a, len, cap, rfl, hl, hm, _, hel⟩
  · exact ⟨none, [], 0, rfl, .inl rfl, fun i h => by simp at h, by decide⟩
  · have c3 : Try.prog.cellsOf 41 = 3 := by kernel_rfl
    rw [c3] at hel
    obtain ⟨ts, hlen, hp⟩ := choose_list tg0 len (fun i t => t.ok ∧ W.cell? (a.add (i * 3)) = some (.string t.rv) ∧ W.cell? (a.add (i * 3 + 1)) = some (.string t.tg) ∧ W.cell? (a.add (i * 3 + 2)) = some (.int .i64 t.pc)) (fun i hi => by
      obtain ⟨cs', di, hcl, hc, hr, hz⟩ := hel i hi
      obtain ⟨t, rfl, ok⟩ := tgt_rd hr hz
      exact ⟨t, ok, hc 0 (by omega), hc 1 (by omega), hc 2 (by omega)⟩)
    subst hlen
    refine ⟨some a, ts, cap, rfl, ?_, fun i hi => (hp i hi).1, by omega⟩
    cases ts with
    | nil => exact .inl rfl
    | cons t0 ts0 =>
      have hsp := addr_spot (hp 0 (by simp)).2.1 rfl
      rw [hsp] at hp
      refine .inr ⟨a.block, a.off, by rw [← hsp], fun i hi => ?_⟩
      obtain ⟨_, h0, h1, h2⟩ := hp i hi
      rw [addr_add0] at h0 h1 h2
      exact ⟨h0, h1, h2⟩
theorem route_rd {cs : List Value} {d : DataW H} (h : Rd enc Try.prog W 35 cs d) (hs : Sz Try.prog 35 d) :
    ∃ nm cf a ts c rl, cs = [.string nm, .string cf, .slice a (List.length ts) c, .int .i64 rl] ∧ nm.size ≤ reachBytes ∧ cf.size ≤ reachBytes ∧ wf64 rl ∧ TgtSl W a ts ∧ (∀ i, i < ts.length → (ts.getD i tg0).ok) ∧ ts.length ≤ maxLen := by
  obtain ⟨hl, hf⟩ := h.struct Try.underlying35 hs
  obtain ⟨x0, x1, x2, x3, rfl⟩ := list4 (hl.trans (show Try.prog.cellsOf 35 = 4 by kernel_rfl))
  obtain ⟨d0, r0, s0⟩ := hf 0 _ rfl
  obtain ⟨d1, r1, s1⟩ := hf 1 _ rfl
  obtain ⟨d2, r2, s2⟩ := hf 2 _ rfl
  obtain ⟨d3, r3, s3⟩ := hf 3 _ rfl
  clear hf
  obtain ⟨nm, e0, b0⟩ := r0.string Try.underlying9 s0
  obtain ⟨cf, e1, b1⟩ := r1.string Try.underlying9 s1
  obtain ⟨a, ts, c, e2, ht, hk, hm⟩ := tgts_rd r2 s2
  obtain ⟨rl, e3, b3⟩ := rd_i64 r3
  have cS : Try.prog.cellsOf 9 = 1 := by kernel_rfl
  have cI : Try.prog.cellsOf 3 = 1 := by kernel_rfl
  have cT : Try.prog.cellsOf 33 = 1 := by kernel_rfl
  simp [cS] at e0 e1
  simp [cI] at e3
  simp [cT] at e2
  exact ⟨nm, cf, a, ts, c, rl, by simp [*], b0, b1, b3, ht, hk, hm⟩
theorem agg_of {cs : Array Value} {l : List Value} (h : (Value.agg cs).cells.toList = l) : Value.agg cs = .agg l.toArray := by
  have : cs.toList = l := by simpa [Value.cells] using h
  rw [← this]
theorem cfg_of {base : Nat} {v : Value} {d : DataW H} {p : List MemPlace} (hv : Value.okWide Try.prog W .any base 23 v) (h : DataW.Trod enc Try.prog W 0 (fun _ => true) true 23 v d p) (hs : Sz Try.prog 23 d) :
    ∃ c : Cfg, v = c.v ∧ c.wf ∧ c.nm.size ≤ 140737488351232 := by
  obtain ⟨cs, rfl, _⟩ := okWide_struct Try.underlying23 hv
  obtain ⟨c, hc, hw, hn⟩ := cfg_rd (rd_of h) hs
  exact ⟨c, agg_of hc, hw, by simpa [reachBytes] using hn⟩
/-- What is known of a route that came in. -/
structure RtIn (W : World) (nm cf : ByteArray) (a : Option Addr) (ts : List Tgt) (c : Nat) (rl : Int) : Prop where
  hn : nm.size ≤ 140737488351232
  hc : cf.size ≤ 140737488351232
  hr : wf64 rl
  ht : TgtSl W a ts
  hk : ∀ i, i < ts.length → (ts.getD i tg0).ok
  hl : ts.length ≤ maxLen
theorem route_of {base : Nat} {v : Value} {d : DataW H} {p : List MemPlace} (hv : Value.okWide Try.prog W .any base 35 v) (h : DataW.Trod enc Try.prog W 0 (fun _ => true) true 35 v d p) (hs : Sz Try.prog 35 d) :
    ∃ nm cf a ts c rl, v = rtV nm cf (.slice a (List.length ts) c) rl ∧ RtIn W nm cf a ts c rl := by
  obtain ⟨cs, rfl, _⟩ := okWide_struct Try.underlying35 hv
  obtain ⟨nm, cf, a, ts, c, rl, hc, h1, h2, h3, h4, h5, h6⟩ := route_rd (rd_of h) hs
  exact ⟨nm, cf, a, ts, c, rl, agg_of hc, by simpa [reachBytes] using h1, by simpa [reachBytes] using h2, h3, h4, h5, h6⟩
end
end Go.Proofs.Ytpmhmegjckhbmaa

/- My own texts Law2a, ArgT, Law2b, RouteM, RouteW, OwnT, laid in one file. -/
import Derived.Test.YtjcdmnogmpjkkaaDoorZ3
import Derived.Test.YtjcdmnogmpjkkaaDoorZ36
import Derived.Test.YtjcdmnogmpjkkaaDoorZ2
import Derived.Deep.DeepCutAuto

/- damperlaw2's helpers: config, Config, Few, known. -/
namespace Go.Proofs.YtjcdmnogmpjkkaaDoor
set_option maxRecDepth 100000
set_option linter.unusedVariables false
set_option linter.unusedSimpArgs false
set_option linter.unnecessarySimpa false
open Go.RowKit

def names3 : List ByteArray := [⟨#[119, 101, 98]⟩, ⟨#[97, 112, 105]⟩, ⟨#[97, 45, 98]⟩]
def name3 (n : Int) : ByteArray := names3.getD (withinI n 3).toNat ⟨#[]⟩
def gCfg (c : Cfg) (n : Int) : Cfg := ⟨name3 n, withinI c.im 256, 1 + withinI c.co 8, withinI c.mn (1 + withinI c.mx 10 + 1), 1 + withinI c.mx 10, withinI c.gr 31⟩
def Cfg.wf (c : Cfg) : Prop := wf64 c.im ∧ wf64 c.co ∧ wf64 c.mn ∧ wf64 c.mx ∧ wf64 c.gr
theorem w3_cases (n : Int) : withinI n 3 = 0 ∨ withinI n 3 = 1 ∨ withinI n 3 = 2 := by have := withinI_range n 3 (by omega); omega

set_option maxRecDepth 100000 in
set_option maxHeartbeats 1000000 in
theorem gcfg_any (c : Cfg) (n : Int) (w : World) (hc : c.wf) (hn : wf64 n) :
    Calls Tryd.prog 14 #[c.v, .int .i64 n] w fun x w' => x = .returned (gCfg c n).v ∧ Below w.heap.size w w' := by
  obtain ⟨nm, im, co, mn, mx, gr⟩ := c
  obtain ⟨h1, h2, h3, h4, h5⟩ := hc
  simp only at h1 h2 h3 h4 h5
  have r1 := withinI_range im 256 (by omega)
  have r2 := withinI_range co 8 (by omega)
  have r4 := withinI_range mx 10 (by omega)
  have r5 := withinI_range gr 31 (by omega)
  have W0 := Lib.hid (fun w => within2_any n 3 w (by omega) (by omega) hn.1 hn.2)
  have W1 := Lib.hid (fun w => within2_any im 256 w (by omega) (by omega) h1.1 h1.2)
  have W2 := Lib.hid (fun w => within2_any co 8 w (by omega) (by omega) h2.1 h2.2)
  have W4 := Lib.hid (fun w => within2_any mx 10 w (by omega) (by omega) h4.1 h4.2)
  have W3 := Lib.hid (fun w => within2_any mn (1 + withinI mx 10 + 1) w (by omega) (by omega) h3.1 h3.2)
  have W5 := Lib.hid (fun w => within2_any gr 31 w (by omega) (by omega) h5.1 h5.2)
  have N3 := w3_cases n
  unfold Cfg.v gCfg name3
  simp only
  generalize withinI n 3 = q0 at *
  generalize withinI im 256 = q1 at *
  generalize withinI co 8 = q2 at *
  generalize withinI mx 10 = q4 at *
  generalize withinI mn (1 + q4 + 1) = q3 at *
  generalize withinI gr 31 = q5 at *
  clear hn h1 h2 h3 h4 h5
  rcases N3 with rfl | rfl | rfl
  all_goals
    go_enter Tryd.func14, Tryd.ntmps14
    go_wp2_with fail
    refine (W0.out _).mono ?_
    rintro e wx ⟨rfl, rfl⟩
    go_wp2_with fail
    refine (W1.out _).mono ?_
    rintro e wx ⟨rfl, rfl⟩
    go_wp2_with fail
    refine (W2.out _).mono ?_
    rintro e wx ⟨rfl, rfl⟩
    go_wp2_with fail
    refine (W4.out _).mono ?_
    rintro e wx ⟨rfl, rfl⟩
    go_wp2_with fail
    refine (W3.out _).mono ?_
    rintro e wx ⟨rfl, rfl⟩
    go_wp2_with fail
    refine (W5.out _).mono ?_
    rintro e wx ⟨rfl, rfl⟩
    go_wp2_with fail
    exact bodyPost_ret (v := .agg #[.string _, .int .i64 q1, .int .i64 (1 + q2), .int .i64 q3, .int .i64 (1 + q4), .int .i64 q5]) (by simp [results, Tryd.results14, go_sem, names3]) rfl ⟨rfl, by (repeat (first | with_reducible exact Grow.G.refl _ | with_reducible exact Below.refl _ _ | with_reducible refine Grow.G.alloc ?_ _ | with_reducible refine Grow.G.trans ?_ hb1 | ((with_reducible refine Below.setCell ?_ ?_ _); rotate_left; (focus (first | omega | (simp; done) | (simp; omega)))) | with_reducible assumption | with_reducible refine Grow.G.trans ?_ (by with_reducible assumption)))⟩
theorem cfg_eq (c : Cfg) (v : Int) (w : World) (hs : c.nm.size ≤ maxLen) (h : c.err = v) : Calls Tryd.prog 29 #[c.v] w fun x w' => x = .returned (.int .i64 v) ∧ Below w.heap.size w w' := h ▸ config_any c w hs
end Go.Proofs.YtjcdmnogmpjkkaaDoor

/- How a configuration, a route that came in read. -/
namespace Go.Proofs.YtjcdmnogmpjkkaaDoor
set_option maxRecDepth 100000
set_option linter.unusedVariables false
set_option linter.unusedSimpArgs false
open Go.ChangeShapes Go.WideShapes Go.ChangeAt Go.RowKit Go.Args

section
variable {H : Type} {enc : TypeId × Value → H} {W : World}
def Cfg.cells (c : Cfg) : List Value := [.string c.nm, .int .i64 c.im, .int .i64 c.co, .int .i64 c.mn, .int .i64 c.mx, .int .i64 c.gr]
theorem cfg_rd {cs : List Value} {d : DataW H} (h : Rd enc Tryd.prog W 33 cs d) (hs : Sz Tryd.prog 33 d) : ∃ c : Cfg, cs = c.cells ∧ c.wf ∧ c.nm.size ≤ reachBytes := by
  obtain ⟨hl, hf⟩ := h.struct Tryd.underlying33 hs
  obtain ⟨x0, x1, x2, x3, x4, x5, rfl⟩ := list6 (hl.trans (show Tryd.prog.cellsOf 33 = 6 by kernel_rfl))
  obtain ⟨d0, r0, s0⟩ := hf 0 _ rfl
  obtain ⟨d1, r1, s1⟩ := hf 1 _ rfl
  obtain ⟨d2, r2, s2⟩ := hf 2 _ rfl
  obtain ⟨d3, r3, s3⟩ := hf 3 _ rfl
  obtain ⟨d4, r4, s4⟩ := hf 4 _ rfl
  obtain ⟨d5, r5, s5⟩ := hf 5 _ rfl
  clear hf
  obtain ⟨nm, e0, b0⟩ := r0.string Tryd.underlying9 s0
  obtain ⟨im, e1, b1⟩ := rd_i64 r1
  obtain ⟨co, e2, b2⟩ := rd_i64 r2
  obtain ⟨mn, e3, b3⟩ := rd_i64 r3
  obtain ⟨mx, e4, b4⟩ := rd_i64 r4
  obtain ⟨gr, e5, b5⟩ := rd_i64 r5
  have cS : Tryd.prog.cellsOf 9 = 1 := by kernel_rfl
  have cI : Tryd.prog.cellsOf 3 = 1 := by kernel_rfl
  simp [cS] at e0
  simp [cI] at e1 e2 e3 e4 e5
  exact ⟨⟨nm, im, co, mn, mx, gr⟩, by simp [Cfg.cells, *], ⟨b1, b2, b3, b4, b5⟩, b0⟩
def Tgt.cells (t : Tgt) : List Value := [.string t.rv, .string t.tg, .int .i64 t.pc]
end
end Go.Proofs.YtjcdmnogmpjkkaaDoor

/- Configurations written out; the configuration that damperlaw2.Config makes may be. -/
namespace Go.Proofs.YtjcdmnogmpjkkaaDoor
set_option maxRecDepth 100000
set_option linter.unusedVariables false
set_option linter.unusedSimpArgs false
set_option linter.unnecessarySimpa false
open Go.RowKit

theorem name3_ok (n : Int) : nameB 16 (name3 n) = true ∧ (name3 n).size ≤ 3 := by
  unfold name3
  rcases w3_cases n with h | h | h <;> rw [h] <;> decide +kernel
theorem gCfg_ok (c : Cfg) (n : Int) : (gCfg c n).err = 0 := by
  unfold gCfg Cfg.err Cfg.num
  have r1 := withinI_range c.im 256 (by omega)
  have r2 := withinI_range c.co 8 (by omega)
  have r4 := withinI_range c.mx 10 (by omega)
  have r5 := withinI_range c.gr 31 (by omega)
  have r3 := withinI_range c.mn (1 + withinI c.mx 10 + 1) (by omega)
  simp only [(name3_ok n).1, if_true]
  have h1 : inB (withinI c.im 256) 0 255 = true := decide_eq_true (by omega)
  have h2 : inB (1 + withinI c.co 8) 1 8 = true := decide_eq_true (by omega)
  have h3 : inB (1 + withinI c.mx 10) 1 10 = true := decide_eq_true (by omega)
  have h4 : inB (withinI c.mn (1 + withinI c.mx 10 + 1)) 0 (1 + withinI c.mx 10) = true := decide_eq_true (by omega)
  have h5 : inB (withinI c.gr 31) 0 30 = true := decide_eq_true (by omega)
  simp only [h1, h2, h3, h4, h5, Bool.and_self, if_true]



end Go.Proofs.YtjcdmnogmpjkkaaDoor

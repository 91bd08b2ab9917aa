
/- A row of which it is known how long it is, and no more: written. -/
import Derived.Test.YtjhfjjkfnmnkgaaLeadRight
import Derived.Test.YtjhfjjkfnmnkgaaZ48
namespace Go.Proofs.Ytjhfjjkfnmnkgaa
set_option maxRecDepth 100000
set_option linter.unusedVariables false
set_option linter.unusedSimpArgs false
set_option linter.unnecessarySimpa false
open Go.RowKit Go.Args

def RowA (T : TypeId) (sz : Nat) (v : Value) (n : Nat) : Hp := fun w F => (∃ xs, w.ownsRow 0 T sz v n xs) ∧ ∀ k, F k ↔ v.ownBlock = some k
theorem RowA.foot (T : TypeId) (sz : Nat) (v : Value) (n : Nat) : Foot (RowA T sz v n) where
  lt := fun ⟨⟨xs, h⟩, q⟩ k hk => (h.lt k ((q k).1 hk)).2
  frame := fun ⟨⟨xs, h⟩, q⟩ c hs => ⟨⟨xs, c.own h fun k hk => hs k ((q k).2 hk)⟩, q⟩
theorem RowA.of {T : TypeId} {sz n : Nat} {v : Value} {xs : List Value} {w : World} {F : Nat → Prop} (h : RowF 0 T sz v n xs w F) : RowA T sz v n w F := ⟨⟨xs, h.1⟩, h.2⟩
section
variable {P : Program} {ops : Array Oper} {rest : List Oper} {o : Oper} {a : Act} {Q : Exit → Act → World → Prop} {w0 w : World} {L : List MBox} {A : Hp}
theorem hold_pokeA {t : TypeId} {p x : Operand} (hA : Foot A) (ho : o.op = .store t p x) (hgd : o.guard = none)
    {g off : Nat} (hp : a.eval p = .pointer (some ⟨g, off, none⟩)) {v : Value} (hx : a.eval x = v) {u : Value} (hv : v.cells = [u].toArray) (hs : (P.info? t).map (·.size) = some 1)
    {T : TypeId} {sz n c : Nat} (hm : Hold w0 w L (Sep (RowA T sz (.slice (some ⟨g, 0, none⟩) n c) n) A)) (hfit : off < n * sz) (h1 : u.oneCell' = true)
    (h : ∀ w', Hold w0 w' L (Sep (RowA T sz (.slice (some ⟨g, 0, none⟩) n c) n) A) → Stay (wpList P ops Q rest (a.put o.dst undef) w')) : wpList P ops Q (o :: rest) a w := by
  have hc : P.cellsOf t = 1 := by
    unfold Program.cellsOf
    cases hi : P.info? t with
    | none => rw [hi] at hs; cases hs
    | some i => rw [hi] at hs; simpa using hs
  obtain ⟨F, ⟨F1, F2, ⟨⟨xs, hr⟩, e1⟩, ha, ap, e⟩, h2, h3⟩ := hm.st
  obtain ⟨h0, hr2⟩ := hr
  rcases hr2 with ⟨z, _⟩ | ⟨g', cap, cur, hv', hb, hg, hn, hmx, hs', ht⟩
  · cases z
  injection hv' with z1 z2 z3
  injection z1 with z1
  injection z1 with z1
  subst z1 z3
  have B : Blk w g cur T := hg
  have hxl : xs.length ≤ cur.size := by
    have q := congrArg List.length ht
    rw [List.length_take, Array.length_toList] at q
    omega
  have hof : off < cur.size := by omega
  have hvl : v.cells.toList = [u] := by rw [hv]
  have hvs : v.cells.size = 1 := by rw [hv]; rfl
  refine Box.store ho hgd hp hx B ⟨by cases hi : P.info? t with
    | none => rw [hi] at hs; cases hs
    | some i => rfl, by rw [hc, hvs]⟩ (by rw [hvs]; omega) (by rw [hvl]; exact fun y hy => by rw [List.mem_singleton.1 hy]; exact h1) fun w' hb' hch => h w' ?_
  have hg1 : F1 g := (e1 g).2 rfl
  have hFg : F g := (e g).2 (.inl hg1)
  refine ⟨hm.mem.chg hch (fun k hk q => by have q : k = g := q; subst q; have := h2 _ hFg; omega) (fun b hb q => by have q : b.1 = g := q; rw [← q] at hFg; exact h3 b hb hFg), F, ⟨F1, F2, ⟨⟨_, ⟨?_, .inr ⟨g, c, _, rfl, hb, hb', hn, hmx, ?_, rfl⟩⟩⟩, e1⟩, hA.frame ha hch (fun k hk q => by have q : k = g := q; subst q; exact ap _ hg1 hk), ap, e⟩, h2, h3⟩
  · rw [hvl, List.length_take]
    simp only [List.length_append, List.length_take, List.length_drop, Array.length_toList, List.length_singleton]
    omega
  · rw [hvl]
    simp only [List.size_toArray, List.length_append, List.length_take, List.length_drop, Array.length_toList, List.length_singleton]
    omega
end
theorem make_at {w0 w : World} (hg : Grow.G w0 w) {v v2 : Value} {zs ms : List Int} (hz : IntSlice w0 v zs) (hm : IntSlice w0 v2 ms) {sh : List Shr} (e1 : mkS zs = sh) {tg : List Tgo} (e2 : mkT ms = tg) :
    Calls Try.prog 15 #[v, v2] w fun e w' => ∃ a k b d, e = .returned (.agg #[.slice a sh.length k, .slice b tg.length d]) ∧ (ShSl w' a sh ∧ TgSl w' b tg) ∧ Grow.G w w' := by
  subst e1 e2
  refine (make_any w v zs (hz.below hg) v2 ms (hm.below hg)).mono ?_
  rintro e w' ⟨a, k, b, d, rfl, hm, hg⟩
  exact ⟨a, k, b, d, rfl, ⟨hm.shs, hm.tgs⟩, hg⟩
theorem tab_later {w w' : World} {a b : Option Addr} {sh : List Shr} {tg : List Tgo} (h : ShSl w a sh ∧ TgSl w b tg) (g : Grow.G w w') : ShSl w' a sh ∧ TgSl w' b tg := ⟨SlOf.later h.1 g, SlOf.later h.2 g⟩
end Go.Proofs.Ytjhfjjkfnmnkgaa

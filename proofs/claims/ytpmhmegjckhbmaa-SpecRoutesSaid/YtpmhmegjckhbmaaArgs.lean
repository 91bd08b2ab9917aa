/- How arguments of whatever type read: integers, strings, structs, slices, each within the reach. No program is named here. -/
import Derived.WalkKit
import Derived.ProofKit
import Derived.SizedLaws
import Derived.OpenShut
import Derived.ShutString
import Derived.Deep.Slices
namespace Go.Args
set_option linter.unusedVariables false
set_option linter.unusedSimpArgs false
open Go.ChangeShapes Go.WideShapes Go.ChangeAt Go.RowKit

section
variable {H : Type} {enc : TypeId × Value → H} {P : Program} {w : World}

/-- A datum within the reach. -/
def Sz (P : Program) (t : TypeId) (d : DataW H) : Prop := ∀ n ∈ d.weights P t, n ≤ reachBytes
theorem each_mem {fs : List TypeId} {ds : List (DataW H)} {j : Nat} {t : TypeId} {d : DataW H} (ht : fs[j]? = some t) (hd : ds[j]? = some d) : ∀ n ∈ d.weights P t, n ∈ DataW.weightsEach P fs ds := DataW.weights_mem_each ht hd
theorem all_mem {e : TypeId} : ∀ {ds : List (DataW H)} {j : Nat} {d : DataW H}, ds[j]? = some d → ∀ n ∈ d.weights P e, n ∈ DataW.weightsAll P e ds
  | d0 :: ds, 0, d, hd, n, hn => by
    simp only [List.getElem?_cons_zero, Option.some.injEq] at hd
    subst hd
    simp only [DataW.weightsAll, List.mem_append]
    exact .inl hn
  | d0 :: ds, j + 1, d, hd, n, hn => by
    simp only [List.getElem?_cons_succ] at hd
    simp only [DataW.weightsAll, List.mem_append]
    exact .inr (all_mem hd n hn)
  | [], _, _, hd, _, _ => by simp at hd
theorem sz_arg {ts : List TypeId} {ds : List (DataW H)} (h : (DataW.weightsEach P ts ds).all (· ≤ reachBytes) = true) {j : Nat} {t : TypeId} {d : DataW H} (ht : ts[j]? = some t) (hd : ds[j]? = some d) : Sz P t d := fun n hn => by
  have := List.all_eq_true.1 h n (DataW.weights_mem_each ht hd n hn)
  simpa using this
theorem Sz.part {t : TypeId} {fs : Array Field} {parts : List (DataW H)} (h : Sz P t (.agg parts)) (hu : P.underlying t = some (.struct fs)) {j : Nat} {f : Field} {d : DataW H} (hf : fs[j]? = some f) (hd : parts[j]? = some d) : Sz P f.type d := fun n hn => by
  refine h n ?_
  simp only [DataW.weights, hu]
  exact each_mem (by simp [hf]) hd n hn
theorem Sz.elem {t e : TypeId} {elems spare : List (DataW H)} (h : Sz P t (.slice elems spare)) (hu : P.underlying t = some (.slice e)) {j : Nat} {d : DataW H} (hd : elems[j]? = some d) : Sz P e d := fun n hn => by
  refine h n ?_
  simp only [DataW.weights, hu]
  exact List.mem_cons_of_mem _ (List.mem_append.2 (.inl (all_mem hd n hn)))
theorem Sz.slice {t e : TypeId} {elems spare : List (DataW H)} (h : Sz P t (.slice elems spare)) (hu : P.underlying t = some (.slice e)) : (elems.length + spare.length) * P.bytesOf e ≤ reachBytes :=
  h _ (by simp [DataW.weights, hu])
theorem Sz.string {t : TypeId} {bytes : List UInt8} (h : Sz P t (.lit (.string bytes) : DataW H)) : bytes.length ≤ reachBytes := h _ (by simp [DataW.weights])

/-- The cells cs read as d at type t. -/
def Rd (enc : TypeId × Value → H) (P : Program) (w : World) (t : TypeId) (cs : List Value) (d : DataW H) : Prop := ∃ fuel ps, DataW.trod enc P w 0 (fun _ => true) true fuel t cs = some (d, ps)
theorem rd_of {t : TypeId} {v : Value} {d : DataW H} {ps : List MemPlace} (h : DataW.Trod enc P w 0 (fun _ => true) true t v d ps) : Rd enc P w t v.cells.toList d := by
  obtain ⟨fuel, h⟩ := h
  exact ⟨fuel, ps, h⟩
theorem Rd.int {t : TypeId} {k : IntKind} {cs : List Value} {d : DataW H} (h : Rd enc P w t cs d) (ht : P.underlying t = some (.int k)) : ∃ n, cs = [.int k n] ∧ (Lit.int k n).wf = true := by
  obtain ⟨fuel, ps, h⟩ := h
  obtain ⟨n, h1, _, h3⟩ := DataW.trod_int ht h
  exact ⟨n, h1, h3⟩
theorem Rd.bool {t : TypeId} {cs : List Value} {d : DataW H} (h : Rd enc P w t cs d) (ht : P.underlying t = some .bool) : ∃ b, cs = [.bool b] := by
  obtain ⟨fuel, ps, h⟩ := h
  obtain ⟨b, h1, _⟩ := DataW.trod_bool ht h
  exact ⟨b, h1⟩
theorem Rd.string {t : TypeId} {cs : List Value} {d : DataW H} (h : Rd enc P w t cs d) (ht : P.underlying t = some .string) (hs : Sz P t d) : ∃ s : ByteArray, cs = [.string s] ∧ s.size ≤ reachBytes := by
  obtain ⟨fuel, ps, h⟩ := h
  obtain ⟨s, h1, h2, _⟩ := DataW.trod_string ht h
  simp only [Prod.mk.injEq] at h2
  obtain ⟨rfl, _⟩ := h2
  have := hs.string
  exact ⟨s, h1, by simpa using this⟩
theorem Rd.struct {t : TypeId} {fs : Array Field} {cs : List Value} {d : DataW H} (h : Rd enc P w t cs d) (ht : P.underlying t = some (.struct fs)) (hs : Sz P t d) :
    cs.length = P.cellsOf t ∧ ∀ (j : Nat) (f : Field), fs[j]? = some f → ∃ dj, Rd enc P w f.type ((cs.drop f.offset).take (P.cellsOf f.type)) dj ∧ Sz P f.type dj := by
  obtain ⟨fuel, ps, h⟩ := h
  obtain ⟨xs, n, _, hx, hl, hlen, hf⟩ := DataW.trod_struct ht h
  simp only [Prod.mk.injEq] at hx
  obtain ⟨rfl, _⟩ := hx
  refine ⟨hl, fun j f hj => ?_⟩
  have h1 := hf j f hj
  have hjl : j < fs.size := (Array.getElem?_eq_some_iff.1 hj).1
  have hx : xs[j]? = some (xs[j]'(by omega)) := List.getElem?_eq_getElem (by omega)
  rw [hx] at h1
  exact ⟨(xs[j]'(by omega)).1, ⟨n, _, h1⟩, hs.part ht hj (by simp [hx])⟩
theorem Rd.slice {t e : TypeId} {cs : List Value} {d : DataW H} (h : Rd enc P w t cs d) (ht : P.underlying t = some (.slice e)) (hs : Sz P t d) :
    (cs = [.slice none 0 0]) ∨ ∃ (a : Addr) (len cap : Nat), cs = [.slice (some a) len cap] ∧ len ≤ cap ∧ cap ≤ maxLen ∧ len * P.bytesOf e ≤ reachBytes ∧
      ∀ i, i < len → ∃ cs' di, cs'.length = P.cellsOf e ∧ (∀ j, j < P.cellsOf e → w.cell? (a.add (i * P.cellsOf e + j)) = cs'[j]?) ∧ Rd enc P w e cs' di ∧ Sz P e di := by
  obtain ⟨fuel, ps, h⟩ := h
  rcases DataW.trod_slice ht h with ⟨h0, _⟩ | ⟨a, len, cap, elems, rest, n, _, rfl, hx, _, hl, hm, hlen, hel, _, _⟩
  · exact .inl h0
  · simp only [Prod.mk.injEq] at hx
    obtain ⟨rfl, _⟩ := hx
    refine .inr ⟨a, len, cap, rfl, hl, hm, ?_, fun i hi => ?_⟩
    · have := hs.slice ht
      rw [List.length_map, hlen] at this
      exact Nat.le_trans (Nat.mul_le_mul_right _ (Nat.le_add_right _ _)) this
    · have h1 := hel i hi
      have hx : elems[i]? = some (elems[i]'(by omega)) := List.getElem?_eq_getElem (by omega)
      rw [hx] at h1
      obtain ⟨cs', hc, ht'⟩ := Option.bind_eq_some_iff.1 h1
      obtain ⟨_, hcl, hat⟩ := World.cells?_some hc
      refine ⟨cs', (elems[i]'(by omega)).1, hcl, fun j hj => ?_, ⟨n, _, ht'⟩, hs.elem ht (j := i) (by simp [hx])⟩
      rw [← Go.Deep.add_add]; exact hat j hj
end
theorem addr_add0 (b o j : Nat) : (⟨b, o, none⟩ : Addr).add j = ⟨b, o + j, none⟩ := by
  unfold Addr.add
  split <;> simp_all
theorem addr_spot {w : World} {a : Addr} {v : Value} {j : Nat} (h : w.cell? (a.add j) = some v) (hj : j = 0) : a = ⟨a.block, a.off, none⟩ := by
  subst hj
  obtain ⟨b, o, s⟩ := a
  have : s = none := by simpa [Addr.add] using World.cell?_spot h
  rw [this]
end Go.Args

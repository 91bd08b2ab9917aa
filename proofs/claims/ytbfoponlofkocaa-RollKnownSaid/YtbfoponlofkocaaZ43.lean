/- My own texts Tab11, laid in one file. -/
import Derived.Test.YtbfoponlofkocaaZ42
import Derived.Lib.Join

/- A table's text: table.Text. -/
namespace Go.Proofs.Ytbfoponlofkocaa
set_option maxRecDepth 100000
set_option linter.unusedVariables false
set_option linter.unusedSimpArgs false
set_option linter.unnecessarySimpa false
open Go.RowKit Go.Args
attribute [local go_sem] Oper.semAt_some

def R3.t (r : R3) : ByteArray := ⟨(Lib.join ([r.x, r.y, r.z].map (·.data.toList)) (⟨#[]⟩ : ByteArray).data.toList).toArray⟩
def wordsL (l : List Shr) (m : List Tgo) : List ByteArray := (rowsL l m).map R3.t
def textB (l : List Shr) (m : List Tgo) : ByteArray := ⟨(Lib.join ((wordsL l m).map (·.data.toList)) (⟨#[32]⟩ : ByteArray).data.toList).toArray⟩
def SmallT (m : List Tgo) : Prop := m.length ≤ 1000 ∧ ∀ t, t ∈ m → t.tag.size ≤ 100000 ∧ t.rev.size ≤ 100000
theorem R3.t_list (r : R3) : r.t.data.toList = r.x.data.toList ++ (r.y.data.toList ++ r.z.data.toList) := by
  unfold R3.t Lib.join
  simp [List.intercalate]
theorem R3.t_size (r : R3) : r.t.size = r.x.size + r.y.size + r.z.size := by
  have h := congrArg List.length r.t_list
  simp only [List.length_append] at h
  have e : ∀ b : ByteArray, b.data.toList.length = b.size := fun b => rfl
  rw [e, e, e, e] at h
  omega
theorem row_small {l : List Shr} {m : List Tgo} (h : Small l) (h' : SmallT m) {r : R3} (hr : r ∈ rowsL l m) : r.x.size ≤ 100000 ∧ r.y.size ≤ 1 ∧ r.z.size ≤ 100000 := by
  unfold rowsL at hr
  rw [List.mem_append, List.mem_map, List.mem_map] at hr
  rcases hr with ⟨s, hs, rfl⟩ | ⟨s, hs, rfl⟩
  · have h1 := h.2 s hs
    refine ⟨h1.2.2, Nat.le_refl _, ?_⟩
    have := digS_size 3 s.w.toNat (by omega)
    show (digS s.w.toNat).size ≤ _
    omega
  · have h1 := h'.2 s hs
    exact ⟨h1.1, Nat.le_refl _, h1.2⟩
theorem lens_le (B : Nat) : ∀ (xs : List (List UInt8)), (∀ x, x ∈ xs → x.length ≤ B) → Lib.lens xs ≤ B * xs.length
  | [], _ => by simp [Lib.lens]
  | x :: xs, h => by
    have ih := lens_le B xs (fun y hy => h y (by simp [hy]))
    have := h x (by simp)
    unfold Lib.lens at ih ⊢
    simp only [List.map_cons, List.sum_cons, List.length_cons, Nat.mul_succ] at ih ⊢
    omega
end Go.Proofs.Ytbfoponlofkocaa

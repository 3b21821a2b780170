/- The parts of an operation as cells, and slices of them. -/
import Derived.Test.YtajkjbhfkeakhaaBlk
import Derived.Test.YtajkjbhfkeakhaaJump
import Derived.Deep.DeepCutAuto
import Derived.Laws.ComplexArith
namespace Go.Proofs.Ytajkjbhfkeakhaa
open Go.RowKit
set_option linter.unusedSimpArgs false
set_option linter.unusedVariables false

/-- A part of an operation. -/
structure Cp where
  k : Int
  n : Int
  s : ByteArray

def Cp.vals (c : Cp) : List Value := [.int .i64 c.k, .int .i64 c.n, .string c.s]
/-- The cells of parts. -/
def C (o : List Cp) : List Value := o.flatMap Cp.vals

theorem C_nil : C [] = [] := rfl
theorem C_cons (c : Cp) (o : List Cp) : C (c :: o) = c.vals ++ C o := rfl
theorem C_append (o p : List Cp) : C (o ++ p) = C o ++ C p := by simp [C]
theorem C_length (o : List Cp) : (C o).length = o.length * 3 := by
  induction o with
  | nil => rfl
  | cons c o ih => rw [C_cons, List.length_append, ih]; simp [Cp.vals]; omega
theorem C_one (o : List Cp) : ∀ u ∈ C o, u.oneCell' = true := by
  intro u hu
  simp only [C, List.mem_flatMap, Cp.vals, List.mem_cons, List.not_mem_nil, or_false] at hu
  obtain ⟨c, _, rfl | rfl | rfl⟩ := hu <;> rfl
theorem C_get : ∀ (o : List Cp) (j : Nat) (c : Cp), o[j]? = some c → ∀ i u, c.vals[i]? = some u → (C o)[j * 3 + i]? = some u
  | [], j, c, h, i, u, hu => by simp at h
  | d :: o, 0, c, h, i, u, hu => by
    cases h
    have hi : i < d.vals.length := (List.getElem?_eq_some_iff.1 hu).1
    rw [C_cons, Nat.zero_mul, Nat.zero_add, List.getElem?_append_left hi]
    exact hu
  | d :: o, j + 1, c, h, i, u, hu => by
    rw [C_cons, List.getElem?_append_right (by simp [Cp.vals]; omega)]
    have := C_get o j c (by simpa using h) i u hu
    rw [← this]
    congr 1
    simp [Cp.vals]; omega

/-- The slice v reads as the parts o. -/
def RC (w : World) (v : Value) (o : List Cp) : Prop :=
  (∃ ao cap, v = .slice ao 0 cap ∧ o = [] ∧ (ao = none → cap = 0)) ∨ ∃ g off cap, v = .slice (some ⟨g, off, none⟩) o.length cap ∧ o.length ≤ cap ∧ w.rangeAt g off (C o) ∧ g < w.heap.size

theorem RC.nil (w : World) : RC w (.slice none 0 0) [] := .inl ⟨none, 0, rfl, rfl, fun _ => rfl⟩
theorem RC.later {w w' : World} {v : Value} {o : List Cp} (h : RC w v o) (hb : Below w.heap.size w w') : RC w' v o := by
  rcases h with h | ⟨g, off, cap, rfl, h1, h2, h3⟩
  · exact .inl h
  · exact .inr ⟨g, off, cap, rfl, h1, fun j u hj => cell_later hb (h2 j u hj), Nat.lt_of_lt_of_le h3 hb.size⟩
theorem RC.form {w : World} {v : Value} {o : List Cp} (h : RC w v o) : ∃ ao cap, v = .slice ao o.length cap := by
  rcases h with ⟨ao, cap, rfl, rfl, _⟩ | ⟨g, off, cap, rfl, _⟩
  · exact ⟨_, _, rfl⟩
  · exact ⟨_, _, rfl⟩
/-- Where there is a part the slice has a place. -/
theorem RC.place {w : World} {v : Value} {o : List Cp} (h : RC w v o) (h0 : 0 < o.length) : ∃ g off cap, v = .slice (some ⟨g, off, none⟩) o.length cap ∧ o.length ≤ cap ∧ w.rangeAt g off (C o) ∧ g < w.heap.size := by
  rcases h with ⟨ao, cap, rfl, rfl, _⟩ | h
  · simp at h0
  · exact h
end Go.Proofs.Ytajkjbhfkeakhaa

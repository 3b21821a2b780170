/- Blocks that are new, or another one; how long a slice is. -/
import Derived.Test.YtlgdllbhddnokabHasC
namespace Go.Proofs.Ytlgdllbhddnokab
open Go.RowKit
set_option linter.unusedSimpArgs false
set_option linter.unusedVariables false

theorem below2 (w : World) (x y : Obj) : Below w.heap.size w ((w.alloc x).alloc y) := ((Below.refl _ _).alloc (Nat.le_refl _) _).alloc (by simp) _
theorem below3 (w : World) (x y z : Obj) : Below w.heap.size w (((w.alloc x).alloc y).alloc z) := (below2 w x y).alloc (by simp; omega) _
/-- Another block was written to. -/
theorem HasK.kept {K : Nat} {w w' : World} {e : TypeId} {Bd : Nat} {v : Value} {n : Nat} {xs : List Value} (h : HasK K w e Bd v n xs) (hk : ∀ k, Bd ≤ k → w'.heap[k]? = w.heap[k]?) : HasK K w' e Bd v n xs := by
  rcases h with h | ⟨g, cap, cur, rfl, h1, h2, h3, h4, h5, h6⟩
  · exact .inl h
  · exact .inr ⟨g, cap, cur, rfl, h1, h2, h3, by rw [hk g h1]; exact h4, h5, h6⟩
def lenOf : Value → Nat
  | .slice _ n _ => n
  | _ => 0
end Go.Proofs.Ytlgdllbhddnokab

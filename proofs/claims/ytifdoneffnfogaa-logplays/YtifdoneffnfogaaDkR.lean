/- How a disk of the second say lies in memory. -/
import Derived.Test.YtifdoneffnfogaaDkS
namespace Go.Proofs.Ytifdoneffnfogaa
open Go.RowKit
set_option linter.unusedSimpArgs false
set_option linter.unusedVariables false

/-- The second say's disk s in the block x; its bytes lie in a later block, if in any. -/
structure RK (w : World) (x : Nat) (s : Dk) : Prop where
  mem : ∃ v, Blk w 59 x [v, .int .i64 s.kept, .int .i64 s.size, .int .i64 s.left, .bool s.gone] ∧ Has w 5 (x + 1) v s.b.length (B s.b)
  ok : s.Ok

section
variable {w w' : World} {x : Nat} {s : Dk}
theorem RK.lt (h : RK w x s) : x < w.heap.size := by obtain ⟨v, hv, _⟩ := h.mem; exact hv.lt
theorem RK.kept (h : RK w x s) (kp : ∀ k, x ≤ k → k < w.heap.size → w'.heap[k]? = w.heap[k]?) : RK w' x s := by
  obtain ⟨v, h1, h2⟩ := h.mem
  exact ⟨⟨v, h1.kept (kp x (Nat.le_refl _) h1.lt), h2.keptAt (fun k h3 h4 => kp k (by omega) h4)⟩, h.ok⟩
theorem RK.later (h : RK w x s) (hb : Below w.heap.size w w') : RK w' x s := h.kept fun k _ hk => hb.block k hk
theorem RK.only {d r : Nat} (h : RK w x s) (ho : Only w w' d r) (hd : d < x) (hr : r < x) : RK w' x s := h.kept fun k h1 hk => ho.block k hk (by omega) (by omega)
theorem RK.drew (h : RK w x s) : RK w.drew x s := h.kept fun _ _ _ => rfl
end
end Go.Proofs.Ytifdoneffnfogaa

/- Bytes in new memory. -/
import Derived.Test.YtifdoneffnfogabBlk
import Derived.Test.YtifdoneffnfogabHas
namespace Go.Proofs.Ytifdoneffnfogab
open Go.RowKit
set_option linter.unusedSimpArgs false
set_option linter.unusedVariables false

theorem reads_newB (w : World) (e : TypeId) (l : List UInt8) (n : Nat) (hn : l.length = n) : Reads (w.alloc (.cells (B l).toArray e)) (.slice (some ⟨w.heap.size, 0, none⟩) n n) (B l) := by
  subst hn
  refine ⟨_, l.length, by rw [B_length], by rw [B_length]; exact Nat.le_refl _, (fun h => by cases h), fun ad he j u hj => ?_⟩
  cases he
  rw [Addr.add_lit, Nat.zero_add]
  exact (Blk.new w e (B l)).cell hj
/-- A place of what reads as bytes in new memory. -/
theorem Has.cellB {w : World} {e : TypeId} {Bd n : Nat} {ao : Option Addr} {cap : Nat} {l : List UInt8} (h : Has w e Bd (.slice ao n cap) n (B l)) (h0 : 0 < n) : ∃ g, ao = some ⟨g, 0, none⟩ ∧ Bd ≤ g ∧ n ≤ cap ∧ Owns w e g cap n (B l) ∧ ∀ j b, l[j]? = some b → w.cell? ⟨g, j, none⟩ = some (.int .u8 b.toNat) := by
  rcases h with ⟨_, rfl, _⟩ | ⟨g, c, e1, h1, h2⟩
  · omega
  · injection e1 with e1 e2 e3
    subst e1 e3
    exact ⟨g, rfl, h1, h2.2.1, h2, fun j b hj => h2.cell (by rw [B_get, hj]; rfl)⟩

end Go.Proofs.Ytifdoneffnfogab

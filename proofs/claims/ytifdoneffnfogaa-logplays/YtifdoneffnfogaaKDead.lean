/- The contract of package disk's Dead. -/
import Derived.Test.YtifdoneffnfogaaDkS
namespace Go.Proofs.Ytifdoneffnfogaa
open Go.RowKit
set_option linter.unusedSimpArgs false
set_option linter.unusedVariables false

set_option maxRecDepth 100000 in
theorem kDead_any (d r : Nat) (s : Dk) (w : World) (h : DK w d r s) : Calls Try.prog 44 #[.pointer (some ⟨d, 0, none⟩)] w fun e w' => e = .returned (.bool s.gone) ∧ w' = w := by
  have c3 := h.c3
  clear h
  go_enter Try.func44, Try.ntmps44
  go_wp2
  go_ret
  exact ⟨rfl, rfl⟩

end Go.Proofs.Ytifdoneffnfogaa

/- The contract of the laws' own known (chapter 12). -/
import Derived.Test.YtjedajfemhpogaaPpK
namespace Go.Proofs.Ytjedajfemhpogaa
open Go.RowKit
set_option linter.unusedSimpArgs false
set_option linter.unusedVariables false

set_option maxRecDepth 100000 in
set_option maxHeartbeats 1000000 in
theorem known12_any (w : World) : Calls Try.prog 4 #[] w fun e w' => e = .returned (.bool true) ∧ Below w.heap.size w w' := by
  go_enter Try.func4, Try.ntmps4
  go_wp2_with fail
  refine (pRemove_any (.slice none 0 0) [] (0, 0) _ (RA.nil _) PpOk.nil).mono ?_
  rintro _ w1 ⟨ao, cap, rfl, _, hb⟩
  have Hb := hid hb
  clear hb
  rw [show (ppRem [] (0, 0)) = ([], 2) from rfl]
  go_wp2_with fail
  go_ret
  exact ⟨rfl, Hb.out⟩
end Go.Proofs.Ytjedajfemhpogaa

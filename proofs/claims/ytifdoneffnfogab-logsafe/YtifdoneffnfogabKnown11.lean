/- The contract of the laws' own known (chapter 11). -/
import Derived.Test.YtifdoneffnfogabLgAt
namespace Go.Proofs.Ytifdoneffnfogab
open Go.RowKit
set_option linter.unusedSimpArgs false
set_option linter.unusedVariables false

set_option maxRecDepth 100000 in
set_option maxHeartbeats 2000000 in
theorem known11_any (w : World) : Calls Try.prog 4 #[] w fun e w' => e = .returned (.bool true) ∧ Below w.heap.size w w' := by
  obtain ⟨L, hL⟩ : ∃ L, w.heap.size = L := ⟨_, rfl⟩
  have HL := hid hL
  rw [hL]
  clear hL
  go_enter Try.func4, Try.ntmps4
  go_wp2_with fail
  refine (kNew_at (L := L) (w := w) 100 (Below.refl _ _) (by rw [HL.out]; exact Nat.le_refl _)).mono ?_
  rintro _ w1 ⟨d, r, rfl, hK, _, _, _⟩
  rw [show Dk.new 100 = onD [] 0 100 from on_new 100 (by omega)] at hK
  have HK := hid hK
  clear hK
  go_wp2_with fail
  refine (lgOpen_at HK.out [] _ 0 (on_open [] (by simp) 0 100) rfl).mono ?_
  rintro _ w2 ⟨q, ro, rc, rfl, hL, hR, _, _⟩
  have HLD := hid hL
  clear hL hR
  go_wp2_with fail
  refine (lgCount_any q d 0 0 _ HLD.out.lb).mono ?_
  rintro _ wx ⟨rfl, hwx⟩
  rw [hwx]
  clear hwx wx
  go_wp2_with fail
  refine (lgSafe_any q d 0 0 _ HLD.out.lb).mono ?_
  rintro _ wx ⟨rfl, hwx⟩
  rw [hwx]
  clear hwx wx
  go_wp2_with fail
  go_ret
  exact ⟨rfl, HLD.out.kd.bel⟩
end Go.Proofs.Ytifdoneffnfogab

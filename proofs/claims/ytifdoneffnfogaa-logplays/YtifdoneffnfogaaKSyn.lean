/- The contract of package disk's Synced. -/
import Derived.Test.YtifdoneffnfogaaKSt
namespace Go.Proofs.Ytifdoneffnfogaa
open Go.RowKit
set_option linter.unusedSimpArgs false
set_option linter.unusedVariables false

set_option maxRecDepth 100000 in
theorem kSynced_any (d r : Nat) (s : Dk) (w : World) (h : DK w d r s) : Calls Try.prog 45 #[.pointer (some ⟨d, 0, none⟩)] w fun e w' => e = .returned (.int .i64 (s.kept : Int)) ∧ w' = w := by
  have c1 := h.c1
  have h1 := h.ok.kept
  have h2 := h.ok.len
  have h3 := h.ok.size
  clear h
  go_enter Try.func45, Try.ntmps45
  go_wp2_with fail
  refine (kfrom_any s.kept _ (by omega) _).mono ?_
  rintro _ w1 ⟨rfl, rfl⟩
  go_wp2_with fail
  go_ret
  exact ⟨rfl, rfl⟩
end Go.Proofs.Ytifdoneffnfogaa

/- A disk of a law's own: Crash, Synced. -/
import Derived.Test.YtifdoneffnfogaaKAt0
import Derived.Test.YtifdoneffnfogaaKCrash
import Derived.Test.YtifdoneffnfogaaKSyn
namespace Go.Proofs.Ytifdoneffnfogaa
open Go.RowKit
set_option linter.unusedSimpArgs false
set_option linter.unusedVariables false

section
variable {L : Nat} {w w1 w2 : World} {d r : Nat} {s s' : Dk}
theorem kCrash_at (h : KD L w w1 d r s) (p : Int) (s' : Dk) (he : s.crash p = s') :
    Calls Try.prog 21 #[.pointer (some ⟨d, 0, none⟩), .int .i64 p] w1 fun e w' => e = .returned (.tuple #[]) ∧ KD L w w' d r s' ∧ Only w1 w' d r := by
  refine (kCrash_any d r s p w1 h.dk).mono ?_
  rintro e w' ⟨h1, h2, h3⟩
  rw [he] at h2
  exact ⟨h1, h.only h2 h3, h3⟩
end
end Go.Proofs.Ytifdoneffnfogaa

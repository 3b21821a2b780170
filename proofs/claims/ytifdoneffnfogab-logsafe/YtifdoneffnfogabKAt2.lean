/- A disk of a law's own: Sync, Stop, Dead, Synced. -/
import Derived.Test.YtifdoneffnfogabKAt0
import Derived.Test.YtifdoneffnfogabKMore
namespace Go.Proofs.Ytifdoneffnfogab
open Go.RowKit
set_option linter.unusedSimpArgs false
set_option linter.unusedVariables false

section
variable {L : Nat} {w w1 w2 : World} {d r : Nat} {s s' : Dk}
theorem kSync_at (h : KD L w w1 d r s) (x : Int) (s' : Dk) (he : s.sync = (x, s')) :
    Calls Try.prog 17 #[.pointer (some ⟨d, 0, none⟩)] w1 fun e w' => e = .returned (.int .i64 x) ∧ KD L w w' d r s' ∧ Only w1 w' d r := by
  refine (kSync_any d r s w1 h.dk).mono ?_
  rintro e w' ⟨h1, h2, h3⟩
  rw [he] at h1 h2
  exact ⟨h1, h.only h2 h3, h3⟩
theorem kStop_at (h : KD L w w1 d r s) (n : Int) (hn : n ≤ 9223372036854775807) (s' : Dk) (he : s.stop n = s') :
    Calls Try.prog 10 #[.pointer (some ⟨d, 0, none⟩), .int .i64 n] w1 fun e w' => e = .returned (.tuple #[]) ∧ KD L w w' d r s' ∧ Only w1 w' d r := by
  refine (kStop_any d r s n hn w1 h.dk).mono ?_
  rintro e w' ⟨h1, h2, h3⟩
  rw [he] at h2
  exact ⟨h1, h.only h2 h3, h3⟩
end
end Go.Proofs.Ytifdoneffnfogab

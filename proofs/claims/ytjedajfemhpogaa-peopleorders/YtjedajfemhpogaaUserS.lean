/- Who is a user; of no program. -/
import Derived.Test.YtjedajfemhpogaaBase
namespace Go.Proofs.Ytjedajfemhpogaa
open Go.RowKit
set_option linter.unusedSimpArgs false

/-- A user's domain and number. -/
abbrev Ad := Int × Int
def upS (m n : Int) : Bool := decide (0 ≤ n) && decide (n ≤ m)
def userS (D U : Int) : Bool := upS 2 D && upS 7 U
theorem upS_neg {m n : Int} (h : n < 0) : upS m n = false := by unfold upS; simp; omega
theorem upS_out {m n : Int} (h : m < n) : upS m n = false := by unfold upS; simp; omega
theorem upS_in {m n : Int} (h : 0 ≤ n) (h2 : n ≤ m) : upS m n = true := by unfold upS; simp; omega
end Go.Proofs.Ytjedajfemhpogaa

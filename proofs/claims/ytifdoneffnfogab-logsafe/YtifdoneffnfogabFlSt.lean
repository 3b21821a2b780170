/- A stretch as one complex number; whole numbers as floats there and back. -/
import Derived.Test.YtifdoneffnfogabRows
import Derived.Test.YtifdoneffnfogabBase
import Derived.Test.YtifdoneffnfogabFl
import Derived.WalkLawsBesides
namespace Go.Proofs.Ytifdoneffnfogab
open Go.RowKit
set_option linter.unusedSimpArgs false
set_option linter.unusedVariables false

/-- The stretch of n from p on. -/
def st (p n : Nat) : Value := .complex .f64 (fl p) (fl n)

theorem run_fl_add (w : World) (t : TypeId) (n m : Nat) (h : n + m < 2 ^ 53) : (binOp .add t (.float .f64 (fl n)) (.float .f64 (fl m))).run Try.prog w = .ok (.float .f64 (fl (n + m))) w :=
  run_float_arith w .add t .f64 _ _ _ (fl_add n m h)

theorem run_fl_int (w : World) (n : Nat) (h : n < 2 ^ 53) : (convert 60 3 (.float .f64 (fl n))).run Try.prog w = .ok (.int .i64 n) w :=
  run_convert_float_int w 60 3 .f64 .i64 _ _ (by kernel_rfl) Try.underlying3 (fl_toInt n h)

theorem run_int_fl (w : World) (n : Nat) : (convert 3 60 (.int .i64 (n : Int))).run Try.prog w = .ok (.float .f64 (fl n)) w :=
  run_convert_int_float w 3 60 .i64 .f64 _ (by kernel_rfl) Try.underlying60
end Go.Proofs.Ytifdoneffnfogab

/- How an operation and a delta are written; of no program. -/
import Derived.Test.YtifdoneffnfogabSplit
namespace Go.Proofs.Ytifdoneffnfogab
open Go.RowKit
set_option linter.unusedSimpArgs false
set_option linter.unusedVariables false

/-- A number, a byte, a text as written. -/
def i8 (n : Int) : List UInt8 := le 8 (n % 18446744073709551616).toNat
def i1 (n : Int) : List UInt8 := le 1 (n % 18446744073709551616).toNat
def tx (s : List UInt8) : List UInt8 := le 2 s.length ++ s
theorem le_len : ∀ (k u : Nat), (le k u).length = k
  | 0, _ => rfl
  | k + 1, u => by rw [le, List.length_cons, le_len k]
theorem i8_len (n : Int) : (i8 n).length = 8 := le_len 8 _
theorem i1_len (n : Int) : (i1 n).length = 1 := le_len 1 _
theorem tx_len (s : List UInt8) : (tx s).length = 2 + s.length := by rw [tx, List.length_append, le_len]

end Go.Proofs.Ytifdoneffnfogab

/- The kind of bytes. -/
import Derived.Test.YtifdoneffnfogabRows
import Derived.Test.YtifdoneffnfogabBase
namespace Go.Proofs.Ytifdoneffnfogab
open Go.RowKit
set_option linter.unusedSimpArgs false
set_option linter.unusedVariables false

theorem Try.infoByte : (Try.prog.info? 5).map (fun i => (i.zero, i.size, i.bytes)) = some (some (.int .u8 0), 1, 1) := by kernel_rfl
theorem byte_of (u : Nat) : Value.int .u8 ((u : Int) % 256) = Value.int .u8 ((UInt8.ofNat u).toNat : Nat) := by
  simp [UInt8.toNat_ofNat']
theorem byteCells_B (s : ByteArray) : byteCells s = B s.data.toList := rfl
theorem Reads.nil (w : World) : Reads w (.slice none 0 0) [] := ⟨none, 0, rfl, Nat.le_refl _, fun _ => rfl, fun _ h => by cases h⟩
end Go.Proofs.Ytifdoneffnfogab

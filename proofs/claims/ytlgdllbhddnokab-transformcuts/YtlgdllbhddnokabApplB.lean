/- Bytes as lists, and the kind of bytes. -/
import Derived.Test.YtlgdllbhddnokabInOut
import Derived.Test.YtlgdllbhddnokabHas
import Derived.Lib.Strings
namespace Go.Proofs.Ytlgdllbhddnokab
open Go.RowKit
set_option linter.unusedSimpArgs false
set_option linter.unusedVariables false

theorem Try.infoByte : (Try.prog.info? 5).map (fun i => (i.zero, i.size, i.bytes)) = some (some (.int .u8 0), 1, 1) := by kernel_rfl

theorem byteCells_B (s : ByteArray) : byteCells s = B s.data.toList := rfl
theorem size_list (s : ByteArray) : s.size = s.data.toList.length := by simp
theorem bytes_of {s : ByteArray} {l : List UInt8} (h : s.data.toList = l) : s = ⟨l.toArray⟩ := by
  subst h; apply ByteArray.ext; simp
theorem append_list (a b : ByteArray) : (a ++ b).data.toList = a.data.toList ++ b.data.toList := by simp
end Go.Proofs.Ytlgdllbhddnokab

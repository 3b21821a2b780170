/- How an operation and a delta are written; of no program. -/
import Derived.Test.YtajkjbhfkeakhaaSplit
import Derived.Test.YtajkjbhfkeakhaaDl
import Derived.Test.YtajkjbhfkeakhaaOpS
namespace Go.Proofs.Ytajkjbhfkeakhaa
open Go.RowKit
set_option linter.unusedSimpArgs false
set_option linter.unusedVariables false

/-- A number, a byte, a text as written. -/
def i8 (n : Int) : List UInt8 := le 8 (n % 18446744073709551616).toNat
def i1 (n : Int) : List UInt8 := le 1 (n % 18446744073709551616).toNat
def tx (s : List UInt8) : List UInt8 := le 2 s.length ++ s
theorem le_len : ∀ (k u : Nat), (le k u).length = k
  | 0, _ => rfl
  | k + 1, u => by rw [le, List.length_cons, le_len k]
theorem i8_len (n : Int) : (i8 n).length = 8 := le_len 8 _
theorem i1_len (n : Int) : (i1 n).length = 1 := le_len 1 _
theorem tx_len (s : List UInt8) : (tx s).length = 2 + s.length := by rw [tx, List.length_append, le_len]

def partB (c : Cp) : List UInt8 := i1 c.k ++ i8 c.n ++ le 2 c.s.size ++ c.s.data.toList
def opB (o : List Cp) : List UInt8 := i1 o.length ++ o.flatMap partB
def dB (d : Dl) (o : List Cp) : List UInt8 := i8 d.aD ++ i8 d.aU ++ i8 d.id ++ i8 d.ver ++ d.h ++ i1 d.k ++ tx (opB o) ++ i8 d.wD ++ i8 d.wU
/-- How long an operation is, written. -/
def partsN (o : List Cp) : Nat := (o.map fun c => 11 + c.s.size).sum
theorem partB_len (c : Cp) : (partB c).length = 11 + c.s.size := by simp [partB, i1_len, i8_len, le_len]; omega
theorem flat_len : ∀ (o : List Cp), (o.flatMap partB).length = partsN o
  | [] => rfl
  | c :: o => by rw [List.flatMap_cons, List.length_append, flat_len o, partB_len, partsN, partsN, List.map_cons, List.sum_cons]
theorem opB_len (o : List Cp) : (opB o).length = 1 + partsN o := by rw [opB, List.length_append, i1_len, flat_len]
theorem dB_len (d : Dl) (o : List Cp) (h : d.h.length = 32) : (dB d o).length = 84 + partsN o := by
  simp only [dB, List.length_append, i8_len, i1_len, tx_len, opB_len, h]; omega

/-- Short enough. -/
def FewS (o : List Cp) : Prop := o.length ≤ 50 ∧ ∀ c ∈ o, c.s.size ≤ 150
theorem partsN_le : ∀ (o : List Cp), (∀ c ∈ o, c.s.size ≤ 150) → partsN o ≤ 161 * o.length
  | [], _ => Nat.le_refl _
  | c :: o, h => by
    have h1 := h c (by simp)
    have h2 := partsN_le o (fun d hd => h d (by simp [hd]))
    rw [partsN, List.map_cons, List.sum_cons, List.length_cons]
    rw [partsN] at h2
    omega
theorem FewS.le {o : List Cp} (h : FewS o) : partsN o ≤ 8050 := by
  have := partsN_le o h.2
  have := h.1
  omega
theorem partsN_append (o p : List Cp) : partsN (o ++ p) = partsN o + partsN p := by simp [partsN]

theorem below_of_drew {Bd : Nat} {w w' : World} (h : Below Bd w.drew w') : Below Bd w w' := ⟨h.os, h.tape, h.output, h.size, h.block⟩
theorem partsN_take {o : List Cp} {j : Nat} {c : Cp} (h : o[j]? = some c) : partsN (o.take (j + 1)) = partsN (o.take j) + (11 + c.s.size) := by
  rw [take_succ' o j c h, partsN_append]; simp [partsN]
theorem flat_take {o : List Cp} {j : Nat} {c : Cp} (h : o[j]? = some c) : (o.take (j + 1)).flatMap partB = (o.take j).flatMap partB ++ partB c := by
  rw [take_succ' o j c h, List.flatMap_append]; simp
theorem FewS.take {o : List Cp} (h : FewS o) (j : Nat) : FewS (o.take j) := ⟨by rw [List.length_take]; have := h.1; omega, fun c hc => h.2 c (List.mem_of_mem_take hc)⟩
end Go.Proofs.Ytajkjbhfkeakhaa

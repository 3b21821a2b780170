/- What Make makes, applied, and written in the one way; slices of parts that are built at once. -/
import Derived.Test.YtlgdllbhddnokabMake
import Derived.Test.YtlgdllbhddnokabNormT
namespace Go.Proofs.Ytlgdllbhddnokab
open Go.RowKit
set_option linter.unusedSimpArgs false
set_option linter.unusedVariables false

/-- A slice of parts that is built at once. -/
theorem parts_new (w : World) (o : List Cp) (n : Nat) (hn : o.length = n) : HasC (w.alloc (.cells (C o).toArray 42)) w.heap.size (.slice (some ⟨w.heap.size, 0, none⟩) n n) o := by
  subst hn
  exact HasK.built (heap_alloc_new w _) (C_length o) (Nat.le_refl _)

/-- Apply of what Make made over the whole of d. -/
theorem apS_made {d : ByteArray} {o : List Cp} (h : Made d.size o) : ∃ x : ByteArray, apS d o = (x, 0) ∧ (x.size : Int) = outS o := by
  refine ⟨⟨(applyS d.data.toList o).toArray⟩, ?_, ?_⟩
  · rw [apS, if_neg (by simpa using h.ins), if_neg (by have := h.outs; omega)]
  · rw [← applyS_length o d.data.toList h.good (by rw [h.ins, ← size_list]; omega)]
    rw [size_list]
theorem cap_of_row {w : World} {k : IntKind} {a : Option Addr} {len cap : Nat} {zs : List Int} (h : IsRow k w a len cap zs) : len ≤ cap := by
  rcases h with ⟨rfl, rfl, rfl, rfl⟩ | ⟨ad, rfl, h1, h2, h3, h4, h5⟩ <;> omega

theorem norm_vals {o : List Cp} (h : Good o) (h1 : inS o ≤ 120) (h2 : outS o ≤ 120) : Vals (normS o) := by
  intro c hc
  have hg := norm_good h
  have hm := mem_le hg c hc
  rw [in_norm o h, out_norm o h] at hm
  rcases hg c hc with ⟨hk, hn, hs⟩ | ⟨hk, hn, hs⟩
  · refine .inl ⟨hk, hn, ?_, hs⟩
    rw [Cp.over, if_pos hk] at hm
    omega
  · refine .inr ⟨hk, hn, hs, ?_⟩
    rw [Cp.outl, if_neg (by omega)] at hm
    omega
end Go.Proofs.Ytlgdllbhddnokab

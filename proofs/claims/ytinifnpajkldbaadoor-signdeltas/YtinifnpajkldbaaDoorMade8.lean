/- What Make answers, written and read; and a valid delta. -/
import Derived.Test.YtinifnpajkldbaaDoorReadB8
import Derived.Test.YtinifnpajkldbaaDoorPk26
import Derived.Test.YtinifnpajkldbaaDoorMake
namespace Go.Proofs.YtinifnpajkldbaaDoor
open Go.RowKit
set_option linter.unusedSimpArgs false
set_option linter.unusedVariables false

theorem chkL_made : ∀ (o : List Cp), Vals o → chkL o = 0
  | [], _ => rfl
  | c :: o, h => by
    have hp : chkP c = 0 := by
      rcases h c (by simp) with ⟨a, b, c', d⟩ | ⟨a, b, c', d⟩
      · rw [chkP, if_pos a, if_neg (by omega)]
      · rw [chkP, if_neg (by omega), if_pos a, if_neg (by omega), if_neg (by omega)]
    rw [chkL, hp, if_neg (by simp)]
    exact chkL_made o (fun d hd => h d (by simp [hd]))
theorem chkS_made {o : List Cp} (h : Vals o) (hl : o.length ≤ 40) : chkS o = 0 := by rw [chkS, if_neg (by omega), chkL_made o h]
theorem Cp.Val.fits {c : Cp} (h : c.Val) : c.Fits ∧ c.s.size ≤ 150 := by
  rcases h with ⟨a, b, c', d⟩ | ⟨a, b, c', d⟩
  · exact ⟨⟨by omega, by omega, by omega, by omega, by omega⟩, by omega⟩
  · exact ⟨⟨by omega, by omega, by omega, by omega, by omega⟩, by omega⟩
/-- What may be written and is read as it was. -/
structure Plain (o : List Cp) : Prop where
  few : FewS o
  len : o.length ≤ 40
  chk : chkS o = 0
  fits : ∀ c ∈ o, c.Fits
theorem Plain.nil : Plain [] := ⟨⟨by simp, by simp⟩, by simp, rfl, by simp⟩
theorem Made.plain {n : Nat} {o : List Cp} (h : Made n o) : Plain o :=
  ⟨⟨by have := h.len; omega, fun c hc => (h.vals c hc).fits.2⟩, by have := h.len; omega, chkS_made h.vals (by have := h.len; omega), fun c hc => (h.vals c hc).fits.1⟩
theorem Plain.read {o : List Cp} (h : Plain o) : opP (opB o) = (o, 0) := by
  rw [opP_opB o h.len h.fits, h.chk, if_neg (fun h => h rfl)]
theorem opB_size {o : List Cp} (h : FewS o) : (opB o).length ≤ 8051 := by
  have h1 := opB_len o
  have h2 := h.le
  omega
theorem row_cap {w : World} {k : IntKind} {a : Option Addr} {len cap : Nat} {zs : List Int} (h : IsRow k w a len cap zs) : len ≤ cap := by
  rcases h with ⟨rfl, rfl, rfl, rfl⟩ | ⟨ad, rfl, h1, h2, h3, h4, h5⟩ <;> omega
end Go.Proofs.YtinifnpajkldbaaDoor

/- A slice of slices of bytes that reads as lists; of no program. -/
import Derived.Test.YtifdoneffnfogabBase
namespace Go.Proofs.Ytifdoneffnfogab
open Go.RowKit
set_option linter.unusedSimpArgs false
set_option linter.unusedVariables false

/-- A slice of slices of bytes that reads as ls. -/
def Parts (w : World) (v : Value) (ls : List (List UInt8)) : Prop :=
  ∃ ao cap, v = .slice ao ls.length cap ∧ ls.length ≤ cap ∧ (ao = none → ls = []) ∧ ∀ ad, ao = some ad → ∀ j l, ls[j]? = some l → ∃ p c, w.cell? (ad.add j) = some (.slice p l.length c) ∧ Reads w (.slice p l.length c) (B l) ∧ c ≤ maxLen

theorem Parts.later {w w' : World} {v : Value} {ls : List (List UInt8)} (h : Parts w v ls) (hb : Below w.heap.size w w') : Parts w' v ls := by
  obtain ⟨ao, cap, e, hc, hn, hcell⟩ := h
  refine ⟨ao, cap, e, hc, hn, fun ad he j l hj => ?_⟩
  obtain ⟨p, c, h1, h2, h3⟩ := hcell ad he j l hj
  exact ⟨p, c, cell_later hb h1, h2.later hb, h3⟩

theorem Parts.nil (w : World) : Parts w (.slice none 0 0) [] := ⟨none, 0, rfl, Nat.le_refl _, fun _ => rfl, fun _ h => by cases h⟩
end Go.Proofs.Ytifdoneffnfogab

/- A slice of slices of bytes that came in. -/
import Derived.Test.YtmfmbcghknknjaaDoorEqH
import Derived.Test.YtmfmbcghknknjaaDoorArg
namespace Go.Proofs.YtmfmbcghknknjaaDoor
open Go.RowKit
set_option linter.unusedSimpArgs false
set_option linter.unusedVariables false

/-- It reads as ls. -/
def IsParts (w : World) (a : Option Addr) (len cap : Nat) (ls : List (List UInt8)) : Prop := ls.length = len ∧ Parts w (.slice a len cap) ls

theorem isParts_nil (w : World) : IsParts w none 0 0 [] := ⟨rfl, Parts.nil w⟩

theorem isParts_rows {w : World} {x : Addr} {len cap : Nat} {A : Nat → Option Addr} {L C : Nat → Nat} {Z : Nat → List Int} (hl : len ≤ cap) (hm : cap ≤ maxLen)
    (h : ∀ r, r < cap → w.cell? (x.add r) = some (.slice (A r) (L r) (C r)) ∧ L r ≤ C r ∧ C r ≤ maxLen ∧ (Z r).length = C r ∧ (∀ n ∈ Z r, (Lit.int .u8 n).wf = true) ∧ (A r = none → C r = 0) ∧
      ∀ a', A r = some a' → ∀ c, c < C r → w.cell? (a'.add c) = some (.int .u8 ((Z r).getD c 0))) : ∃ ls, IsParts w (some x) len cap ls := by
  have each : ∀ r, r < cap → ∃ l : List UInt8, l.length = L r ∧ Reads w (.slice (A r) (L r) (C r)) (B l) := by
    intro r hr
    obtain ⟨h1, h2, h3, h4, h5, h6, h7⟩ := h r hr
    have hrow : IsRow .u8 w (A r) (L r) (C r) (Z r) := by
      cases ha : A r with
      | none =>
        have := h6 ha
        exact .inl ⟨rfl, by omega, this, List.eq_nil_of_length_eq_zero (by omega)⟩
      | some a' => exact .inr ⟨a', rfl, h2, h3, h4, fun i hi => h7 a' ha i (by omega), h5⟩
    obtain ⟨l, e1, _, e2⟩ := bytes_of_row hrow
    rw [e1] at e2
    exact ⟨l, e1, e2⟩
  obtain ⟨f, hf⟩ : ∃ f : Nat → List UInt8, ∀ r, r < cap → (f r).length = L r ∧ Reads w (.slice (A r) (L r) (C r)) (B (f r)) :=
    ⟨fun r => if hr : r < cap then (each r hr).choose else [], fun r hr => by simp only [dif_pos hr]; exact (each r hr).choose_spec⟩
  refine ⟨(List.range len).map f, by simp, some x, cap, by simp, by simpa using hl, (fun h => by cases h), fun ad he j l hj => ?_⟩
  cases he
  have hjl : j < len := by
    have := (List.getElem?_eq_some_iff.1 hj).1
    simpa using this
  have e : l = f j := by simpa [hjl] using hj.symm
  subst e
  obtain ⟨e1, e2⟩ := hf j (by omega)
  obtain ⟨h1, _, h3, _⟩ := h j (by omega)
  exact ⟨A j, C j, by rw [e1]; exact h1, by rw [e1]; exact e2, h3⟩
end Go.Proofs.YtmfmbcghknknjaaDoor

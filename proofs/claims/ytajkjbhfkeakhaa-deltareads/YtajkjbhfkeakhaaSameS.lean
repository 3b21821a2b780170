/- Two operations held against each other, as a function of lists; of no program. -/
import Derived.Test.YtajkjbhfkeakhaaOpS
namespace Go.Proofs.Ytajkjbhfkeakhaa

def sameC (a b : Cp) : Bool := (a.k == b.k) && ((a.n == b.n) && (a.s.toList == b.s.toList))
theorem sameC_iff (a b : Cp) : sameC a b = true ↔ a = b := by
  obtain ⟨k, n, s⟩ := a
  obtain ⟨k', n', s'⟩ := b
  simp only [sameC, Bool.and_eq_true, beq_iff_eq, Cp.mk.injEq, ByteArray.toList_eq]
  constructor
  · rintro ⟨h1, h2, h3⟩
    exact ⟨h1, h2, ByteArray.ext (Array.ext' h3)⟩
  · rintro ⟨h1, h2, h3⟩
    exact ⟨h1, h2, by rw [h3]⟩

def sameL : List Cp → List Cp → Bool
  | [], [] => true
  | x :: a, y :: b => sameC x y && sameL a b
  | _, _ => false
theorem sameL_iff : ∀ (a b : List Cp), sameL a b = true ↔ a = b
  | [], [] => by simp [sameL]
  | x :: a, y :: b => by
    simp only [sameL, Bool.and_eq_true, sameC_iff, sameL_iff a b, List.cons.injEq]
  | [], _ :: _ => by simp [sameL]
  | _ :: _, [] => by simp [sameL]
theorem sameL_len {a b : List Cp} (h : a.length ≠ b.length) : sameL a b = false := by
  cases hs : sameL a b with
  | false => rfl
  | true => exact absurd (by rw [(sameL_iff a b).1 hs]) h
theorem sameL_self (a : List Cp) : sameL a a = true := (sameL_iff a a).2 rfl
theorem sameL_ne {a b : List Cp} (h : a ≠ b) : sameL a b = false := by
  cases hs : sameL a b with
  | false => rfl
  | true => exact absurd ((sameL_iff a b).1 hs) h
end Go.Proofs.Ytajkjbhfkeakhaa

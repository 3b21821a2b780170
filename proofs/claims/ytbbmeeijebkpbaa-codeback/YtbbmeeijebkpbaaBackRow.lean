/- CodeBack's walk, from arguments as they come in. -/
import Derived.Test.YtbbmeeijebkpbaaBack
namespace Go.Proofs.Ytbbmeeijebkpbaa
open Go.RowKit

/-- A slice of strings that came in: nil, or a row of cap cells, the strings ss, of which the first len are its elements. -/
def IsStrs (w : World) (a : Option Addr) (len cap : Nat) (ss : List ByteArray) : Prop :=
  (a = none ∧ len = 0 ∧ cap = 0 ∧ ss = []) ∨
  ∃ x, a = some x ∧ len ≤ cap ∧ ss.length = cap ∧ ∀ i, i < ss.length → w.cell? (x.add i) = some (.string (ss.getD i ByteArray.empty))

theorem back_row (a0 : Option Addr) (len0 cap0 : Nat) (z0 : List Int) (a1 : Option Addr) (len1 cap1 : Nat) (z1 : List ByteArray) (w : World) (w0 : IsRow .i64 w a0 len0 cap0 z0) (w1 : IsStrs w a1 len1 cap1 z1) :
    Calls Try.prog 5 #[.slice a0 len0 cap0, .slice a1 len1 cap1] w fun e w' => e = .returned (.bool true) ∧ Below w.heap.size w w' := by
  have e0 : (z0.take len0).length = len0 := by
    rcases w0 with ⟨rfl, rfl, rfl, rfl⟩ | ⟨ad, rfl, h1, h2, h3, h4, h5⟩
    · rfl
    · rw [List.length_take]; omega
  have e1 : (z1.take len1).length = len1 := by
    rcases w1 with ⟨rfl, rfl, rfl, rfl⟩ | ⟨ad, rfl, h1, h3, h4⟩
    · rfl
    · rw [List.length_take]; omega
  have h := back_any (z0.take len0) (z1.take len1) a0 cap0 a1 cap1 w ?_ ?_
  · rw [e0, e1] at h
    exact h
  · intro j x hx
    rcases w0 with ⟨rfl, rfl, rfl, rfl⟩ | ⟨ad, rfl, h1, h2, h3, h4, h5⟩
    · simp at hx
    · rw [List.getElem?_take] at hx
      split at hx
      · rename_i hj
        have hjz : j < z0.length := by omega
        have hx2 : z0[j] = x := by rw [List.getElem?_eq_getElem hjz] at hx; simpa using hx
        obtain ⟨b, off, sp⟩ := ad
        have h0 := h4 0 (by omega)
        have hsp : sp = none := by
          cases sp with
          | none => rfl
          | some z => simp [Addr.add, World.cell?] at h0; split at h0 <;> simp at h0
        subst hsp
        have ee : z0.getD j 0 = z0[j] := by rw [List.getD_eq_getElem?_getD, List.getElem?_eq_getElem hjz]; rfl
        have hc := h4 j hjz
        rw [Addr.add_lit, ee, hx2] at hc
        exact ⟨⟨b, off, rfl, hc⟩, wf_i64 (h5 x (by rw [← hx2]; exact List.getElem_mem hjz))⟩
      · cases hx
  · intro j x hx
    rcases w1 with ⟨rfl, rfl, rfl, rfl⟩ | ⟨ad, rfl, h1, h3, h4⟩
    · simp at hx
    · rw [List.getElem?_take] at hx
      split at hx
      · rename_i hj
        have hjz : j < z1.length := by omega
        have hx2 : z1[j] = x := by rw [List.getElem?_eq_getElem hjz] at hx; simpa using hx
        obtain ⟨b, off, sp⟩ := ad
        have h0 := h4 0 (by omega)
        have hsp : sp = none := by
          cases sp with
          | none => rfl
          | some z => simp [Addr.add, World.cell?] at h0; split at h0 <;> simp at h0
        subst hsp
        have ee : z1.getD j ByteArray.empty = z1[j] := by rw [List.getD_eq_getElem?_getD, List.getElem?_eq_getElem hjz]; rfl
        have hc := h4 j hjz
        rw [Addr.add_lit, ee, hx2] at hc
        exact ⟨b, off, rfl, hc⟩
      · cases hx
end Go.Proofs.Ytbbmeeijebkpbaa

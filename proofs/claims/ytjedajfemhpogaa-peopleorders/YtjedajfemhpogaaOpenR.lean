/- Slices that came in, of elements of any number of cells. -/
import Derived.Test.YtjedajfemhpogaaBase
import Derived.Test.YtjedajfemhpogaaProg
import Derived.ChangeArms
import Derived.DataElems
import Derived.OpenShut
import Derived.WalkKit
import Derived.ProofKit
namespace Go.Proofs.Ytjedajfemhpogaa
open Go.ChangeShapes Go.WideShapes Go.ChangeAt Go.RowKit
set_option linter.unusedSimpArgs false
set_option linter.unusedVariables false

section
variable {H : Type} {enc : TypeId × Value → H} {W : World} {base : Nat} {sp : Nat → Bool} {held : Bool} {n : Nat}
theorem open_rowsK {t e : TypeId} {K : Nat} {cs : List Value} {x : DataW H × List MemPlace} (ht : Try.prog.underlying t = some (.slice e)) (hK : Try.prog.cellsOf e = K) (h0 : 0 < K) (h : DataW.trod enc Try.prog W base sp held n t cs = some x) :
    ∃ ao len cap, cs = [.slice ao len cap] ∧ len ≤ cap ∧ cap ≤ maxLen ∧ ∀ i, i < len → ∃ b off ds y m, ao = some ⟨b, off, none⟩ ∧ ds.length = K ∧ DataW.trod enc Try.prog W base sp held m e ds = some y ∧ ∀ j, j < K → W.cell? ⟨b, off + (i * K + j), none⟩ = ds[j]? := by
  rcases DataW.trod_slice ht h with ⟨rfl, _⟩ | ⟨a, len, cap, elems, rest, m, rfl, rfl, _, hb, hlc, hcm, hel, hi, _, _⟩
  · exact ⟨none, 0, 0, rfl, Nat.le_refl _, Nat.zero_le _, fun i h => absurd h (Nat.not_lt_zero i)⟩
  · rw [hK] at hi
    refine ⟨some a, len, cap, rfl, hlc, hcm, fun i hlt => ?_⟩
    have h1 := hi i hlt
    rw [List.getElem?_eq_getElem (by omega)] at h1
    obtain ⟨ds, h2, h3⟩ := Option.bind_eq_some_iff.1 h1
    obtain ⟨_, h4, h5⟩ := World.cells?_some h2
    obtain ⟨b, off, spd⟩ := a
    have hsp : spd = none := by
      cases spd with
      | none => rfl
      | some z =>
        have h1 := hi 0 (by omega)
        rw [List.getElem?_eq_getElem (by omega)] at h1
        obtain ⟨ds0, h2, _⟩ := Option.bind_eq_some_iff.1 h1
        obtain ⟨_, h4, h5⟩ := World.cells?_some h2
        have h6 := h5 0 h0
        rw [List.getElem?_eq_getElem (by omega), Nat.zero_mul] at h6
        simp only [Addr.add, if_true, World.cell?] at h6
        split at h6 <;> simp at h6
    subst hsp
    refine ⟨b, off, ds, _, m, rfl, h4, h3, fun j hj => ?_⟩
    have h6 := h5 j hj
    rw [Addr.add_add, Addr.add_lit] at h6
    exact h6
end
end Go.Proofs.Ytjedajfemhpogaa

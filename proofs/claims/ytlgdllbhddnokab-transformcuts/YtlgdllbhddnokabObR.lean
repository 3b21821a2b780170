/- The contracts of the second say's Normal and Same, in short. -/
import Derived.Test.YtlgdllbhddnokabOb
import Derived.Test.YtlgdllbhddnokabRefNormal
import Derived.Test.YtlgdllbhddnokabRefSame
namespace Go.Proofs.Ytlgdllbhddnokab
open Go.RowKit
set_option linter.unusedSimpArgs false
set_option linter.unusedVariables false

section
variable {w w' : World} {v va vb : Value} {o a b : List Cp} {i u j t : Nat}
theorem rnorm_ob (h : Ob w v o i u) :
    Calls Try.prog 9 #[v] w fun e w' => ∃ v', e = .returned v' ∧ Ob w' v' (normS o) i u ∧ Below w.heap.size w w' := by
  refine (refNormal_any v o w h.rc h.fit h.good).mono ?_
  rintro e w' ⟨v', rfl, hH, hb⟩
  exact ⟨v', rfl, ⟨hH.reads, norm_good h.good, by rw [in_norm _ h.good, h.ins], by rw [out_norm _ h.good, h.outs], h.hi, h.hu⟩, hb⟩
theorem rsame_ob (ha : Ob w va a i u) (hb : Ob w vb b j t) (he : a = b) :
    Calls Try.prog 10 #[va, vb] w fun e w' => e = .returned (.bool true) ∧ Below w.heap.size w w' := by
  refine (refSame_any va vb a b w ha.rc hb.rc (by have := ha.len; omega) (by have := hb.len; omega)).mono ?_
  rintro e w' ⟨rfl, hb⟩
  exact ⟨by rw [he, sameL_self], hb⟩
end
end Go.Proofs.Ytlgdllbhddnokab

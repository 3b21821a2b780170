/- The contract of the second say's Op of chapter 6, in short. -/
import Derived.Test.YtlgdllbhddnokabRInv
import Derived.Test.YtlgdllbhddnokabOb
namespace Go.Proofs.Ytlgdllbhddnokab
open Go.RowKit
set_option linter.unusedSimpArgs false
set_option linter.unusedVariables false

section
variable {w w' : World} {v va vb : Value} {o a b : List Cp} {i u j t : Nat}
theorem rinv_ob (d : ByteArray) (h : Ob w v o i u) (hd : d.size = i) :
    Calls Try.prog 12 #[.string d, v] w fun e w' => ∃ v', e = .returned (.tuple #[v', .int .i64 0]) ∧ Ob w' v' (invS d o) u i ∧ Below w.heap.size w w' := by
  have h1 := h.ins
  have h2 := h.outs
  have h3 := h.hi
  have h4 := h.hu
  refine (rOp_any d v o w h.rc h.fit h.good (by omega) (by omega)).mono ?_
  rintro e w' ⟨_, hx, hb⟩
  obtain ⟨v', rfl, hH⟩ := hx (by omega)
  have I := inv_ua (d := d) h.good (by omega)
  exact ⟨v', rfl, ⟨hH.reads, I.good, by rw [I.ins, h2], by rw [I.outs, h1], h4, h3⟩, hb⟩
theorem rinv_bad (d : ByteArray) (h : Ob w v o i u) (hd : d.size ≠ i) (hl : d.size ≤ 1099511627776) :
    Calls Try.prog 12 #[.string d, v] w fun e w' => e = .returned (.tuple #[.slice none 0 0, .int .i64 7]) ∧ Below w.heap.size w w' := by
  have h1 := h.ins
  have h2 := h.outs
  have h3 := h.hi
  have h4 := h.hu
  refine (rOp_any d v o w h.rc h.fit h.good hl (by omega)).mono ?_
  rintro e w' ⟨hx, _, hb⟩
  exact ⟨hx (by omega), hb⟩
end
end Go.Proofs.Ytlgdllbhddnokab

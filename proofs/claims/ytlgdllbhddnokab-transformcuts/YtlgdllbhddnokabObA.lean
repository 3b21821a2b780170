/- The contract of the second say's Apply, in short; what is taken together, applied. -/
import Derived.Test.YtlgdllbhddnokabOb
import Derived.Test.YtlgdllbhddnokabRefAppl
namespace Go.Proofs.Ytlgdllbhddnokab
open Go.RowKit
set_option linter.unusedSimpArgs false
set_option linter.unusedVariables false

theorem apply_ob {w : World} {v : Value} {o : List Cp} {i u : Nat} (d : ByteArray) (h : Ob w v o i u) (hd : d.size = i) (hu : u ≤ 120) :
    Calls Try.prog 17 #[.string d, v] w fun e w' => e = .returned (.tuple #[.string ⟨(applyS d.data.toList o).toArray⟩, .int .i64 0]) ∧ w' = w := by
  have h1 := h.ins
  have h2 := h.outs
  have h3 := h.hi
  refine (refApply_any d v o w h.rc h.fit h.good (by omega)).mono ?_
  rintro e w' ⟨rfl, rfl⟩
  rw [apS, if_neg (by omega), if_neg (by omega)]
  exact ⟨rfl, rfl⟩
theorem applied_size {o : List Cp} {i u : Nat} {w : World} {v : Value} (d : ByteArray) (h : Ob w v o i u) (hd : d.size = i) : (⟨(applyS d.data.toList o).toArray⟩ : ByteArray).size = u := by
  have h1 := applyS_length o d.data.toList h.good (by rw [h.ins]; rw [size_list] at hd; omega)
  have h2 := h.outs
  rw [size_list]
  simp only
  omega
theorem two_applied {w : World} {va vb : Value} {a b : List Cp} {i u t : Nat} (d : ByteArray) (ha : Ob w va a i u) (hb : Ob w vb b u t) (hd : d.size = i) :
    applyS d.data.toList (twoS a b) = applyS (⟨(applyS d.data.toList a).toArray⟩ : ByteArray).data.toList b := by
  have T := two_ta ha.good hb.good (by rw [hb.ins, ha.outs])
  have := T.acts UInt8 id d.data.toList (by rw [ha.ins]; rw [size_list] at hd; omega)
  rw [act_id, act_id, act_id] at this
  simpa using this
end Go.Proofs.Ytlgdllbhddnokab

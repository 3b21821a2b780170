/- An operation whose text gets too long, applied; both ways meet. -/
import Derived.Test.YtlgdllbhddnokabObT
import Derived.Test.YtlgdllbhddnokabObA
namespace Go.Proofs.Ytlgdllbhddnokab
open Go.RowKit
set_option linter.unusedSimpArgs false
set_option linter.unusedVariables false

theorem apply_long {w : World} {v : Value} {o : List Cp} {i u : Nat} (d : ByteArray) (h : Ob w v o i u) (hd : d.size = i) (hu : 120 < u) :
    Calls Try.prog 17 #[.string d, v] w fun e w' => e = .returned (.tuple #[.string ⟨#[]⟩, .int .i64 5]) ∧ w' = w := by
  have h1 := h.ins
  have h2 := h.outs
  have h3 := h.hi
  refine (refApply_any d v o w h.rc h.fit h.good (by omega)).mono ?_
  rintro e w' ⟨rfl, rfl⟩
  rw [apS, if_neg (by omega), if_pos (by omega)]
  exact ⟨rfl, rfl⟩
theorem PX.meets {a b X Y : List Cp} {r : Nat} (h : PX a b X Y r) (ga : Good a) (gb : Good b) (d : List UInt8) (hd : inS a = d.length) : applyS (applyS d a) (normS Y) = applyS (applyS d b) (normS X) := by
  have h1 := h.pa.meets UInt8 id d (by rw [in_norm _ ga, hd])
  rw [norm_act _ ga, norm_act _ gb, ← norm_act _ h.pa.gy, ← norm_act _ h.pa.gx, act_id, act_id, act_id, act_id] at h1
  exact h1
end Go.Proofs.Ytlgdllbhddnokab

/- What the laws of the disk share. -/
import Derived.Test.YtifdoneffnfogabKAt0
namespace Go.Proofs.Ytifdoneffnfogab
open Go.RowKit
set_option linter.unusedSimpArgs false
set_option linter.unusedVariables false

theorem crash_again (b : List UInt8) (t : Nat) (ht : t ≤ b.length) (z : Nat) (q : Int) : (⟨b.take t, t, z, 0, false⟩ : Dk).crash q = ⟨b.take t, t, z, 0, false⟩ := by
  have h1 : (b.take t).length = t := by rw [List.length_take]; omega
  have h2 : (⟨b.take t, t, z, 0, false⟩ : Dk).stay q = t := by
    show t + (q % (((b.take t).length - t + 1 : Nat) : Int)).toNat = t
    rw [h1, Nat.sub_self, Nat.zero_add, show ((1 : Nat) : Int) = 1 from rfl, Int.emod_one]
    rfl
  show (⟨(b.take t).take _, _, _, _, _⟩ : Dk) = _
  rw [h2, List.take_of_length_le (by omega)]
theorem fresh_app (z : Nat) (hz : (Dk.new z).size = z) (l : List UInt8) (hl : l.length ≤ z) : (Dk.new z).app l = (0, ⟨l, 0, z, 0, false⟩) := by
  rw [Dk.app, if_neg (by simp [Dk.new]), if_neg (by show ¬ (Dk.new z).size - 0 < l.length; omega), if_neg (by simp [Dk.new])]
  show (0, (⟨l, 0, (Dk.new z).size, 0, false⟩ : Dk)) = _
  rw [hz]
theorem belowDrewN0 (w : World) (k : Nat) : Below w.heap.size w (w.drewN k) := ⟨rfl, rfl, rfl, by simp, fun k _ => by simp⟩
theorem belowDrewN0' {Bd : Nat} {w0 w : World} (h : Below Bd w0 w) (k : Nat) : Below Bd w0 (w.drewN k) := ⟨h.os, h.tape, h.output, by simpa using h.size, fun k hk => by simpa using h.block k hk⟩
theorem strQ {w : World} {v : Value} {l : List UInt8} (h : Reads w v (B l)) (k : Nat) : (convert 31 9 v).run Try.prog (w.drewN k) = .ok (.string ⟨l.toArray⟩) (w.drewN k) :=
  run_strB (h.later (belowDrewN0 w k))
/-- Another disk, while this one is worked on. -/
theorem KD.beside {L : Nat} {w w1 w2 : World} {d r d2 r2 : Nat} {s s2 : Dk} (h : KD L w w1 d2 r2 s2) (hK : KD L w w2 d r s) (ho : Only w1 w2 d r) (h1 : d2 ≠ d ∧ d2 ≠ r ∧ r2 ≠ d ∧ r2 ≠ r) : KD L w w2 d2 r2 s2 :=
  ⟨h.dk.kept (ho.block d2 h.dk.lt h1.1 h1.2.1) (ho.block r2 h.dk.ltr h1.2.2.1 h1.2.2.2), hK.bel, hK.le, h.d, h.r⟩
end Go.Proofs.Ytifdoneffnfogab

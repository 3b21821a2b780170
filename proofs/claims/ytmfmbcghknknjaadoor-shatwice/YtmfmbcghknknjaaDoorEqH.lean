/- Sums compared, and a row of bytes that is written to. -/
import Derived.Test.YtmfmbcghknknjaaDoorRefSum
import Derived.Test.YtmfmbcghknknjaaDoorLaid2
namespace Go.Proofs.YtmfmbcghknknjaaDoor
open Go.RowKit
set_option linter.unusedSimpArgs false
set_option linter.unusedVariables false

theorem eqH (l : List UInt8) (hl : l.length = 32) (w : World) : (Op.equalIn 10000 24 (.agg (B l).toArray) (.agg (B l).toArray)).run Tryd.prog w = .ok true w := by
  have h := run_equalIn_bytes (P := Tryd.prog) w 9998 24 5 32 Tryd.underlying24 Tryd.underlying5 Tryd.sizeByte l l hl hl
  rw [show (l == l) = true by simp] at h
  exact h

theorem u8_val (v : Int) (h0 : 0 ≤ v) (h1 : v < 256) : Value.int .u8 v = Value.int .u8 (UInt8.ofNat v.toNat).toNat := by
  rw [UInt8.toNat_ofNat']
  congr 1
  omega

theorem Owns.setByte {w : World} {e : TypeId} {g cap n : Nat} {l : List UInt8} (h : Owns w e g cap n (B l)) (j : Nat) (v : Int) (h0 : 0 ≤ v) (h1 : v < 256) :
    Owns (w.setCell ⟨g, j, none⟩ (.int .u8 v)) e g cap n (B (l.set j (UInt8.ofNat v.toNat))) := by
  obtain ⟨l1, l2, l3, cur, hg, h4, h5⟩ := h
  rw [setCell_eq_setRow w g j cur e (0, 0) _ hg, u8_val v h0 h1]
  refine ⟨by rw [B_length, List.length_set]; rw [B_length] at l1; exact l1, l2, l3, _, setRow_heap w g cur _ e _ hg, by rw [Array.size_setIfInBounds]; exact h4, ?_⟩
  rw [Array.toList_setIfInBounds, List.take_set, h5]
  simp [B, List.map_set]
end Go.Proofs.YtmfmbcghknknjaaDoor

/- The contracts of Int, Byte and Text: what is written stands in a new row behind what was there. -/
import Derived.Test.YtifdoneffnfogabRoom
namespace Go.Proofs.Ytifdoneffnfogab
open Go.RowKit

theorem wrapu (n : Int) : IntKind.u64.wrap n = n % 18446744073709551616 := by simp [IntKind.wrap_u64]
theorem wrapu_lo (n : Int) : 0 ≤ IntKind.u64.wrap n := by rw [wrapu]; omega
theorem wrapu_hi (n : Int) : IntKind.u64.wrap n < 18446744073709551616 := by rw [wrapu]; omega
theorem Grew.ge {e : TypeId} {w w' : World} {g cap n g' cap' n' Bd : Nat} {xs xs' : List Value} (h : Grew e w g cap n xs w' g' cap' n' xs') (h1 : Bd ≤ g) (h2 : Bd ≤ w.heap.size) : Bd ≤ g' := by
  rcases h.blk with ⟨rfl, _⟩ | hb <;> omega

set_option maxRecDepth 100000 in
set_option maxHeartbeats 400000 in
theorem wInt_any (v : Value) (xs : List Value) (n : Int) (w : World) (hr : Reads w v xs) (h1 : ∀ u ∈ xs, u.oneCell' = true) (hb : xs.length + 8 ≤ 140737488355328) :
    Calls Try.prog 28 #[v, .int .i64 n] w fun e w' => ∃ g cap, e = .returned (.slice (some ⟨g, 0, none⟩) (xs.length + 8) cap) ∧ w.heap.size ≤ g ∧ Owns w' 5 g cap (xs.length + 8) (xs ++ B (le 8 (n % 18446744073709551616).toNat)) ∧ Below w.heap.size w w' := by
  go_enter Try.func28, Try.ntmps28
  go_wp2_with fail
  refine (room_any v xs 8 (by omega) _ hr h1 (by omega)).mono ?_
  rintro e w1 ⟨g, cap, rfl, hg, ho, hb1⟩
  go_wp2_with fail
  refine (split_any g cap _ xs _ 8 (wrapu_lo n) (wrapu_hi n) (by omega) (by omega) (by omega) _ ho).mono ?_
  rintro e w2 ⟨g2, cap2, rfl, hG⟩
  go_wp2_with fail
  go_ret
  exact ⟨g2, cap2, rfl, hG.ge hg hb1.size, by have := hG.own; rwa [wrapu] at this, hG.below hb1 hg⟩

theorem le_length : ∀ (k u : Nat), (le k u).length = k
  | 0, _ => rfl
  | k + 1, u => by rw [le, List.length_cons, le_length k]

theorem cInt (v : Value) (l : List UInt8) (k : Nat) (hk : l.length = k) (n : Int) (w : World) (hr : Reads w v (B l)) (hb : k + 8 ≤ 140737488355328) :
    Calls Try.prog 28 #[v, .int .i64 n] w fun e w' => ∃ g cap, e = .returned (.slice (some ⟨g, 0, none⟩) (k + 8) cap) ∧ w.heap.size ≤ g ∧ Owns w' 5 g cap (k + 8) (B (l ++ le 8 (n % 18446744073709551616).toNat)) ∧ Below w.heap.size w w' := by
  subst hk
  refine (wInt_any v (B l) n w hr (B_one l) (by rw [B_length]; exact hb)).mono ?_
  rintro e w' ⟨g, cap, rfl, h1, h2, h3⟩
  rw [B_length, ← B_append] at h2
  rw [B_length]
  exact ⟨g, cap, rfl, h1, h2, h3⟩

end Go.Proofs.Ytifdoneffnfogab

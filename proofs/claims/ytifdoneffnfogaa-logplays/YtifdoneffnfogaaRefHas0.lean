/- The second say's Byte, Int and Text behind any slice of the call's own, nil too. -/
import Derived.Test.YtifdoneffnfogaaRefWrite0
import Derived.Test.YtifdoneffnfogaaHas
import Derived.Test.YtifdoneffnfogaaBytes0
namespace Go.Proofs.Ytifdoneffnfogaa
open Go.RowKit
set_option linter.unusedSimpArgs false
set_option linter.unusedVariables false

theorem has_of_grew {w w' : World} {Bd g cap n g' cap' n' : Nat} {e : TypeId} {xs xs' : List Value} (h : Grew e w g cap n xs w' g' cap' n' xs') (hB : Bd ≤ g) (hs : Bd ≤ w.heap.size) : Has w' e Bd (.slice (some ⟨g', 0, none⟩) n' cap') n' xs' ∧ Below Bd w w' :=
  ⟨.inr ⟨g', cap', rfl, by rcases h.blk with ⟨rfl, _⟩ | hb; exact hB; omega, h.own⟩, h.below (Below.refl _ _) hB⟩

set_option maxRecDepth 100000 in
set_option maxHeartbeats 400000 in
theorem fInt_has (Bd : Nat) (v : Value) (m : Nat) (l : List UInt8) (n : Int) (w : World) (hH : Has w 5 Bd v m (B l)) (hB : Bd ≤ w.heap.size) (hb : m + 8 ≤ 140737488355328) :
    Calls Try.prog 38 #[v, .int .i64 n] w fun e w' => ∃ v', e = .returned v' ∧ Has w' 5 Bd v' (m + 8) (B (l ++ i8 n)) ∧ Below Bd w w' := by
  obtain ⟨i0, hi, hz0, hz1, hz2⟩ := info_parts Try.infoByte
  have HH := hid hH
  obtain ⟨a, cap, rfl⟩ := hH.form
  clear hH
  go_enter Try.func38, Try.ntmps38
  go_wp2_with fail
  go_loopw [0, 5] (fun v i wr => ∃ k : Nat, k ≤ 8 ∧ i = .int .i64 k ∧ Has wr 5 Bd v (m + k) (B (l ++ le k (n % 18446744073709551616).toNat)) ∧ Below Bd w wr) (fun _ i _ => 8 - (intOf i).toNat)
  case atStart => exact ⟨0, Nat.zero_le _, rfl, by simpa [le] using HH.out, Below.refl _ _⟩
  case round =>
    obtain ⟨k, hk, rfl, hH, hbr⟩ := hrel
    obtain ⟨a1, cap1, rfl⟩ := hH.form
    have HH := hid hH
    have Hb := hid hbr
    have HS := hid (show Bd ≤ wr.heap.size from Nat.le_trans hB hbr.size)
    clear hH hbr
    by_cases hlt : k < 8
    · have hlt' : (k : Int) < 8 := by omega
      go_wp2_with (at_builtin; go_must (refine wpList_append_has _ rfl _ _ 37 37 rfl 5 i0 (.int .u8 0) Try.underlying37 hi hz0 hz1 hz2 rfl Bd _ (m + k) _ rfl (HH.out.alloc _) (by have := HS.out; simp; omega) _ 1 _ rfl (Src.ofSlice _ Try.underlying37 ⟨wr.heap.size, 0, none⟩ 1 1 [_] rfl (cell_one_new _ _ _) (by intro u hu; simp at hu; subst hu; rfl)) (by omega) (by omega) ?_); intro v2 w2 hH2 hb2)
      go_roundw
      case rel =>
        have h := hH2
        rw [byte_at, ← B_append, List.append_assoc, ← le_snoc] at h
        exact ⟨k + 1, by omega, by go_num, h, (Hb.out.alloc HS.out _).trans hb2⟩
      case measure => simp [intOf]; omega
    · have hk8 : k = 8 := by omega
      subst hk8
      clear hlt hk
      go_wp2_with fail
      go_ret
      exact ⟨_, rfl, HH.out, Hb.out⟩

theorem Has.owns {w : World} {e : TypeId} {Bd : Nat} {v : Value} {n : Nat} {xs : List Value} (h : Has w e Bd v n xs) (h0 : 0 < n) : ∃ g cap, v = .slice (some ⟨g, 0, none⟩) n cap ∧ Bd ≤ g ∧ Owns w e g cap n xs := by
  rcases h with ⟨rfl, rfl, rfl⟩ | h
  · omega
  · exact h
end Go.Proofs.Ytifdoneffnfogaa

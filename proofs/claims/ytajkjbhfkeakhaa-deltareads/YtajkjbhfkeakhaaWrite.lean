/- The contracts of Int, Byte and Text: what is written stands in a new row behind what was there. -/
import Derived.Test.YtajkjbhfkeakhaaRoom
namespace Go.Proofs.Ytajkjbhfkeakhaa
open Go.RowKit

theorem wrapu (n : Int) : IntKind.u64.wrap n = n % 18446744073709551616 := by simp [IntKind.wrap_u64]
theorem wrapu_lo (n : Int) : 0 ≤ IntKind.u64.wrap n := by rw [wrapu]; omega
theorem wrapu_hi (n : Int) : IntKind.u64.wrap n < 18446744073709551616 := by rw [wrapu]; omega
theorem Grew.ge {e : TypeId} {w w' : World} {g cap n g' cap' n' Bd : Nat} {xs xs' : List Value} (h : Grew e w g cap n xs w' g' cap' n' xs') (h1 : Bd ≤ g) (h2 : Bd ≤ w.heap.size) : Bd ≤ g' := by
  rcases h.blk with ⟨rfl, _⟩ | hb <;> omega

set_option maxRecDepth 100000 in
set_option maxHeartbeats 400000 in
theorem wInt_any (v : Value) (xs : List Value) (n : Int) (w : World) (hr : Reads w v xs) (h1 : ∀ u ∈ xs, u.oneCell' = true) (hb : xs.length + 8 ≤ 140737488355328) :
    Calls Try.prog 27 #[v, .int .i64 n] w fun e w' => ∃ g cap, e = .returned (.slice (some ⟨g, 0, none⟩) (xs.length + 8) cap) ∧ w.heap.size ≤ g ∧ Owns w' 5 g cap (xs.length + 8) (xs ++ B (le 8 (n % 18446744073709551616).toNat)) ∧ Below w.heap.size w w' := by
  go_enter Try.func27, Try.ntmps27
  go_wp2_with fail
  refine (room_any v xs 8 (by omega) _ hr h1 (by omega)).mono ?_
  rintro e w1 ⟨g, cap, rfl, hg, ho, hb1⟩
  go_wp2_with fail
  refine (split_any g cap _ xs _ 8 (wrapu_lo n) (wrapu_hi n) (by omega) (by omega) (by omega) _ ho).mono ?_
  rintro e w2 ⟨g2, cap2, rfl, hG⟩
  go_wp2_with fail
  go_ret
  exact ⟨g2, cap2, rfl, hG.ge hg hb1.size, by have := hG.own; rwa [wrapu] at this, hG.below hb1 hg⟩

set_option maxRecDepth 100000 in
set_option maxHeartbeats 400000 in
theorem wByte_any (v : Value) (xs : List Value) (n : Int) (w : World) (hr : Reads w v xs) (h1 : ∀ u ∈ xs, u.oneCell' = true) (hb : xs.length + 1 ≤ 140737488355328) :
    Calls Try.prog 28 #[v, .int .i64 n] w fun e w' => ∃ g cap, e = .returned (.slice (some ⟨g, 0, none⟩) (xs.length + 1) cap) ∧ w.heap.size ≤ g ∧ Owns w' 5 g cap (xs.length + 1) (xs ++ B (le 1 (n % 18446744073709551616).toNat)) ∧ Below w.heap.size w w' := by
  go_enter Try.func28, Try.ntmps28
  go_wp2_with fail
  refine (room_any v xs 1 (by omega) _ hr h1 (by omega)).mono ?_
  rintro e w1 ⟨g, cap, rfl, hg, ho, hb1⟩
  go_wp2_with fail
  refine (split_any g cap _ xs _ 1 (wrapu_lo n) (wrapu_hi n) (by omega) (by omega) (by omega) _ ho).mono ?_
  rintro e w2 ⟨g2, cap2, rfl, hG⟩
  go_wp2_with fail
  go_ret
  exact ⟨g2, cap2, rfl, hG.ge hg hb1.size, by have := hG.own; rwa [wrapu] at this, hG.below hb1 hg⟩


set_option maxRecDepth 100000 in
set_option maxHeartbeats 400000 in
theorem wText_short (v : Value) (xs : List Value) (s : ByteArray) (w : World) (hr : Reads w v xs) (h1 : ∀ u ∈ xs, u.oneCell' = true) (hs : s.size ≤ 65535) (hb : xs.length + s.size + 2 ≤ 140737488355328) :
    Calls Try.prog 29 #[v, .string s] w fun e w' => ∃ g cap, e = .returned (.slice (some ⟨g, 0, none⟩) (xs.length + 2 + s.size) cap) ∧ w.heap.size ≤ g ∧
      Owns w' 5 g cap (xs.length + 2 + s.size) (xs ++ B (le 2 s.size) ++ B s.data.toList) ∧ Below w.heap.size w w' := by
  obtain ⟨i0, hi, hz0, hz1, hz2⟩ := info_parts Try.infoByte
  have hs' : (s.size : Int) ≤ 65535 := by omega
  go_enter Try.func29, Try.ntmps29
  go_wp2_with fail
  refine (room_any v xs _ (by omega) _ hr h1 (by omega)).mono ?_
  rintro e w1 ⟨g, cap, rfl, hg, ho, hb1⟩
  go_wp2_with fail
  refine (split_any g cap _ xs _ 2 (by omega) (by omega) (by omega) (by omega) (by omega) _ ho).mono ?_
  rintro e w2 ⟨g2, cap2, rfl, hG⟩
  go_wp2_with (at_builtin; go_must (refine wpList_append_src _ rfl _ _ 31 9 rfl 5 i0 (.int .u8 0) Try.underlying31 hi hz0 hz1 hz2 rfl g2 cap2 (xs.length + 2) _ rfl hG.own _ _ _ rfl (Src.ofString _ Try.underlying9 s) (by omega) ?_); intro g3 cap3 w3 hG3)
  go_ret
  have hT := hG.trans hG3
  refine ⟨g3, cap3, rfl, hT.ge hg hb1.size, ?_, hT.below hb1 hg⟩
  have h3 := hG3.own
  exact h3

set_option maxRecDepth 100000 in
set_option maxHeartbeats 400000 in
theorem wText_long (v : Value) (xs : List Value) (s : ByteArray) (w : World) (hr : Reads w v xs) (h1 : ∀ u ∈ xs, u.oneCell' = true) (hs : 65535 < s.size) (hm : s.size ≤ maxLen) (hb : xs.length + 65537 ≤ 140737488355328) :
    Calls Try.prog 29 #[v, .string s] w fun e w' => ∃ g cap, e = .returned (.slice (some ⟨g, 0, none⟩) (xs.length + 2 + min 65535 s.size) cap) ∧ w.heap.size ≤ g ∧
      Owns w' 5 g cap (xs.length + 2 + min 65535 s.size) (xs ++ B (le 2 (min 65535 s.size)) ++ B (s.extract 0 65535).data.toList) ∧ Below w.heap.size w w' := by
  obtain ⟨i0, hi, hz0, hz1, hz2⟩ := info_parts Try.infoByte
  unfold maxLen at hm
  have hs' : (65535 : Int) < s.size := by omega
  have hsz := hid (show (s.extract 0 65535).size = min 65535 s.size by rw [ByteArray.size_extract]; omega)
  go_enter Try.func29, Try.ntmps29
  go_wp2_with fail
  refine (room_any v xs _ (by omega) _ hr h1 (by omega)).mono ?_
  rintro e w1 ⟨g, cap, rfl, hg, ho, hb1⟩
  go_wp2_with fail
  refine (split_any g cap _ xs _ 2 (by omega) (by omega) (by omega) (by omega) (by omega) _ ho).mono ?_
  rintro e w2 ⟨g2, cap2, rfl, hG⟩
  have HS := hid (hsz.out ▸ Src.ofString (P := Try.prog) w2 Try.underlying9 (s.extract 0 65535))
  go_wp2_with (at_builtin; go_must (refine wpList_append_src _ rfl _ _ 31 9 rfl 5 i0 (.int .u8 0) Try.underlying31 hi hz0 hz1 hz2 rfl g2 cap2 (xs.length + 2) _ rfl hG.own _ _ _ rfl HS.out (by omega) ?_); intro g3 cap3 w3 hG3)
  go_ret
  have hT := hG.trans hG3
  exact ⟨g3, cap3, rfl, hT.ge hg hb1.size, hG3.own, hT.below hb1 hg⟩

theorem le_length : ∀ (k u : Nat), (le k u).length = k
  | 0, _ => rfl
  | k + 1, u => by rw [le, List.length_cons, le_length k]

theorem cInt (v : Value) (l : List UInt8) (k : Nat) (hk : l.length = k) (n : Int) (w : World) (hr : Reads w v (B l)) (hb : k + 8 ≤ 140737488355328) :
    Calls Try.prog 27 #[v, .int .i64 n] w fun e w' => ∃ g cap, e = .returned (.slice (some ⟨g, 0, none⟩) (k + 8) cap) ∧ w.heap.size ≤ g ∧ Owns w' 5 g cap (k + 8) (B (l ++ le 8 (n % 18446744073709551616).toNat)) ∧ Below w.heap.size w w' := by
  subst hk
  refine (wInt_any v (B l) n w hr (B_one l) (by rw [B_length]; exact hb)).mono ?_
  rintro e w' ⟨g, cap, rfl, h1, h2, h3⟩
  rw [B_length, ← B_append] at h2
  rw [B_length]
  exact ⟨g, cap, rfl, h1, h2, h3⟩

theorem cByte (v : Value) (l : List UInt8) (k : Nat) (hk : l.length = k) (n : Int) (w : World) (hr : Reads w v (B l)) (hb : k + 1 ≤ 140737488355328) :
    Calls Try.prog 28 #[v, .int .i64 n] w fun e w' => ∃ g cap, e = .returned (.slice (some ⟨g, 0, none⟩) (k + 1) cap) ∧ w.heap.size ≤ g ∧ Owns w' 5 g cap (k + 1) (B (l ++ le 1 (n % 18446744073709551616).toNat)) ∧ Below w.heap.size w w' := by
  subst hk
  refine (wByte_any v (B l) n w hr (B_one l) (by rw [B_length]; exact hb)).mono ?_
  rintro e w' ⟨g, cap, rfl, h1, h2, h3⟩
  rw [B_length, ← B_append] at h2
  rw [B_length]
  exact ⟨g, cap, rfl, h1, h2, h3⟩

theorem cText (v : Value) (l : List UInt8) (k : Nat) (hk : l.length = k) (s : ByteArray) (w : World) (hr : Reads w v (B l)) (hs : s.size ≤ 65535) (hb : k + s.size + 2 ≤ 140737488355328) :
    Calls Try.prog 29 #[v, .string s] w fun e w' => ∃ g cap, e = .returned (.slice (some ⟨g, 0, none⟩) (k + 2 + s.size) cap) ∧ w.heap.size ≤ g ∧ Owns w' 5 g cap (k + 2 + s.size) (B (l ++ le 2 s.size ++ s.data.toList)) ∧ Below w.heap.size w w' := by
  subst hk
  refine (wText_short v (B l) s w hr (B_one l) hs (by rw [B_length]; exact hb)).mono ?_
  rintro e w' ⟨g, cap, rfl, h1, h2, h3⟩
  rw [B_length, ← B_append, ← B_append] at h2
  rw [B_length]
  exact ⟨g, cap, rfl, h1, h2, h3⟩

theorem size_toList (s : ByteArray) : s.data.toList.length = s.size := by rw [Array.length_toList]; rfl

theorem cTextAll (v : Value) (l : List UInt8) (k : Nat) (hk : l.length = k) (s : ByteArray) (w : World) (hr : Reads w v (B l)) (hm : s.size ≤ maxLen) (hb : k + 65537 ≤ 140737488355328) :
    Calls Try.prog 29 #[v, .string s] w fun e w' => ∃ g cap, e = .returned (.slice (some ⟨g, 0, none⟩) (k + 2 + min 65535 s.size) cap) ∧ w.heap.size ≤ g ∧ Owns w' 5 g cap (k + 2 + min 65535 s.size) (B (l ++ le 2 (min 65535 s.size) ++ s.data.toList.take 65535)) ∧ Below w.heap.size w w' := by
  by_cases hs : s.size ≤ 65535
  · have e1 : min 65535 s.size = s.size := by omega
    have e2 : s.data.toList.take 65535 = s.data.toList := List.take_of_length_le (by rw [size_toList]; exact hs)
    rw [e1, e2]
    exact cText v l k hk s w hr hs (by omega)
  · subst hk
    have e2 : (s.extract 0 65535).data.toList = s.data.toList.take 65535 := by simp [ByteArray.data_extract]
    refine (wText_long v (B l) s w hr (B_one l) (by omega) hm (by rw [B_length]; omega)).mono ?_
    rintro e w' ⟨g, cap, rfl, h1, h2, h3⟩
    rw [B_length, ← B_append, ← B_append, e2] at h2
    rw [B_length]
    exact ⟨g, cap, rfl, h1, h2, h3⟩
end Go.Proofs.Ytajkjbhfkeakhaa

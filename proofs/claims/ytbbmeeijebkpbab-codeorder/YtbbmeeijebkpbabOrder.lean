/- The law CodeOrder: what is put stands behind what was put ahead of it. -/
import Derived.Test.YtbbmeeijebkpbabKnown
import Derived.Test.YtbbmeeijebkpbabArg
namespace Go.Proofs.Ytbbmeeijebkpbab
open Go.RowKit

set_option maxRecDepth 100000 in
set_option maxHeartbeats 400000 in
theorem order_any (v : Value) (l : List UInt8) (n m : Int) (s : ByteArray) (hs : s.size ≤ maxLen) (hl : l.length ≤ maxLen) (w : World) (hr : Reads w v (B l)) :
    Calls Try.prog 4 #[v, .int .i64 n, .int .i64 m, .string s] w fun e w' => e = .returned (.bool true) ∧ Below w.heap.size w w' := by
  unfold maxLen at hs hl
  obtain ⟨i0, hi, hz0, hz1, hz2⟩ := info_parts Try.infoByte
  have HR : Hid (Reads w v (B l)) := hr
  obtain ⟨ao, c, rfl, hc, hn, hcell⟩ := hr
  rw [B_length] at hc HR ⊢
  clear hn hcell
  by_cases hl50 : l.length ≤ 50
  case neg =>
    have hl' : (50 : Int) < l.length := by omega
    go_enter Try.func4, Try.ntmps4
    go_wp2_with fail
    refine (known_any _).mono ?_
    rintro e w1 ⟨rfl, hb1⟩
    go_wp2_with fail
    go_ret
    exact ⟨rfl, hb1⟩
  have hl' : (l.length : Int) ≤ 50 := by omega
  by_cases hs200 : s.size ≤ 200
  case neg =>
    have hs' : (200 : Int) < s.size := by omega
    go_enter Try.func4, Try.ntmps4
    go_wp2_with fail
    refine (known_any _).mono ?_
    rintro e w1 ⟨rfl, hb1⟩
    go_wp2_with fail
    go_ret
    exact ⟨rfl, hb1⟩
  have hs' : (s.size : Int) ≤ 200 := by omega
  go_enter Try.func4, Try.ntmps4
  go_wp2_with fail
  refine (known_any _).mono ?_
  rintro e w1 ⟨rfl, hb1⟩
  go_wp2_with (at_builtin; go_must (refine wpList_append_src _ rfl _ _ 22 22 rfl 5 i0 (.int .u8 0) Try.underlying22 hi hz0 hz1 hz2 rfl w1.heap.size 0 0 [] rfl (Owns.empty _ _) (.slice ao l.length c) l.length (B l) rfl (Src.ofBytes _ Try.underlying22 rfl (HR.out.later (hb1.alloc hb1.size _))) (by omega) ?_); intro g2 cap2 w2 hG2)
  have hO2 : Owns w2 5 g2 cap2 l.length (B l) := by have := hG2.own; rwa [Nat.zero_add, List.nil_append] at this
  have hb2 : Below w.heap.size w w2 := hG2.below (hb1.alloc hb1.size _) hb1.size
  clear hG2
  refine (cInt _ l l.length rfl n _ hO2.reads (by omega)).mono ?_
  rintro e w3 ⟨g3, cap3, rfl, hg3, hO3, h3⟩
  have hb3 := below_seq hb2 h3
  clear hO2 hb2 h3
  go_wp2_with fail
  refine (cByte _ _ (l.length + 8) (by rw [List.length_append, le_length]) m _ hO3.reads (by omega)).mono ?_
  rintro e w4 ⟨g4, cap4, rfl, hg4, hO4, h4⟩
  have hb4 := below_seq hb3 h4
  clear hO3 hb3 h4
  go_wp2_with fail
  refine (cText _ _ (l.length + 8 + 1) (by rw [List.length_append, List.length_append, le_length, le_length]) s _ hO4.reads (by omega) (by omega)).mono ?_
  rintro e w5 ⟨g5, cap5, rfl, hg5, hO5, h5⟩
  have hb5 := below_seq hb4 h5
  clear hO4 hb4 h5 hg3 hg4 hg5
  go_wp2_with (at_builtin; go_must (refine wpList_append_src _ rfl _ _ 22 22 rfl 5 i0 (.int .u8 0) Try.underlying22 hi hz0 hz1 hz2 rfl w5.heap.size 0 0 [] rfl (Owns.empty _ _) (.slice ao l.length c) l.length (B l) rfl (Src.ofBytes _ Try.underlying22 rfl (HR.out.later (hb5.alloc hb5.size _))) (by omega) ?_); intro g6 cap6 w6 hG6)
  have hO6 : Owns w6 5 g6 cap6 l.length (B l) := by have := hG6.own; rwa [Nat.zero_add, List.nil_append] at this
  have hc6 : Below w5.heap.size w5 w6 := hG6.below ((Below.refl _ _).alloc (Nat.le_refl _) _) (Nat.le_refl _)
  have hk6 : w5.heap.size ≤ g6 := hG6.ge (Nat.le_refl _) (by simp)
  clear hG6
  refine (cInt _ [] 0 rfl n _ (Reads.nil _) (by omega)).mono ?_
  rintro e w7 ⟨g7, cap7, rfl, hg7, hO7, h7⟩
  have hc7 := below_seq hc6 h7
  have hQ7 := hO6.later h7
  clear hc6 hO6 h7
  simp only [Nat.zero_add, List.nil_append] at hO7 ⊢
  go_wp2_with (at_builtin; go_must (refine wpList_append_src _ rfl _ _ 22 22 rfl 5 i0 (.int .u8 0) Try.underlying22 hi hz0 hz1 hz2 rfl g6 cap6 l.length (B l) rfl hQ7 _ 8 _ rfl (Src.ofBytes _ Try.underlying22 (le_length _ _) hO7.reads) (by omega) ?_); intro g8 cap8 w8 hG8)
  have hO8 := hG8.own
  have hc8 := hG8.below hc7 hk6
  have hk8 : w5.heap.size ≤ g8 := hG8.ge hk6 hc7.size
  clear hG8 hc7 hQ7 hO7
  refine (cByte _ [] 0 rfl m _ (Reads.nil _) (by omega)).mono ?_
  rintro e w9 ⟨g9, cap9, rfl, hg9, hO9, h9⟩
  have hc9 := below_seq hc8 h9
  have hQ9 := hO8.later h9
  clear hc8 hO8 h9
  simp only [Nat.zero_add, List.nil_append] at hO9 ⊢
  go_wp2_with (at_builtin; go_must (refine wpList_append_src _ rfl _ _ 22 22 rfl 5 i0 (.int .u8 0) Try.underlying22 hi hz0 hz1 hz2 rfl g8 cap8 (l.length + 8) _ rfl hQ9 _ 1 _ rfl (Src.ofBytes _ Try.underlying22 (le_length _ _) hO9.reads) (by omega) ?_); intro g10 cap10 w10 hG10)
  have hO10 := hG10.own
  have hc10 := hG10.below hc9 hk8
  have hk10 : w5.heap.size ≤ g10 := hG10.ge hk8 hc9.size
  clear hG10 hc9 hQ9 hO9
  refine (cText _ [] 0 rfl s _ (Reads.nil _) (by omega) (by omega)).mono ?_
  rintro e w11 ⟨g11, cap11, rfl, hg11, hO11, h11⟩
  have hc11 := below_seq hc10 h11
  have hQ11 := hO10.later h11
  clear hc10 hO10 h11
  simp only [Nat.zero_add, List.nil_append] at hO11 ⊢
  obtain ⟨S, hS⟩ : ∃ S : ByteArray, S = ⟨(l ++ le 8 (n % 18446744073709551616).toNat ++ le 1 (m % 18446744073709551616).toNat ++ (le 2 s.size ++ s.data.toList)).toArray⟩ := ⟨_, rfl⟩
  have HF : Hid (∀ g12 cap12 w12, Grew 5 w11 g10 cap10 (l.length + 8 + 1) (B l ++ B (le 8 (n % 18446744073709551616).toNat) ++ B (le 1 (m % 18446744073709551616).toNat)) w12 g12 cap12 (l.length + 8 + 1 + (2 + s.size)) (B l ++ B (le 8 (n % 18446744073709551616).toNat) ++ B (le 1 (m % 18446744073709551616).toNat) ++ B (le 2 s.size ++ s.data.toList)) →
      (convert 22 9 (.slice (some ⟨g5, 0, none⟩) (l.length + 8 + 1 + 2 + s.size) cap5)).run Try.prog w12 = .ok (.string S) w12 ∧
      (convert 22 9 (.slice (some ⟨g12, 0, none⟩) (l.length + 8 + 1 + (2 + s.size)) cap12)).run Try.prog w12 = .ok (.string S) w12 ∧ Below w.heap.size w w12) := by
    intro g12 cap12 w12 h
    have c12 : Below w5.heap.size w5 w12 := h.below hc11 hk10
    refine ⟨?_, ?_, below_seq hb5 c12⟩
    · rw [hS, ← List.append_assoc]
      exact run_string _ 22 9 5 Try.underlying22 Try.underlying5 Try.underlying9 (hO5.later c12).reads
    · have ho := h.own
      rw [← B_append, ← B_append, ← B_append] at ho
      rw [hS]
      exact run_string _ 22 9 5 Try.underlying22 Try.underlying5 Try.underlying9 ho.reads
  clear hS
  go_wp2_with (at_builtin; go_must (refine wpList_append_src _ rfl _ _ 22 22 rfl 5 i0 (.int .u8 0) Try.underlying22 hi hz0 hz1 hz2 rfl g10 cap10 (l.length + 8 + 1) _ rfl hQ11 _ (2 + s.size) _ rfl (Src.ofBytes _ Try.underlying22 (by rw [List.length_append, le_length]; rfl) hO11.reads) (by omega) ?_); intro g12 cap12 w12 hG12; obtain ⟨hS1, hS2, HB⟩ := HF.out _ _ _ hG12)
  go_ret
  exact ⟨rfl, HB⟩

theorem order_row (a0 : Option Addr) (len0 cap0 : Nat) (z0 : List Int) (a1 a2 : Int) (a3 : ByteArray) (w : World) (w0 : IsRow .u8 w a0 len0 cap0 z0) (w3 : a3.size ≤ maxLen) :
    Calls Try.prog 4 #[.slice a0 len0 cap0, .int .i64 a1, .int .i64 a2, .string a3] w fun e w' => e = .returned (.bool true) ∧ Below w.heap.size w w' := by
  obtain ⟨l, rfl, hm, hr⟩ := bytes_of_row w0
  exact order_any _ l a1 a2 a3 w3 hm w hr
end Go.Proofs.Ytbbmeeijebkpbab

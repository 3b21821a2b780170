/- The law CodeFails: the first error stays, and behind it nothing is read. -/
import Derived.Test.YtbbmeeijebkpbaaPlain
import Derived.Test.YtbbmeeijebkpbaaArg
namespace Go.Proofs.Ytbbmeeijebkpbaa
open Go.RowKit

set_option maxRecDepth 100000 in
set_option maxHeartbeats 1000000 in
theorem fails_any (v : Value) (l : List UInt8) (e f : Int) (hl : l.length ≤ maxLen) (w : World) (hr : Reads w v (B l)) :
    Calls Try.prog 6 #[v, .int .i64 e, .int .i64 f] w fun x w' => x = .returned (.bool true) ∧ Below w.heap.size w w' := by
  have hm := hid hl
  unfold maxLen at hl
  have HR : Hid (Reads w v (B l)) := hr
  obtain ⟨ao, c, rfl, hc, hn, hcell⟩ := hr
  rw [B_length] at hc HR ⊢
  clear hn hcell
  by_cases hl100 : l.length ≤ 100
  case neg =>
    have hl' : (100 : Int) < l.length := by omega
    go_enter Try.func6, Try.ntmps6
    go_wp2_with fail
    refine (known_any _).mono ?_
    rintro e w1 ⟨rfl, hb1⟩
    go_wp2_with fail
    go_ret
    exact ⟨rfl, hb1⟩
  have hl' : (l.length : Int) ≤ 100 := by omega
  obtain ⟨q, hq⟩ : ∃ q : Int, e % 22 = q := ⟨_, rfl⟩
  obtain ⟨u, hu⟩ : ∃ u : Int, f % 22 = u := ⟨_, rfl⟩
  have hq0 : 0 ≤ q := by omega
  have hq1 : q < 22 := by omega
  have hu0 : 0 ≤ u := by omega
  have hu1 : u < 22 := by omega
  have HQ := hid hq
  have HU := hid hu
  clear hq hu
  have hq2 : ¬ (1 + q = 0) := by omega
  have F1 : Hid (failS (l, 0) 0 = (l, 0)) := hid (by simp [failS])
  have F2 : Hid (failS (l, 0) (1 + q) = ([], 1 + q)) := hid (by simp [failS]; omega)
  have F3 : Hid (failS ([], 1 + q) (1 + u) = ([], 1 + q)) := hid (by simp [failS]; omega)
  have J8 : Hid (jn 8 0 0 ([], 1 + q) = (0, ([], 1 + q))) := hid (jn_err 8 0 0 _ (by show 1 + q ≠ 0; omega))
  have J2 : Hid (jn 2 0 0 ([], 1 + q) = (0, ([], 1 + q))) := hid (jn_err 2 0 0 _ (by show 1 + q ≠ 0; omega))
  have I8 : Hid (intR (0, ([], 1 + q)) = 0) := hid (by simp [intR, hq2])
  have T2 : Hid (textR (0, ([], 1 + q)) = ([], ([], 1 + q))) := hid (by simp [textR, failS, hq2])
  have B1 : Hid (byteS ([], 1 + q) = 0 ∧ nextS ([], 1 + q) = ([], 1 + q)) := hid (by simp [byteS, nextS, hq2])
  have X8 : Hid ((jn 8 0 0 ([], 0)).2 = ([], 8)) := hid (jn_short 8 0 0 [] (by simp))
  have F4 : Hid (failS ([], 8) (1 + u) = ([], 8)) := hid (by simp [failS])
  have E1 : Hid (endS ([], 1 + q) = 1 + q) := hid (by simp [endS])
  have E2 : Hid ((endS (l, 0) == 0) = ((l.length : Int) == 0)) := hid (by cases l <;> simp [endS]; omega)
  clear hq2
  obtain ⟨en, hen⟩ : ∃ en : Int, endS (l, 0) = en := ⟨_, rfl⟩
  have E3 := hid hen
  rw [hen] at E2
  clear hen
  go_enter Try.func6, Try.ntmps6
  go_wp2_with fail
  refine (known_any _).mono ?_
  rintro _ w1 ⟨rfl, hb1⟩
  go_wp2_with fail
  refine (within_any e 22 (by omega) (by omega) _).mono ?_
  rintro _ _ ⟨rfl, rfl⟩
  rw [HQ.out]
  go_wp2_with fail
  refine (within_any f 22 (by omega) (by omega) _).mono ?_
  rintro _ w1 ⟨rfl, rfl⟩
  rw [HU.out]
  go_wp2_with fail
  refine (New_any _ l _ (HR.out.later hb1) (by omega)).mono ?_
  rintro _ w2 ⟨p, rfl, hp, hR2, h2⟩
  have hb2 := below_seq hb1 h2
  have hpp : w.heap.size ≤ p := Nat.le_trans hb1.size hp
  clear hb1 h2 hp
  go_wp2_with fail
  refine (Fail_any p _ 0 _ hR2).mono ?_
  rintro _ w3 ⟨rfl, hR3, hg3⟩
  have hb3 := below_at hb2 hg3 hpp
  rw [F1.out] at hR3
  clear hR2 hb2 hg3
  go_wp2_with fail
  refine (End_any p _ _ hR3 hm.out).mono ?_
  rintro _ w3 ⟨rfl, rfl⟩
  rw [E3.out]
  go_wp2_with fail
  refine (Fail_any p _ (1 + q) _ hR3).mono ?_
  rintro _ w4 ⟨rfl, hR4, hg4⟩
  have hb4 := below_at hb3 hg4 hpp
  rw [F2.out] at hR4
  clear hR3 hb3 hg4
  go_wp2_with fail
  refine (Fail_any p _ (1 + u) _ hR4).mono ?_
  rintro _ w5 ⟨rfl, hR5, hg5⟩
  have hb5 := below_at hb4 hg5 hpp
  rw [F3.out] at hR5
  clear hR4 hb4 hg5
  go_wp2_with fail
  refine (Int_any p _ _ hR5 (by simp [maxLen])).mono ?_
  rintro _ w6 ⟨rfl, hR6, hg6⟩
  have hb6 := below_at hb5 hg6 hpp
  rw [J8.out] at hR6 ⊢
  rw [I8.out]
  clear hR5 hb5 hg6
  go_wp2_with fail
  refine (Text_any p _ _ hR6 (by simp [maxLen])).mono ?_
  rintro _ w7 ⟨rfl, hR7, hg7⟩
  have hb7 := below_at hb6 hg7 hpp
  rw [J2.out, T2.out] at hR7 ⊢
  clear hR6 hb6 hg7
  go_wp2_with fail
  refine (Byte_any p _ _ hR7 (by simp [maxLen])).mono ?_
  rintro _ w8 ⟨rfl, hR8, hg8⟩
  have hb8 := below_at hb7 hg8 hpp
  simp only at hR8 ⊢
  rw [B1.out.2] at hR8
  rw [B1.out.1]
  clear hR7 hb7 hg8
  go_wp2_with fail
  refine (New_any _ [] _ (Reads.nil _) (by simp)).mono ?_
  rintro _ w9 ⟨p9, rfl, hp9, hR9, h9⟩
  have hb9 := below_seq hb8 h9
  have hpp9 : w.heap.size ≤ p9 := Nat.le_trans hb8.size hp9
  have HR9 := hR8.later h9
  have hne : p ≠ p9 := by have := hR8.lt; omega
  clear hb8 h9 hp9 hR8
  go_wp2_with fail
  refine (Int_any p9 _ _ hR9 (by simp [maxLen])).mono ?_
  rintro _ w10 ⟨rfl, hR10, hg10⟩
  have hb10 := below_at hb9 hg10 hpp9
  have HR10 := HR9.other hR9 hg10 hne
  rw [X8.out] at hR10
  clear hR9 hb9 hg10 HR9
  go_wp2_with fail
  refine (Fail_any p9 _ (1 + u) _ hR10).mono ?_
  rintro _ w11 ⟨rfl, hR11, hg11⟩
  have hb11 := below_at hb10 hg11 hpp9
  have HR11 := HR10.other hR10 hg11 hne
  rw [F4.out] at hR11
  clear hR10 hb10 hg11 HR10
  have E4 := E2.out
  go_wp2_with fail
  refine (End_any p _ _ HR11 (by simp [maxLen])).mono ?_
  rintro _ w11 ⟨rfl, rfl⟩
  rw [E1.out]
  go_wp2_with fail
  refine (End_any p9 _ _ hR11 (by simp [maxLen])).mono ?_
  rintro _ w11 ⟨rfl, rfl⟩
  go_wp2_with fail
  go_ret
  exact ⟨rfl, hb11⟩

theorem fails_row (a0 : Option Addr) (len0 cap0 : Nat) (z0 : List Int) (a1 a2 : Int) (w : World) (w0 : IsRow .u8 w a0 len0 cap0 z0) :
    Calls Try.prog 6 #[.slice a0 len0 cap0, .int .i64 a1, .int .i64 a2] w fun e w' => e = .returned (.bool true) ∧ Below w.heap.size w w' := by
  obtain ⟨l, rfl, hm, hr⟩ := bytes_of_row w0
  exact fails_any _ l a1 a2 hm w hr
end Go.Proofs.Ytbbmeeijebkpbaa

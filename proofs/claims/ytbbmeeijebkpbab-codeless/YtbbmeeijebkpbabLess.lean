/- The law CodeLess: what says that it is longer than what is left is cut. -/
import Derived.Test.YtbbmeeijebkpbabPlain
import Derived.Test.YtbbmeeijebkpbabArg
namespace Go.Proofs.Ytbbmeeijebkpbab
open Go.RowKit

set_option maxRecDepth 100000 in
set_option maxHeartbeats 400000 in
theorem less_any (v : Value) (n : Int) (l : List UInt8) (hl : l.length ≤ maxLen) (w : World) (hr : Reads w v (B l)) :
    Calls Try.prog 3 #[.int .i64 n, v] w fun e w' => e = .returned (.bool true) ∧ Below w.heap.size w w' := by
  unfold maxLen at hl
  obtain ⟨i0, hi, hz0, hz1, hz2⟩ := info_parts Try.infoByte
  have HR : Hid (Reads w v (B l)) := hr
  obtain ⟨ao, c, rfl, hc, hn, hcell⟩ := hr
  rw [B_length] at hc HR ⊢
  clear hn hcell
  by_cases hl200 : l.length ≤ 200
  case neg =>
    have hl' : (200 : Int) < l.length := by omega
    go_enter Try.func3, Try.ntmps3
    go_wp2_with fail
    refine (known_any _).mono ?_
    rintro e w1 ⟨rfl, hb1⟩
    go_wp2_with fail
    go_ret
    exact ⟨rfl, hb1⟩
  have hl' : (l.length : Int) ≤ 200 := by omega
  obtain ⟨q, hq⟩ : ∃ q : Nat, n % 300 = (q : Int) := Int.eq_ofNat_of_zero_le (by omega)
  have hq3 : q < 300 := by omega
  have HQ := hid hq
  clear hq
  have HB2 : Hid ([Value.int IntKind.u8 (((l.length : Int) + 1 + (q : Int)) % 256), Value.int IntKind.u8 (((l.length : Int) + 1 + (q : Int)) / 256)] = B (le 2 (l.length + 1 + q))) := by
    have e1 : ((l.length : Int) + 1 + (q : Int)) % 256 = ((UInt8.ofNat (l.length + 1 + q)).toNat : Int) := by rw [UInt8.toNat_ofNat']; omega
    have e2 : ((l.length : Int) + 1 + (q : Int)) / 256 = ((UInt8.ofNat ((l.length + 1 + q) / 256)).toNat : Int) := by rw [UInt8.toNat_ofNat']; omega
    rw [e1, e2]
    exact rfl
  have HT : Hid (textR (jn 2 0 0 (le 2 (l.length + 1 + q) ++ l, 0)) = ([], [], 8)) := by
    have h1 : jn 2 0 0 (le 2 (l.length + 1 + q) ++ l, 0) = (l.length + 1 + q, (l, 0)) := by
      rw [jn_ok 2 0 0 _ (by rw [List.length_append, le_length]; omega), List.take_left' (le_length 2 _), List.drop_left' (le_length 2 _), num_le 2 _ (by omega)]
      simp
    show textR _ = _
    rw [h1]
    simp [textR, failS]
    omega
  obtain ⟨m, hm7, hmin⟩ : ∃ m : Nat, m ≤ 7 ∧ m = min l.length 7 := ⟨_, Nat.min_le_right _ _, rfl⟩
  have HX : Hid ((jn 8 0 0 (l.take m, 0)).2 = ([], 8)) := jn_short 8 0 0 _ (by rw [List.length_take]; omega)
  have HI : Hid (intR (jn 8 0 0 (l.take m, 0)) = 0) := hid (by unfold intR; rw [HX.out]; simp)
  have HM := hid hmin
  clear hmin
  go_enter Try.func3, Try.ntmps3
  go_wp2_with fail
  refine (known_any _).mono ?_
  rintro e w1 ⟨rfl, hb1⟩
  go_wp2_with fail
  refine (within_any n 300 (by omega) (by omega) _).mono ?_
  rintro e w2 ⟨rfl, rfl⟩
  rw [HQ.out]
  go_wp2_with (at_builtin; go_must (refine wpList_append_src _ rfl _ _ 22 22 rfl 5 i0 (.int .u8 0) Try.underlying22 hi hz0 hz1 hz2 rfl w2.heap.size 2 2 _ rfl (Owns.two _ _ _ _) _ l.length (B l) rfl (Src.ofBytes _ Try.underlying22 rfl (HR.out.later (hb1.alloc hb1.size _))) (by omega) ?_); intro g3 cap3 w3 hG3)
  have hO3 := hG3.own
  rw [HB2.out, ← B_append] at hO3
  have hb3 : Below w.heap.size w w3 := hG3.below (hb1.alloc hb1.size _) hb1.size
  clear hG3
  refine (New_any _ _ _ hO3.reads (by rw [List.length_append, le_length]; omega)).mono ?_
  rintro e w4 ⟨p, rfl, hp, hR4, h4⟩
  have hb4 := below_seq hb3 h4
  have hp4 : w.heap.size ≤ p := Nat.le_trans hb3.size hp
  clear hb3 h4 hO3 hp
  go_wp2_with fail
  refine (Text_any p _ _ hR4 (by simp only [List.length_append, le_length]; unfold maxLen; omega)).mono ?_
  rintro e w5 ⟨rfl, hR5, hg5⟩
  have hb5 : Below w.heap.size w w5 := hb4.grown hg5 hb4.size (fun k hk => by cases hk; exact hp4)
  rw [HT.out] at hR5 ⊢
  clear hb4 hg5 hR4
  have HRd := hid (HR.out.later hb5)
  have HR5 := hid hR5
  clear hR5
  rcases Nat.lt_or_ge 7 l.length with h7 | h7
  · have h7' : (7 : Int) < l.length := by omega
    have hm : m = 7 := by have := HM.out; omega
    subst hm
    go_wp2_with fail
    refine (New_any _ (l.take 7) _ (HRd.out.take (by omega)) (by rw [List.length_take]; omega)).mono ?_
    rintro e w6 ⟨p6, rfl, hp6, hR6, h6⟩
    have hb6 := below_seq hb5 h6
    have HR6 := hid (HR5.out.later h6)
    have hlt := HR5.out.lt
    have hp66 : w.heap.size ≤ p6 := Nat.le_trans hb5.size hp6
    have hne : p ≠ p6 := by omega
    clear hb5 h6
    go_wp2_with fail
    refine (Int_any p6 _ _ hR6 (by simp only [List.length_take]; unfold maxLen; omega)).mono ?_
    rintro e w7 ⟨rfl, hR7, hg7⟩
    have hb7 : Below w.heap.size w w7 := hb6.grown hg7 hb6.size (fun k hk => by cases hk; exact hp66)
    have HR7 := hid (HR6.out.other hR6 hg7 hne)
    rw [HX.out] at hR7
    rw [HI.out]
    have HQ7 := hid hR7
    clear hR7 hR6 hb6 hg7
    go_wp2_with fail
    refine (End_any p ([], 8) _ HR7.out (by simp [maxLen])).mono ?_
    rintro e w8 ⟨rfl, rfl⟩
    go_wp2_with fail
    refine (End_any p6 ([], 8) _ HQ7.out (by simp [maxLen])).mono ?_
    rintro e w9 ⟨rfl, rfl⟩
    go_wp2_with fail
    go_ret
    exact ⟨rfl, hb7⟩
  · have h7' : (l.length : Int) ≤ 7 := by omega
    have hm : m = l.length := by have := HM.out; omega
    rw [hm] at HX HI
    go_wp2_with fail
    refine (New_any _ (l.take l.length) _ (HRd.out.take (Nat.le_refl _)) (by rw [List.length_take]; omega)).mono ?_
    rintro e w6 ⟨p6, rfl, hp6, hR6, h6⟩
    have hb6 := below_seq hb5 h6
    have HR6 := hid (HR5.out.later h6)
    have hlt := HR5.out.lt
    have hp66 : w.heap.size ≤ p6 := Nat.le_trans hb5.size hp6
    have hne : p ≠ p6 := by omega
    clear hb5 h6
    go_wp2_with fail
    refine (Int_any p6 _ _ hR6 (by simp only [List.length_take]; unfold maxLen; omega)).mono ?_
    rintro e w7 ⟨rfl, hR7, hg7⟩
    have hb7 : Below w.heap.size w w7 := hb6.grown hg7 hb6.size (fun k hk => by cases hk; exact hp66)
    have HR7 := hid (HR6.out.other hR6 hg7 hne)
    rw [HX.out] at hR7
    rw [HI.out]
    have HQ7 := hid hR7
    clear hR7 hR6 hb6 hg7
    go_wp2_with fail
    refine (End_any p ([], 8) _ HR7.out (by simp [maxLen])).mono ?_
    rintro e w8 ⟨rfl, rfl⟩
    go_wp2_with fail
    refine (End_any p6 ([], 8) _ HQ7.out (by simp [maxLen])).mono ?_
    rintro e w9 ⟨rfl, rfl⟩
    go_wp2_with fail
    go_ret
    exact ⟨rfl, hb7⟩

theorem less_row (a0 : Int) (a1 : Option Addr) (len1 cap1 : Nat) (z1 : List Int) (w : World) (w1 : IsRow .u8 w a1 len1 cap1 z1) :
    Calls Try.prog 3 #[.int .i64 a0, .slice a1 len1 cap1] w fun e w' => e = .returned (.bool true) ∧ Below w.heap.size w w' := by
  obtain ⟨l, rfl, hm, hr⟩ := bytes_of_row w1
  exact less_any _ a0 l hm w hr
end Go.Proofs.Ytbbmeeijebkpbab

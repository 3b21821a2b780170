/- The law CodeLong: a text has two bytes that say how long it is, and as many as it has, up to 65535. -/
import Derived.Test.YtbbmeeijebkpbaaPlain
import Derived.Test.YtbbmeeijebkpbaaArg
namespace Go.Proofs.Ytbbmeeijebkpbaa
open Go.RowKit

set_option maxRecDepth 100000 in
set_option maxHeartbeats 1000000 in
theorem long_any (n : Int) (b : UInt8) (w : World) :
    Calls Try.prog 8 #[.int .i64 n, .int .u8 b.toNat] w fun x w' => x = .returned (.bool true) ∧ Below w.heap.size w w' := by
  obtain ⟨i0, hi, hz0, hz1, hz2⟩ := info_parts Try.infoByte
  obtain ⟨q, hq⟩ : ∃ q : Nat, n % 5 = (q : Int) := Int.eq_ofNat_of_zero_le (by omega)
  have hq5 : q < 5 := by omega
  obtain ⟨N, hN⟩ : ∃ N : Nat, N + 1 = 65533 + q := ⟨65532 + q, by omega⟩
  have HQ := hid hq
  have HN := hid hN
  have hNb : N ≤ 65536 := by omega
  have hNb2 : 65532 ≤ N := by omega
  clear hq hN
  have hb255 : (b.toNat : Int) ≤ 255 := by have := b.toNat_lt; omega
  obtain ⟨L, hL⟩ : ∃ L : List UInt8, L = b :: List.replicate N 0 := ⟨_, rfl⟩
  have hLl : L.length = N + 1 := by rw [hL]; simp
  obtain ⟨S, hS⟩ : ∃ S : ByteArray, S = ⟨L.toArray⟩ := ⟨_, rfl⟩
  have hSz : S.size = N + 1 := by rw [hS]; exact hLl
  have hSl : S.data.toList = L := by rw [hS]
  obtain ⟨k, hk⟩ : ∃ k : Nat, min 65535 S.size = k := ⟨_, rfl⟩
  have hk1 : k ≤ 65535 := by omega
  have hk2 : 65533 ≤ k := by omega
  obtain ⟨T, hT⟩ : ∃ T : List UInt8, S.data.toList.take 65535 = T := ⟨_, rfl⟩
  have hTl : T.length = k := by rw [← hT, List.length_take, hSl, hLl]; omega
  have hT0 : ∃ r, T = b :: r := ⟨_, by rw [← hT, hSl, hL]; rfl⟩
  have HKq := hid (show (2 < q → k = 65535) ∧ (q ≤ 2 → k = 65533 + q) by rw [hSz] at hk; have := HN.out; omega)
  have HK := hid hk
  have HT := hid hT
  have HTl := hid hTl
  have HS := hid hS
  have HL := hid hL
  have HSm := hid (show S.size ≤ maxLen by unfold maxLen; omega)
  have HX : Hid (textR (jn 2 0 0 (le 2 k ++ T, 0)) = (T, ([], 0))) := by
    have h1 : jn 2 0 0 (le 2 k ++ T, 0) = (k, (T, 0)) := by
      rw [jn_ok 2 0 0 _ (by rw [List.length_append, le_length]; omega), List.take_left' (le_length 2 _), List.drop_left' (le_length 2 _), num_le 2 _ (by omega)]
      simp
    show textR _ = _
    rw [h1]
    simp [textR, hTl, List.take_of_length_le, List.drop_of_length_le]
  have HC : Hid (∀ w g cap n, Owns w 5 g cap n (B (le 2 k ++ T)) → w.cell? ⟨g, 0, none⟩ = some (.int .u8 ((k : Int) % 256)) ∧ w.cell? ⟨g, 1, none⟩ = some (.int .u8 ((k : Int) / 256))) := by
    intro w g cap n h
    have e1 : ((k : Int) % 256) = ((UInt8.ofNat k).toNat : Int) := by rw [UInt8.toNat_ofNat']; omega
    have e2 : ((k : Int) / 256) = ((UInt8.ofNat (k / 256)).toNat : Int) := by rw [UInt8.toNat_ofNat']; omega
    rw [e1, e2]
    exact ⟨h.cell (j := 0) rfl, h.cell (j := 1) rfl⟩
  obtain ⟨S2, hS2⟩ : ∃ S2 : ByteArray, (⟨T.toArray⟩ : ByteArray) = S2 := ⟨_, rfl⟩
  have hS2z : S2.size = k := by rw [← hS2]; exact hTl
  have HB0 : Hid (∀ h : 0 < S2.size, (S2[0]'h).toNat = b.toNat) := by
    intro h
    obtain ⟨r, rfl⟩ := hT0
    subst hS2
    rfl
  have HS2 := hid hS2
  have HT0 := hid hT0
  clear hk hT hTl hS hL hLl hSl hSz hS2 hT0
  go_enter Try.func8, Try.ntmps8
  go_wp2_with fail
  refine (known_any _).mono ?_
  rintro _ w1 ⟨rfl, hb1⟩
  go_wp2_with fail
  refine (within_any n 5 (by omega) (by omega) _).mono ?_
  rintro _ w1 ⟨rfl, rfl⟩
  rw [HQ.out]
  have HD : Hid (∀ w2, Owns w2 5 w1.heap.size (N + 1) (N + 1) (B (List.replicate (N + 1) 0)) → w1.grownBy w2 (some w1.heap.size) → w2.cell? ⟨w1.heap.size, 0, none⟩ = some (.int .u8 0) ∧ w2.frozen? ⟨w1.heap.size, 0, none⟩ = false ∧
      (convert 22 9 (.slice (some ⟨w1.heap.size, 0, none⟩) (N + 1) (N + 1))).run Try.prog (w2.setCell ⟨w1.heap.size, 0, none⟩ (.int .u8 b.toNat)) = .ok (.string S) (w2.setCell ⟨w1.heap.size, 0, none⟩ (.int .u8 b.toNat)) ∧
      Below w.heap.size w (w2.setCell ⟨w1.heap.size, 0, none⟩ (.int .u8 b.toNat))) := by
    intro w2 hO hg
    refine ⟨hO.cell (j := 0) rfl, hO.frozen 0, ?_, (hb1.grown hg hb1.size (fun k hk => by cases hk; exact hb1.size)).setCell hb1.size _⟩
    rw [List.replicate_succ] at hO
    rw [HS.out, HL.out]
    exact run_string _ 22 9 5 Try.underlying22 Try.underlying5 Try.underlying9 (hO.set0 (y := b)).reads
  go_wp2_with (at_make; go_must (refine wpList_make_bytes _ rfl _ _ 22 rfl 5 i0 Try.underlying22 hi hz0 hz1 hz2 .i64 .i64 _ _ (N + 1) rfl rfl (by have := HN.out; omega) (by have := HN.out; omega) (by omega) ?_); intro w2 hO2 hg2 hs2; obtain ⟨c0, f0, hS, hb2⟩ := HD.out _ hO2 hg2)
  refine (cTextAll _ [] 0 rfl S _ (Reads.nil _) HSm.out (by omega)).mono ?_
  rintro _ w3 ⟨g3, cap3, rfl, hg3, hO3, h3⟩
  have hb3 := below_seq hb2 h3
  rw [HK.out, HT.out, List.nil_append] at hO3
  rw [HK.out]
  simp only [Nat.zero_add] at hO3 ⊢
  clear c0 f0 hS hO2 hg2 hs2 hb2 h3 HD
  rcases Nat.lt_or_ge 2 q with h2 | h2
  · have h2' : (65535 : Int) < 65533 + (q : Int) := by omega
    have hkv := hid (HKq.out.1 h2)
    go_wp2_with fail
    rw [show (65535 : Int) = (k : Int) by have := hkv.out; omega]
    refine (New_any _ _ _ hO3.reads (by rw [List.length_append, le_length, HTl.out]; omega)).mono ?_
    rintro _ w4 ⟨p, rfl, hp, hR4, h4⟩
    have hb4 := below_seq hb3 h4
    have hpp : w.heap.size ≤ p := Nat.le_trans hb3.size hp
    have hO4 := hO3.later h4
    have hne : p ≠ g3 := by have := hO3.lt; omega
    clear hb3 h4 hp hO3
    go_wp2_with fail
    refine (Text_any p _ _ hR4 (by simp only [List.length_append, le_length, HTl.out]; unfold maxLen; omega)).mono ?_
    rintro _ w5 ⟨rfl, hR5, hg5⟩
    have hb5 := below_at hb4 hg5 hpp
    have hO5 : Owns w5 5 g3 cap3 (2 + k) (B (le 2 k ++ T)) := hO4.kept (hg5.block g3 hO4.lt (by simpa using Ne.symm hne))
    rw [HX.out] at hR5 ⊢
    simp only at hR5 ⊢
    rw [HS2.out]
    obtain ⟨c0, c1⟩ := HC.out _ _ _ _ hO5
    have hcap : 2 + k ≤ cap3 := hO5.2.1
    clear hR4 hb4 hg5 hO4 hO5
    go_wp2_with fail
    case isTrue =>
      refine (End_any p _ _ hR5 (by simp [maxLen])).mono ?_
      rintro _ w6 ⟨rfl, rfl⟩
      go_wp2_with fail
      go_ret
      exact ⟨rfl, hb5⟩
    · rename_i hne0
      exact absurd (congrArg (fun x : Nat => (x : Int)) (HB0.out (by rw [hS2z]; omega))) hne0
  · have h2' : 65533 + (q : Int) ≤ 65535 := by omega
    have hkv := hid (HKq.out.2 h2)
    go_wp2_with fail
    rw [show 65533 + (q : Int) = (k : Int) by have := hkv.out; omega]
    refine (New_any _ _ _ hO3.reads (by rw [List.length_append, le_length, HTl.out]; omega)).mono ?_
    rintro _ w4 ⟨p, rfl, hp, hR4, h4⟩
    have hb4 := below_seq hb3 h4
    have hpp : w.heap.size ≤ p := Nat.le_trans hb3.size hp
    have hO4 := hO3.later h4
    have hne : p ≠ g3 := by have := hO3.lt; omega
    clear hb3 h4 hp hO3
    go_wp2_with fail
    refine (Text_any p _ _ hR4 (by simp only [List.length_append, le_length, HTl.out]; unfold maxLen; omega)).mono ?_
    rintro _ w5 ⟨rfl, hR5, hg5⟩
    have hb5 := below_at hb4 hg5 hpp
    have hO5 : Owns w5 5 g3 cap3 (2 + k) (B (le 2 k ++ T)) := hO4.kept (hg5.block g3 hO4.lt (by simpa using Ne.symm hne))
    rw [HX.out] at hR5 ⊢
    simp only at hR5 ⊢
    rw [HS2.out]
    obtain ⟨c0, c1⟩ := HC.out _ _ _ _ hO5
    have hcap : 2 + k ≤ cap3 := hO5.2.1
    clear hR4 hb4 hg5 hO4 hO5
    go_wp2_with fail
    case isTrue =>
      refine (End_any p _ _ hR5 (by simp [maxLen])).mono ?_
      rintro _ w6 ⟨rfl, rfl⟩
      go_wp2_with fail
      go_ret
      exact ⟨rfl, hb5⟩
    · rename_i hne0
      exact absurd (congrArg (fun x : Nat => (x : Int)) (HB0.out (by rw [hS2z]; omega))) hne0

theorem long_row (a0 a1 : Int) (w : World) (w1 : (Lit.int .u8 a1).wf = true) :
    Calls Try.prog 8 #[.int .i64 a0, .int .u8 a1] w fun e w' => e = .returned (.bool true) ∧ Below w.heap.size w w' := by
  have h := wf_u8 w1
  have e1 : a1 = ((UInt8.ofNat a1.toNat).toNat : Int) := by rw [UInt8.toNat_ofNat']; omega
  rw [e1]
  exact long_any a0 _ w
end Go.Proofs.Ytbbmeeijebkpbaa

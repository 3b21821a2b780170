/- The law ComposeRows: what is put and cut again is not there; what is put twice at one place stands as it was put. -/
import Derived.Test.YtcghcocacbglbaaObR
import Derived.Test.YtcghcocacbglbaaCAll
import Derived.Test.YtcghcocacbglbaaPutS
namespace Go.Proofs.Ytcghcocacbglbaa
open Go.RowKit
set_option linter.unusedSimpArgs false
set_option linter.unusedVariables false

theorem put5z (w : World) (z y : Int) (n m : Nat) (s : ByteArray) (hz : z = (n : Int)) (hy : y = (m : Int)) (hs : 1 ≤ s.size) (hm : m ≤ n) (hn : n + s.size ≤ 200) :
    Calls Try.prog 21 #[.int .i64 z, .int .i64 y, .string s] w fun e w' => ∃ v, e = .returned v ∧ Ob w' v (putS n m s) n (n + s.size) ∧ Below w.heap.size w w' := by
  subst hz hy
  exact put5_any w n m s hs hm hn

set_option maxRecDepth 100000 in
set_option maxHeartbeats 4000000 in
theorem rows5_any (n q : Int) (s t : ByteArray) (hs : s.size ≤ 140737488351232) (ht : t.size ≤ 140737488351232) (w : World) :
    Calls Try.prog 7 #[.int .i64 n, .int .i64 q, .string s, .string t] w fun e w' => e = .returned (.bool true) ∧ Below w.heap.size w w' := by
  by_cases hs0 : s.size = 0
  · have e : s = (⟨#[]⟩ : ByteArray) := em0 hs0
    subst e
    go_enter Try.func7, Try.ntmps7
    go_wp2_with fail
    refine (known5_any _).mono ?_
    rintro _ w1 ⟨rfl, hb⟩
    have Hb1 := hid hb
    clear hb
    go_wp2_with fail
    go_ret
    exact ⟨rfl, Hb1.out⟩
  have hse := ne_em (show 0 < s.size by omega)
  by_cases ht0 : t.size = 0
  · have e : t = (⟨#[]⟩ : ByteArray) := em0 ht0
    subst e
    go_enter Try.func7, Try.ntmps7
    go_wp2_with fail
    refine (known5_any _).mono ?_
    rintro _ w1 ⟨rfl, hb⟩
    have Hb1 := hid hb
    clear hb
    go_wp2_with fail
    go_ret
    exact ⟨rfl, Hb1.out⟩
  have hte := ne_em (show 0 < t.size by omega)
  by_cases hst : 50 < s.size + t.size
  · have h1 : (50 : Int) < (s.size : Int) + (t.size : Int) := by omega
    go_enter Try.func7, Try.ntmps7
    go_wp2_with fail
    refine (known5_any _).mono ?_
    rintro _ w1 ⟨rfl, hb⟩
    have Hb1 := hid hb
    clear hb
    go_wp2_with fail
    go_ret
    exact ⟨rfl, Hb1.out⟩
  have h1 : ¬ (50 : Int) < (s.size : Int) + (t.size : Int) := by omega
  go_enter Try.func7, Try.ntmps7
  go_wp2_with fail
  refine (known5_any _).mono ?_
  rintro _ w1 ⟨rfl, hb⟩
  have Hb1 := hid hb
  clear hb
  go_upto_region 5 with fail
  go_cut [0] (fun s0 w' => ∃ k : Nat, s0 = .int .i64 (k : Int) ∧ k ≤ 59 ∧ w' = w1)
  case first =>
    go_wp2_with fail
    all_goals
      go_meet
      first
      | exact ⟨0, rfl, by omega, rfl⟩
      | exact ⟨59, rfl, by omega, rfl⟩
      | exact ⟨(n.tmod 60).toNat, by rw [Int.toNat_of_nonneg (by omega)], by omega, rfl⟩
  case rest =>
  obtain ⟨k, rfl, hk, rfl⟩ := hcut
  have hk1 : ¬ ((k : Int) + 1 = 0) := by omega
  have hk2 : ((k : Int) + 1 == 0) = false := by simp; omega
  go_upto_region 6 with fail
  go_cut [1] (fun s1 w' => ∃ m : Nat, s1 = .int .i64 (m : Int) ∧ m ≤ k ∧ w' = wc)
  case first =>
    go_wp2_with fail
    all_goals
      go_meet
      first
      | exact ⟨0, rfl, by omega, rfl⟩
      | exact ⟨k, rfl, by omega, rfl⟩
      | exact ⟨(q.tmod ((k : Int) + 1)).toNat, by rw [Int.toNat_of_nonneg (by omega)], by omega, rfl⟩
  case rest =>
  obtain ⟨m, rfl, hm, rfl⟩ := hcut
  clear hk1 hk2
  go_wp2_with fail
  refine (put5z _ _ _ k m s rfl rfl (by omega) hm (by omega)).mono ?_
  rintro _ w2 ⟨va, rfl, ho, hb⟩
  have Hb2 := hid (below_seq Hb1.out hb)
  have HOa2 := hid ho
  clear ho hb Hb1
  go_upto_if 51 with fail
  go_cut [10] (fun s10 w' => HasC w' w2.heap.size s10 (idS m) ∧ Below w2.heap.size w2 w')
  case first =>
    by_cases h0 : m = 0
    · subst h0
      go_wp2_with fail
      go_meet
      case rel => exact ⟨HasC.nil _ _, Below.refl _ _⟩
    · have h2 : (0 : Int) < (m : Int) := by omega
      have HE := hid (show idS m = [] ++ [pK m] by rw [idS, if_neg h0]; rfl)
      clear h0
      go_wp2_with (at_builtin; go_must (refine wpList_append_c rfl _ _ rfl w2.heap.size _ [] rfl (HasC.nil _ _) ?hs _ [pK m] rfl (one_new w2 (pK m) w2.heap.size (Nat.le_refl _)).reads ?hb ?_))
      case hs => simp
      case hb => simp
      intro v1 wy hH1 hb1
      have HH := hid hH1
      have HB := hid (show Below w2.heap.size w2 wy from ((Below.refl _ _).alloc (Nat.le_refl _) _).trans hb1)
      clear hH1 hb1
      go_wp2_with fail
      go_meet
      case rel => exact ⟨by rw [HE.out]; exact HH.out, HB.out⟩
  case rest =>
  obtain ⟨hH, hb⟩ := hcut
  obtain ⟨a7, c7, rfl⟩ := hH.form
  have hil := id_len m
  have H0 := hid hH
  have Hc0 := hid hb
  clear hH hb
  rename World => wz
  go_wp2_with (at_builtin; go_must (refine wpList_append_c rfl _ _ rfl w2.heap.size _ (idS m) rfl (H0.out.later ((Below.refl _ _).alloc (Nat.le_refl _) _)) ?hs _ [pX s.size] rfl (one_new wz (pX s.size) w2.heap.size Hc0.out.size).reads ?hb ?_))
  case hs => have := Hc0.out.size; simp; omega
  case hb => simp; omega
  intro v1 w8 hH1 hb1
  have HB1 := hid (show Below w2.heap.size w2 w8 from (Hc0.out.alloc Hc0.out.size _).trans hb1)
  obtain ⟨l1, hl1⟩ : ∃ l1, idS m ++ [pX s.size] = l1 := ⟨_, rfl⟩
  rw [hl1] at hH1
  have hll : l1.length ≤ 2 := by rw [← hl1, List.length_append]; simp; omega
  obtain ⟨a1, c1, rfl⟩ := hH1.form
  have HH1 := hid hH1
  have HL1 := hid hl1
  clear hH1 hb1 hl1 H0 Hc0
  go_upto_if 65 with fail
  go_cut [10] (fun s10 w' => Ob w' s10 (cutS k m s.size) (k + s.size) k ∧ Below w2.heap.size w2 w')
  case first =>
    by_cases h2 : m < k
    · have h3 : (m : Int) < (k : Int) := by omega
      have HE := hid (show l1 ++ [pK ((k : Int) - (m : Int))] = cutS k m s.size by rw [← HL1.out, cutS, List.append_assoc]; congr 1; rw [idS, if_neg (by omega), show ((k - m : Nat) : Int) = (k : Int) - (m : Int) by omega]; rfl)
      go_wp2_with (at_builtin; go_must (refine wpList_append_c rfl _ _ rfl w2.heap.size _ l1 rfl (HH1.out.later ((Below.refl _ _).alloc (Nat.le_refl _) _)) ?hs _ [pK ((k : Int) - (m : Int))] rfl (one_new w8 (pK ((k : Int) - (m : Int))) w2.heap.size HB1.out.size).reads ?hb ?_))
      case hs => have := HB1.out.size; simp; omega
      case hb => simp; omega
      intro v2 w9 hH2 hb2
      have HB2 := hid (show Below w2.heap.size w2 w9 from (HB1.out.alloc HB1.out.size _).trans hb2)
      rw [HE.out] at hH2
      have HH2 := hid hH2
      clear hH2 hb2
      go_wp2_with fail
      go_meet
      case rel => exact ⟨cut_ob HH2.out.reads (by omega) hm (by omega), HB2.out⟩
    · have h3 : ¬ (m : Int) < (k : Int) := by omega
      have HE := hid (show l1 = cutS k m s.size by rw [← HL1.out, cutS, show k - m = 0 by omega]; rfl)
      go_wp2_with fail
      go_meet
      case rel => exact ⟨cut_ob (by rw [← HE.out]; exact HH1.out.reads) (by omega) hm (by omega), HB1.out⟩
  case rest =>
  obtain ⟨ho, hb⟩ := hcut
  clear HL1 HH1 HB1 hll hil
  have HE1 := hid (put_cut k m s (by omega) hm)
  have HE2 := hid (put_put1 k m s t (by omega) (by omega) hm)
  have HE3 := hid (put_put2 k m s t (by omega) (by omega) hm)
  have Hb3 := hid (below_seq Hb2.out hb)
  have HOa3 := hid (HOa2.out.later hb)
  have HOc3 := hid ho
  clear hb Hb2 HOa2 ho
  go_wp2_with fail
  refine (two_ob HOa3.out HOc3.out).mono ?_
  rintro _ w4 ⟨vx, rfl, ho, hb⟩
  have Hb4 := hid (below_seq Hb3.out hb)
  have HOa4 := hid (HOa3.out.later hb)
  have HOc4 := hid (HOc3.out.later hb)
  have HOx4 := hid ho
  clear hb Hb3 HOa3 HOc3 ho
  go_wp2_with fail
  refine (all_none _ k (by omega)).mono ?_
  rintro _ w5 ⟨vi, rfl, ho, hb⟩
  have Hb5 := hid (below_seq Hb4.out hb)
  have HOa5 := hid (HOa4.out.later hb)
  have HOc5 := hid (HOc4.out.later hb)
  have HOx5 := hid (HOx4.out.later hb)
  have HOi5 := hid ho
  clear hb Hb4 HOa4 HOc4 HOx4 ho
  go_wp2_with fail
  refine (put5z _ _ _ (k + s.size) (m) (t) (by omega) (by omega) (by omega) (by omega) (by omega)).mono ?_
  rintro _ w6 ⟨vb, rfl, ho, hb⟩
  have Hb6 := hid (below_seq Hb5.out hb)
  have HOa6 := hid (HOa5.out.later hb)
  have HOc6 := hid (HOc5.out.later hb)
  have HOx6 := hid (HOx5.out.later hb)
  have HOi6 := hid (HOi5.out.later hb)
  have HOb6 := hid ho
  clear hb Hb5 HOa5 HOc5 HOx5 HOi5 ho
  go_wp2_with fail
  refine (two_ob HOa6.out HOb6.out).mono ?_
  rintro _ w7 ⟨vy, rfl, ho, hb⟩
  have Hb7 := hid (below_seq Hb6.out hb)
  have HOa7 := hid (HOa6.out.later hb)
  have HOc7 := hid (HOc6.out.later hb)
  have HOx7 := hid (HOx6.out.later hb)
  have HOi7 := hid (HOi6.out.later hb)
  have HOb7 := hid (HOb6.out.later hb)
  have HOy7 := hid ho
  clear hb Hb6 HOa6 HOc6 HOx6 HOi6 HOb6 ho
  go_wp2_with fail
  refine (put5z _ _ _ (k + s.size) (m + s.size) (t) (by omega) (by omega) (by omega) (by omega) (by omega)).mono ?_
  rintro _ w8 ⟨vd, rfl, ho, hb⟩
  have Hb8 := hid (below_seq Hb7.out hb)
  have HOa8 := hid (HOa7.out.later hb)
  have HOc8 := hid (HOc7.out.later hb)
  have HOx8 := hid (HOx7.out.later hb)
  have HOi8 := hid (HOi7.out.later hb)
  have HOb8 := hid (HOb7.out.later hb)
  have HOy8 := hid (HOy7.out.later hb)
  have HOd8 := hid ho
  clear hb Hb7 HOa7 HOc7 HOx7 HOi7 HOb7 HOy7 ho
  go_wp2_with fail
  refine (two_ob HOa8.out HOd8.out).mono ?_
  rintro _ w9 ⟨vz, rfl, ho, hb⟩
  have Hb9 := hid (below_seq Hb8.out hb)
  have HOa9 := hid (HOa8.out.later hb)
  have HOc9 := hid (HOc8.out.later hb)
  have HOx9 := hid (HOx8.out.later hb)
  have HOi9 := hid (HOi8.out.later hb)
  have HOb9 := hid (HOb8.out.later hb)
  have HOy9 := hid (HOy8.out.later hb)
  have HOd9 := hid (HOd8.out.later hb)
  have HOz9 := hid ho
  clear hb Hb8 HOa8 HOc8 HOx8 HOi8 HOb8 HOy8 HOd8 ho
  go_wp2_with fail
  refine (rnorm_ob HOi9.out).mono ?_
  rintro _ w10 ⟨vr, rfl, ho, hb⟩
  have Hb10 := hid (below_seq Hb9.out hb)
  have HOa10 := hid (HOa9.out.later hb)
  have HOc10 := hid (HOc9.out.later hb)
  have HOx10 := hid (HOx9.out.later hb)
  have HOi10 := hid (HOi9.out.later hb)
  have HOb10 := hid (HOb9.out.later hb)
  have HOy10 := hid (HOy9.out.later hb)
  have HOd10 := hid (HOd9.out.later hb)
  have HOz10 := hid (HOz9.out.later hb)
  have HOr10 := hid ho
  clear hb Hb9 HOa9 HOc9 HOx9 HOi9 HOb9 HOy9 HOd9 HOz9 ho
  go_wp2_with fail
  refine (rsame_ob HOx10.out HOr10.out HE1.out).mono ?_
  rintro _ w11 ⟨rfl, hb⟩
  have Hb11 := hid (below_seq Hb10.out hb)
  have HOa11 := hid (HOa10.out.later hb)
  have HOc11 := hid (HOc10.out.later hb)
  have HOx11 := hid (HOx10.out.later hb)
  have HOi11 := hid (HOi10.out.later hb)
  have HOb11 := hid (HOb10.out.later hb)
  have HOy11 := hid (HOy10.out.later hb)
  have HOd11 := hid (HOd10.out.later hb)
  have HOz11 := hid (HOz10.out.later hb)
  have HOr11 := hid (HOr10.out.later hb)
  clear hb Hb10 HOa10 HOc10 HOx10 HOi10 HOb10 HOy10 HOd10 HOz10 HOr10
  go_wp2_with fail
  refine (put5z _ _ _ (k) (m) (t ++ s) (by omega) (by omega) (by rw [ByteArray.size_append]; omega) (by omega) (by rw [ByteArray.size_append]; omega)).mono ?_
  rintro _ w12 ⟨ve, rfl, ho, hb⟩
  have Hb12 := hid (below_seq Hb11.out hb)
  have HOa12 := hid (HOa11.out.later hb)
  have HOc12 := hid (HOc11.out.later hb)
  have HOx12 := hid (HOx11.out.later hb)
  have HOi12 := hid (HOi11.out.later hb)
  have HOb12 := hid (HOb11.out.later hb)
  have HOy12 := hid (HOy11.out.later hb)
  have HOd12 := hid (HOd11.out.later hb)
  have HOz12 := hid (HOz11.out.later hb)
  have HOr12 := hid (HOr11.out.later hb)
  have HOe12 := hid ho
  clear hb Hb11 HOa11 HOc11 HOx11 HOi11 HOb11 HOy11 HOd11 HOz11 HOr11 ho
  go_wp2_with fail
  refine (rsame_ob HOy12.out HOe12.out HE2.out).mono ?_
  rintro _ w13 ⟨rfl, hb⟩
  have Hb13 := hid (below_seq Hb12.out hb)
  have HOa13 := hid (HOa12.out.later hb)
  have HOc13 := hid (HOc12.out.later hb)
  have HOx13 := hid (HOx12.out.later hb)
  have HOi13 := hid (HOi12.out.later hb)
  have HOb13 := hid (HOb12.out.later hb)
  have HOy13 := hid (HOy12.out.later hb)
  have HOd13 := hid (HOd12.out.later hb)
  have HOz13 := hid (HOz12.out.later hb)
  have HOr13 := hid (HOr12.out.later hb)
  have HOe13 := hid (HOe12.out.later hb)
  clear hb Hb12 HOa12 HOc12 HOx12 HOi12 HOb12 HOy12 HOd12 HOz12 HOr12 HOe12
  go_wp2_with fail
  refine (put5z _ _ _ (k) (m) (s ++ t) (by omega) (by omega) (by rw [ByteArray.size_append]; omega) (by omega) (by rw [ByteArray.size_append]; omega)).mono ?_
  rintro _ w14 ⟨vf, rfl, ho, hb⟩
  have Hb14 := hid (below_seq Hb13.out hb)
  have HOa14 := hid (HOa13.out.later hb)
  have HOc14 := hid (HOc13.out.later hb)
  have HOx14 := hid (HOx13.out.later hb)
  have HOi14 := hid (HOi13.out.later hb)
  have HOb14 := hid (HOb13.out.later hb)
  have HOy14 := hid (HOy13.out.later hb)
  have HOd14 := hid (HOd13.out.later hb)
  have HOz14 := hid (HOz13.out.later hb)
  have HOr14 := hid (HOr13.out.later hb)
  have HOe14 := hid (HOe13.out.later hb)
  have HOf14 := hid ho
  clear hb Hb13 HOa13 HOc13 HOx13 HOi13 HOb13 HOy13 HOd13 HOz13 HOr13 HOe13 ho
  go_wp2_with fail
  refine (rsame_ob HOz14.out HOf14.out HE3.out).mono ?_
  rintro _ w15 ⟨rfl, hb⟩
  have Hb15 := hid (below_seq Hb14.out hb)
  have HOa15 := hid (HOa14.out.later hb)
  have HOc15 := hid (HOc14.out.later hb)
  have HOx15 := hid (HOx14.out.later hb)
  have HOi15 := hid (HOi14.out.later hb)
  have HOb15 := hid (HOb14.out.later hb)
  have HOy15 := hid (HOy14.out.later hb)
  have HOd15 := hid (HOd14.out.later hb)
  have HOz15 := hid (HOz14.out.later hb)
  have HOr15 := hid (HOr14.out.later hb)
  have HOe15 := hid (HOe14.out.later hb)
  have HOf15 := hid (HOf14.out.later hb)
  clear hb Hb14 HOa14 HOc14 HOx14 HOi14 HOb14 HOy14 HOd14 HOz14 HOr14 HOe14 HOf14
  go_wp2_with fail
  go_ret
  exact ⟨rfl, Hb15.out⟩
end Go.Proofs.Ytcghcocacbglbaa

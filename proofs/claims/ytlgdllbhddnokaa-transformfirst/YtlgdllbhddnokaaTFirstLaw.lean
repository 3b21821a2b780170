/- The law TransformFirst: at one place the first one's text stands ahead; what both cut is cut once. -/
import Derived.Test.YtlgdllbhddnokaaKnown7
import Derived.Test.YtlgdllbhddnokaaPutAt
import Derived.Test.YtlgdllbhddnokaaText7
import Derived.Test.YtlgdllbhddnokaaRefNormal
import Derived.Deep.DeepCutAuto
import Derived.Deep.RegionHeld3
namespace Go.Proofs.Ytlgdllbhddnokaa
open Go.RowKit
set_option linter.unusedSimpArgs false
set_option linter.unusedVariables false

theorem putF_norm (k m : Nat) (s : ByteArray) : normS (putF k m s) = putF k m s := by
  unfold putF idS
  split <;> split <;> rfl
theorem putF_all (k m : Nat) (s : ByteArray) (hs : 1 ≤ s.size) : Good (putF k m s) ∧ inS (putF k m s) = ((k + m : Nat) : Int) ∧ outS (putF k m s) = ((k + m + s.size : Nat) : Int) := by
  unfold putF
  refine ⟨(id_good k).append (good_mk (okP hs) (id_good m)), ?_, ?_⟩
  · rw [inS_append, id_in, in_cons, over_P, id_in]; omega
  · rw [outS_append, id_out, out_cons, outl_P, id_out]; omega
theorem ap_id (n : Nat) (d : List UInt8) (o : List Cp) (h : n ≤ d.length) : applyS d (idS n ++ o) = d.take n ++ applyS (d.drop n) o := by
  unfold idS
  split
  · rename_i e; subst e; rfl
  · rw [List.cons_append, List.nil_append, ap_K]
theorem ap_end (d : List UInt8) : applyS d (idS d.length) = d := by
  have := ap_id d.length d [] (Nat.le_refl _)
  rw [List.append_nil] at this
  rw [this]
  simp [applyS]
/-- What both make of the text. -/
theorem first_both (k m : Nat) (s t : ByteArray) (d : List UInt8) (hd : d.length = k + m) :
    applyS (applyS d (putF k m s)) (idS k ++ (pK s.size :: pP t :: idS m)) = d.take k ++ (s.data.toList ++ (t.data.toList ++ d.drop k))
    ∧ applyS (applyS d (putF k m t)) (idS k ++ (pP s :: pK t.size :: idS m)) = d.take k ++ (s.data.toList ++ (t.data.toList ++ d.drop k)) := by
  have hl : (d.take k).length = k := by rw [List.length_take]; omega
  have hr : (d.drop k).length = m := by rw [List.length_drop]; omega
  have h1 : ∀ u : ByteArray, applyS d (putF k m u) = d.take k ++ (u.data.toList ++ d.drop k) := fun u => by
    unfold putF
    rw [ap_id k d _ (by omega), ap_P, ← hr, ap_end]
  have hu : ∀ u : ByteArray, u.data.toList.length = u.size := fun u => by simp
  rw [h1, h1]
  constructor
  · rw [ap_id k _ _ (by rw [List.length_append]; omega), List.take_left' hl, List.drop_left' hl, ap_K, List.take_left' (hu s), List.drop_left' (hu s), ap_P, ← hr, ap_end]
  · rw [ap_id k _ _ (by rw [List.length_append]; omega), List.take_left' hl, List.drop_left' hl, ap_P, ap_K, List.take_left' (hu t), List.drop_left' (hu t), ← hr, ap_end]
theorem want_eq (d s t : ByteArray) (k : Nat) (hk : k ≤ d.size) : d.extract 0 k ++ s ++ t ++ d.extract k d.size = ⟨(d.data.toList.take k ++ (s.data.toList ++ (t.data.toList ++ d.data.toList.drop k))).toArray⟩ := by
  apply ByteArray.ext
  apply Array.ext'
  have h1 := ext_list d 0 k
  have h2 := ext_list d k d.size
  simp only [ByteArray.data_append, Array.toList_append, h1, h2, List.drop_zero, Nat.sub_zero]
  rw [List.take_of_length_le (show (d.data.toList.drop k).length ≤ d.size - k by rw [List.length_drop]; simp)]
  simp [List.append_assoc]
theorem put_at_ob {w : World} {v : Value} {Bd k m : Nat} {s : ByteArray} (h : HasC w Bd v (putF k m s)) (hs : 1 ≤ s.size) (hn : k + m + s.size ≤ 400) : Ob w v (putF k m s) (k + m) (k + m + s.size) :=
  ⟨h.reads, (putF_all k m s hs).1, (putF_all k m s hs).2.1, (putF_all k m s hs).2.2, by omega, hn⟩
theorem px_first (k m : Nat) (s t : ByteArray) (hs : 1 ≤ s.size) (ht : 1 ≤ t.size) : PX (putF k m s) (putF k m t) (idS k ++ (pP s :: pK t.size :: idS m)) (idS k ++ (pK s.size :: pP t :: idS m)) (k + m + s.size + t.size) := by
  have hp : PR (normS (putF k m s)) (normS (putF k m t)) (idS k ++ (pP s :: pK t.size :: idS m)) (idS k ++ (pK s.size :: pP t :: idS m)) := by
    rw [putF_norm, putF_norm]; exact pr_first k m s t
  refine ⟨hp, pr_pa hp (norm_good (putF_all k m s hs).1) (norm_good (putF_all k m t ht).1) (by rw [putF_norm, putF_norm, (putF_all k m s hs).2.1, (putF_all k m t ht).2.1]), ?_⟩
  rw [outS_append, id_out, out_cons, outl_P, out_cons, outl_K, id_out]
  omega
theorem px_cut (n : Nat) (hn : 1 ≤ n) : PX [pX n] [pX n] [] [] 0 := by
  have g : Good [pX (n : Int)] := good_mk (okX (by omega)) (fun c hc => by simp at hc)
  have hp : PR (normS [pX (n : Int)]) (normS [pX (n : Int)]) [] [] := pr_cut n
  exact ⟨hp, pr_pa hp (norm_good g) (norm_good g) rfl, rfl⟩
theorem cut_ob (w : World) (n : Nat) (h0 : 1 ≤ n) (h : n ≤ 400) : Ob (w.alloc (.cells (C [pX (n : Int)]).toArray 43)) (.slice (some ⟨w.heap.size, 0, none⟩) 1 1) [pX (n : Int)] n 0 :=
  ⟨(parts_new w [pX (n : Int)] 1 rfl).reads, good_mk (okX (by omega)) (fun c hc => by simp at hc), by rw [in_cons, over_X]; simp [inS], by rw [out_cons, outl_X]; simp [outS], h, by omega⟩
theorem putAtz (w : World) (z y : Int) (n k : Nat) (s : ByteArray) (hz : z = (n : Int)) (hy : y = (k : Int)) (hk : k ≤ n) (hn : n ≤ 60) :
    Calls Try.prog 17 #[.int .i64 z, .int .i64 y, .string s] w fun e w' => ∃ v, e = .returned v ∧ HasC w' w.heap.size v (putF k (n - k) s) ∧ Below w.heap.size w w' := by
  subst hz hy
  exact putAt_any n k hk hn s w

set_option maxRecDepth 100000 in
set_option maxHeartbeats 4000000 in
theorem tfirst_any (n q : Int) (s t : ByteArray) (hs : s.size ≤ 140737488351232) (ht : t.size ≤ 140737488351232) (w : World) :
    Calls Try.prog 5 #[.int .i64 n, .int .i64 q, .string s, .string t] w fun e w' => e = .returned (.bool true) ∧ Below w.heap.size w w' := by
  by_cases hs0 : s.size = 0
  · have e : s = (⟨#[]⟩ : ByteArray) := em0 hs0
    subst e
    go_enter Try.func5, Try.ntmps5
    go_wp2_with fail
    refine (known7_any _).mono ?_
    rintro _ w1 ⟨rfl, hb⟩
    have Hb1 := hid hb
    clear hb
    go_wp2_with fail
    go_ret
    exact ⟨rfl, Hb1.out⟩
  have hse := ne_em (show 0 < s.size by omega)
  by_cases ht0 : t.size = 0
  · have e : t = (⟨#[]⟩ : ByteArray) := em0 ht0
    subst e
    go_enter Try.func5, Try.ntmps5
    go_wp2_with fail
    refine (known7_any _).mono ?_
    rintro _ w1 ⟨rfl, hb⟩
    have Hb1 := hid hb
    clear hb
    go_wp2_with fail
    go_ret
    exact ⟨rfl, Hb1.out⟩
  have hte := ne_em (show 0 < t.size by omega)
  by_cases hst : 40 < s.size + t.size
  · have h1 : (40 : Int) < (s.size : Int) + (t.size : Int) := by omega
    go_enter Try.func5, Try.ntmps5
    go_wp2_with fail
    refine (known7_any _).mono ?_
    rintro _ w1 ⟨rfl, hb⟩
    have Hb1 := hid hb
    clear hb
    go_wp2_with fail
    go_ret
    exact ⟨rfl, Hb1.out⟩
  have h1 : ¬ (40 : Int) < (s.size : Int) + (t.size : Int) := by omega
  go_enter Try.func5, Try.ntmps5
  go_wp2_with fail
  refine (known7_any _).mono ?_
  rintro _ w1 ⟨rfl, hb⟩
  have Hb1 := hid hb
  clear hb
  go_upto_region 5 with fail
  go_cut [0] (fun s0 w' => ∃ k : Nat, s0 = .int .i64 (k : Int) ∧ k ≤ 49 ∧ w' = w1)
  case first =>
    go_wp2_with fail
    all_goals
      go_meet
      first
      | exact ⟨0, rfl, by omega, rfl⟩
      | exact ⟨49, rfl, by omega, rfl⟩
      | exact ⟨(n.tmod 50).toNat, by rw [Int.toNat_of_nonneg (by omega)], by omega, rfl⟩
  case rest =>
  obtain ⟨k, rfl, hk, rfl⟩ := hcut
  have hk1 : ¬ ((k : Int) + 1 = 0) := by omega
  have hk2 : ((k : Int) + 1 == 0) = false := by simp; omega
  go_upto_region 6 with fail
  go_cut [1] (fun s1 w' => ∃ m : Nat, s1 = .int .i64 (m : Int) ∧ m ≤ k ∧ w' = wc)
  case first =>
    go_wp2_with fail
    all_goals
      go_meet
      first
      | exact ⟨0, rfl, by omega, rfl⟩
      | exact ⟨k, rfl, by omega, rfl⟩
      | exact ⟨(q.tmod ((k : Int) + 1)).toNat, by rw [Int.toNat_of_nonneg (by omega)], by omega, rfl⟩
  case rest =>
  obtain ⟨m, rfl, hm, rfl⟩ := hcut
  clear hk1 hk2 hse hte h1
  obtain ⟨e, he⟩ : ∃ e, k = m + e := ⟨k - m, by omega⟩
  have HKE := hid he
  clear he
  go_wp2_with fail
  refine (putAtz _ _ _ k m s rfl rfl hm (by omega)).mono ?_
  rintro _ w2 ⟨va, rfl, hh, hb⟩
  have HA2 := hid (show Ob w2 va (putF m e s) (m + e) (m + e + s.size) by
    rw [show k - m = e by have := HKE.out; omega] at hh
    exact put_at_ob hh (by omega) (by have := HKE.out; omega))
  have Hb2 := hid (below_seq Hb1.out hb)
  clear hh hb Hb1
  go_wp2_with fail
  refine (putAtz _ _ _ k m t rfl rfl hm (by omega)).mono ?_
  rintro _ w3 ⟨vb, rfl, hh, hb⟩
  have HB3 := hid (show Ob w3 vb (putF m e t) (m + e) (m + e + t.size) by
    rw [show k - m = e by have := HKE.out; omega] at hh
    exact put_at_ob hh (by omega) (by have := HKE.out; omega))
  have HA3 := hid (HA2.out.later hb)
  have Hb3 := hid (below_seq Hb2.out hb)
  have HP := hid (px_first m e s t (by omega) (by omega))
  clear hh hb Hb2 HA2
  go_wp2_with fail
  refine (pair_ob HA3.out HB3.out HP.out (by have := HKE.out; omega)).mono ?_
  rintro _ w4 ⟨vx, vy, rfl, ho, ho2, hb⟩
  have HX4 := hid ho
  have HY4 := hid ho2
  have HA4 := hid (HA3.out.later hb)
  have HB4 := hid (HB3.out.later hb)
  have Hb4 := hid (below_seq Hb3.out hb)
  clear ho ho2 hb Hb3 HA3 HB3
  go_wp2_with fail
  refine (text_any k (by omega) _).mono ?_
  rintro _ w5 ⟨d, rfl, hd, hb⟩
  have HD := hid (show d.size = m + e by have := HKE.out; omega)
  have HX5 := hid (HX4.out.later hb)
  have HY5 := hid (HY4.out.later hb)
  have HA5 := hid (HA4.out.later hb)
  have HB5 := hid (HB4.out.later hb)
  have Hb5 := hid (below_seq Hb4.out hb)
  have hdm : (m : Int) ≤ (d.size : Int) := by omega
  have hdz : d.size ≤ 49 := by omega
  have HBO := hid (first_both m e s t d.data.toList (by rw [← HD.out]; simp))
  clear hd hb Hb4 HX4 HY4 HA4 HB4
  go_wp2_with fail
  refine (apply_ob d HA5.out HD.out (by have := HKE.out; omega)).mono ?_
  rintro _ wx ⟨rfl, rfl⟩
  have hms := applied_size d HA5.out HD.out
  obtain ⟨x1, hx1⟩ : ∃ bz : ByteArray, (⟨(applyS d.data.toList (putF m e s)).toArray⟩ : ByteArray) = bz := ⟨_, rfl⟩
  rw [hx1] at hms ⊢
  have HX1 := hid hx1
  have HS1 := hid hms
  clear hx1 hms
  go_wp2_with fail
  refine (apply_ob d HB5.out HD.out (by have := HKE.out; omega)).mono ?_
  rintro _ wx ⟨rfl, rfl⟩
  have hms := applied_size d HB5.out HD.out
  obtain ⟨x2, hx2⟩ : ∃ bz : ByteArray, (⟨(applyS d.data.toList (putF m e t)).toArray⟩ : ByteArray) = bz := ⟨_, rfl⟩
  rw [hx2] at hms ⊢
  have HX2 := hid hx2
  have HS2 := hid hms
  clear hx2 hms
  obtain ⟨z, hz⟩ : ∃ z : ByteArray, d.extract 0 m ++ s ++ t ++ d.extract m d.size = z := ⟨_, rfl⟩
  have HZ := hid hz
  have HW := hid (show (⟨(d.data.toList.take m ++ (s.data.toList ++ (t.data.toList ++ d.data.toList.drop m))).toArray⟩ : ByteArray) = z by rw [← hz, want_eq d s t m (by omega)])
  have HZ1 := hid (show (⟨(applyS x1.data.toList (normS (idS m ++ (pK s.size :: pP t :: idS e)))).toArray⟩ : ByteArray) = z by
    rw [← HW.out, ← HBO.out.1, (norm_all _ HP.out.pa.gy).2, ← HX1.out])
  have HZ2 := hid (show (⟨(applyS x2.data.toList (normS (idS m ++ (pP s :: pK t.size :: idS e)))).toArray⟩ : ByteArray) = z by
    rw [← HW.out, ← HBO.out.2, (norm_all _ HP.out.pa.gx).2, ← HX2.out])
  clear hz
  go_wp2_with fail
  refine (apply_ob x1 HY5.out HS1.out (by have := HKE.out; omega)).mono ?_
  rintro _ wx ⟨rfl, rfl⟩
  rw [HZ1.out]
  go_wp2_with fail
  refine (apply_ob x2 HX5.out HS2.out (by have := HKE.out; omega)).mono ?_
  rintro _ wx ⟨rfl, rfl⟩
  rw [HZ2.out]
  go_wp2_with fail
  go_region
  rw [HZ.out]
  have Hb6 := hid (show Below w.heap.size w wx.drew from Hb5.out.drew)
  obtain ⟨wd, hwd⟩ : ∃ x, wx.drew = x := ⟨_, rfl⟩
  rw [hwd] at Hb6 ⊢
  clear hwd Hb5 HX5 HY5 HA5 HB5 HKE hm
  by_cases hk0 : k = 0
  · subst hk0
    go_wp2_with fail
    go_ret
    exact ⟨rfl, Hb6.out⟩
  · have hke : ((k : Int) == 0) = false := by simp; omega
    have ho := cut_ob wd k (by omega) (by omega)
    have HP2 := hid (px_cut k (by omega))
    have HO := hid ho
    have Hb7 := hid (show Below w.heap.size w (wd.alloc (.cells (C [pX (k : Int)]).toArray 43)) from Hb6.out.alloc Hb6.out.size _)
    clear ho hk0
    go_wp2_with fail
    refine (pair_ob HO.out HO.out HP2.out (by omega)).mono ?_
    rintro _ w8 ⟨ux, uy, rfl, ho, ho2, hb⟩
    obtain ⟨c1, c2, rfl⟩ := ho.rc.form
    obtain ⟨c3, c4, rfl⟩ := ho2.rc.form
    simp only [normS, List.length_nil]
    have Hb8 := hid (below_seq Hb7.out hb)
    clear ho ho2 hb
    go_wp2_with fail
    go_ret
    exact ⟨rfl, Hb8.out⟩
end Go.Proofs.Ytlgdllbhddnokaa

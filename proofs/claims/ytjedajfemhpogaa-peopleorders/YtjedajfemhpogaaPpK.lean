/- The contracts of package people: Has, Add, Remove (chapter 12). -/
import Derived.Test.YtjedajfemhpogaaPpPlace
import Derived.Test.YtjedajfemhpogaaAdConcat
namespace Go.Proofs.Ytjedajfemhpogaa
open Go.RowKit
set_option linter.unusedSimpArgs false
set_option linter.unusedVariables false

/-- What Add and Remove answer: a row of its own, and the errno. -/
def PpA (w : World) (r : List Ad × Int) (x : Ending) (w' : World) : Prop := ∃ v', x = .returned (.tuple #[v', .int .i64 r.2]) ∧ HA w' w.heap.size v' r.1 ∧ Below w.heap.size w w'

set_option maxRecDepth 100000 in
set_option maxHeartbeats 4000000 in
theorem pAdd_new (va : Value) (l : List Ad) (a : Ad) (w : World) (ha : RA w va l) (hok : PpOk l) :
    Calls Try.prog 5 #[va, .agg #[.int .i64 a.1, .int .i64 a.2]] w (PpA w (ppAdd l a)) := by
  obtain ⟨ao, cap, rfl⟩ := ha.form
  obtain ⟨n, hn⟩ : ∃ n, l.length = n := ⟨_, rfl⟩
  have HN := hid hn
  have HK := hid hok
  have hl8 : n ≤ 8 := by rw [← hn]; exact hok.len
  rw [hn] at ha ⊢
  have HA := hid ha
  obtain ⟨L, hL⟩ : ∃ L, w.heap.size = L := ⟨_, rfl⟩
  have HL := hid hL
  clear ha hn hok
  go_enter Try.func5, Try.ntmps5
  go_wp2_with (show wpList _ _ _ (⟨some 3, Op.box _ _, _, _, _, _⟩ :: _) _ _; go_must (refine wpList_box_blk rfl 29 _ rfl [.int .i64 a.1, .int .i64 a.2] rfl L hL ?_); intro w1 hB1 hb1 hs1; have HB1 := hid hB1; have Hb1 := hid hb1; have y0 := hB1.cell (j := 0) rfl; have y1 := hB1.cell (j := 1) rfl; clear hB1 hb1)
  have hra1 : RA w1 (.slice ao n cap) l := HA.out.later (by rw [HL.out]; exact Hb1.out)
  refine (ppPlace_any _ l a _ hra1 (by rw [HN.out]; omega)).mono ?_
  rintro _ w2 ⟨rfl, hb2⟩
  have HB2 := hid (HB1.out.later hb2)
  have Hb2 := hid (Hb1.out.trans (hb2.mono (by have := HB1.out.lt; omega)))
  obtain ⟨at', hat⟩ : ∃ k, ppN l a = k := ⟨_, rfl⟩
  have hle : at' ≤ n := by rw [← hat]; have := ppN_le l a; have := HN.out; omega
  have HAT := hid hat
  have HTH := hid (show decide (l[ppN l a]? = some a) = decide (a ∈ l) from by
    by_cases hm : a ∈ l
    · rw [ppN_is HK.out.sorted hm]; simp [hm]
    · rw [decide_eq_false hm]; exact decide_eq_false fun h => hm (List.mem_of_getElem? h))
  rw [HTH.out, hat]
  replace y0 := cell_later hb2 y0
  replace y1 := cell_later hb2 y1
  clear hb2 hra1 hat HB1 Hb1
  go_wp2_with fail
  refine (ppIsUser_any a _).mono ?_
  rintro _ w3 ⟨rfl, hb3⟩
  have HB3 := hid (HB2.out.later hb3)
  have Hb3 := hid (Hb2.out.trans (hb3.mono (by have := HB2.out.lt; omega)))
  replace y0 := cell_later hb3 y0
  replace y1 := cell_later hb3 y1
  clear hb3 HB2 Hb2
  have HSZ := hid (show L ≤ w3.heap.size from Nat.le_of_lt HB3.out.lt)
  have HRA := hid (show RA w3 (.slice ao n cap) l from HA.out.later (by rw [HL.out]; exact Hb3.out))
  cases hu : userS a.1 a.2 with
  | false =>
    have HO := hid (show ppAdd l a = (l, 1) by rw [ppAdd, if_pos hu])
    clear hu
    go_wp2_with fail
    refine (adClone_any _ l _ HRA.out (by rw [HN.out]; omega)).mono ?_
    rintro _ w4 ⟨v4, rfl, hv4, hb4⟩
    go_wp2_with fail
    go_ret2
    exact ⟨v4, by rw [HO.out]; rfl, by rw [HO.out, HL.out]; exact hv4.mono HSZ.out, by rw [HL.out]; exact Hb3.out.trans (hb4.mono HSZ.out)⟩
  | true =>
  have HUS := hid (show ¬ userS a.1 a.2 = false by rw [hu]; simp)
  clear hu
  by_cases hm : a ∈ l
  · rw [decide_eq_true hm]
    have HO := hid (show ppAdd l a = (l, 12) by rw [ppAdd, if_neg HUS.out, if_pos hm])
    clear hm
    go_wp2_with fail
    refine (adClone_any _ l _ HRA.out (by rw [HN.out]; omega)).mono ?_
    rintro _ w4 ⟨v4, rfl, hv4, hb4⟩
    go_wp2_with fail
    go_ret2
    exact ⟨v4, by rw [HO.out]; rfl, by rw [HO.out, HL.out]; exact hv4.mono HSZ.out, by rw [HL.out]; exact Hb3.out.trans (hb4.mono HSZ.out)⟩
  rw [decide_eq_false hm]
  have HNM := hid hm
  clear hm
  by_cases h8 : 8 ≤ n
  · have h8' : (8 : Int) ≤ (n : Int) := by omega
    have HO := hid (show ppAdd l a = (l, 4) by rw [ppAdd, if_neg HUS.out, if_neg HNM.out, if_pos (by rw [HN.out]; exact h8)])
    go_wp2_with fail
    refine (adClone_any _ l _ HRA.out (by rw [HN.out]; omega)).mono ?_
    rintro _ w4 ⟨v4, rfl, hv4, hb4⟩
    go_wp2_with fail
    go_ret2
    exact ⟨v4, by rw [HO.out]; rfl, by rw [HO.out, HL.out]; exact hv4.mono HSZ.out, by rw [HL.out]; exact Hb3.out.trans (hb4.mono HSZ.out)⟩
  have h8' : ¬ (8 : Int) ≤ (n : Int) := by omega
  have HO := hid (show ppAdd l a = (l.take at' ++ [a] ++ l.drop at', 0) by rw [ppAdd, if_neg HUS.out, if_neg HNM.out, if_neg (by rw [HN.out]; exact h8), HAT.out])
  obtain ⟨a1, k1, hc1, hr1⟩ := cut_a1 HRA.out at' (by have := HN.out; omega)
  obtain ⟨a2, k2, hc2, hr2⟩ := cut_a2 HRA.out at' (by have := HN.out; omega)
  rw [HN.out] at hc2 hr2
  have HR1 := hid hr1
  have HR2 := hid hr2
  clear hr1 hr2
  have HBX := HB3
  have HbX := Hb3
  go_wp2_with fail
  refine wp_region_held_drew (S := fun w' => Blk w' 29 L [.int .i64 a.1, .int .i64 a.2] ∧ Below L w w') (by kernel_rfl) (⟨HBX.out.kept rfl, HbX.out.drew⟩) (fun hHeld => ?_)
  generalize hwd : w3.drew = wd at *
  refine wpAnyH_take (i := 0) (v := .slice ao n cap) rfl (by kernel_rfl) (by kernel_rfl) (by kernel_rfl) (fun _ _ _ h => h) (Or.inl ⟨by rfl, by intro w hSw; go_simp⟩) hHeld ?_
  try simp only [Act.put, List.setIfInBounds_toArray, List.set_cons_zero, List.set_cons_succ, List.getElem_toArray, List.getElem_cons_zero, List.getElem_cons_succ]
  refine wpAnyH_take (i := 1) (v := .int .i64 (at' : Int)) rfl (by kernel_rfl) (by kernel_rfl) (by kernel_rfl) (fun _ _ _ h => h) (Or.inl ⟨by rfl, by intro w hSw; go_simp⟩) hHeld ?_
  try simp only [Act.put, List.setIfInBounds_toArray, List.set_cons_zero, List.set_cons_succ, List.getElem_toArray, List.getElem_cons_zero, List.getElem_cons_succ]
  refine wpAnyH_take (i := 2) (v := .slice a1 at' k1) rfl (by kernel_rfl) (by kernel_rfl) (by kernel_rfl) (fun _ _ _ h => h) (Or.inl ⟨by rfl, by intro w hSw; have q := hc1 w; go_simp⟩) hHeld ?_
  try simp only [Act.put, List.setIfInBounds_toArray, List.set_cons_zero, List.set_cons_succ, List.getElem_toArray, List.getElem_cons_zero, List.getElem_cons_succ]
  refine wpAnyH_take (i := 3) (v := _) rfl (by kernel_rfl) (by kernel_rfl) (by kernel_rfl) (fun _ _ _ h => h) (yieldsIf_load_mid (by rfl) _ _ rfl _ _ rfl [.int .i64 a.1, .int .i64 a.2] _ (fun w hSw => (hSw.1.range fun j v hv => by rw [Nat.zero_add]; exact hv)) Try.underlying29 rfl (by kernel_rfl)) hHeld ?_
  try simp only [Act.put, List.setIfInBounds_toArray, List.set_cons_zero, List.set_cons_succ, List.getElem_toArray, List.getElem_cons_zero, List.getElem_cons_succ]
  refine wpAnyH_take (i := 5) (v := .slice ao n cap) rfl (by kernel_rfl) (by kernel_rfl) (by kernel_rfl) (fun _ _ _ h => h) (Or.inl ⟨by rfl, by intro w hSw; go_simp⟩) hHeld ?_
  try simp only [Act.put, List.setIfInBounds_toArray, List.set_cons_zero, List.set_cons_succ, List.getElem_toArray, List.getElem_cons_zero, List.getElem_cons_succ]
  refine wpAnyH_take (i := 6) (v := .int .i64 (at' : Int)) rfl (by kernel_rfl) (by kernel_rfl) (by kernel_rfl) (fun _ _ _ h => h) (Or.inl ⟨by rfl, by intro w hSw; go_simp⟩) hHeld ?_
  try simp only [Act.put, List.setIfInBounds_toArray, List.set_cons_zero, List.set_cons_succ, List.getElem_toArray, List.getElem_cons_zero, List.getElem_cons_succ]
  refine wpAnyH_take (i := 7) (v := .slice a2 (n - at') k2) rfl (by kernel_rfl) (by kernel_rfl) (by kernel_rfl) (fun _ _ _ h => h) (Or.inl ⟨by rfl, by intro w hSw; have q := hc2 w; go_simp⟩) hHeld ?_
  try simp only [Act.put, List.setIfInBounds_toArray, List.set_cons_zero, List.set_cons_succ, List.getElem_toArray, List.getElem_cons_zero, List.getElem_cons_succ]
  refine wpAnyH_ready (rs := [4]) (by kernel_rfl) (by simp) ?_
  refine AllReadyH.cons rfl (fun K hK => ?_) AllReadyH.nil
  go_simp
  refine hK.out _ _ (⟨hHeld.1.kept (Below.heap_alloc _ _ _ hHeld.1.lt), hHeld.2.trans ((Below.refl _ _).alloc (Nat.le_refl _) _ |>.mono (by have := hHeld.1.lt; omega))⟩) (fun hHeld => ?_)
  clear hK K
  try simp only [Act.put, List.setIfInBounds_toArray, List.set_cons_zero, List.set_cons_succ, List.getElem_toArray, List.getElem_cons_zero, List.getElem_cons_succ]
  refine wpAnyH_ready (rs := [8]) (by kernel_rfl) (by simp) ?_
  refine AllReadyH.cons rfl (fun K hK => ?_) AllReadyH.nil
  go_simp
  refine hK.out _ _ (⟨hHeld.1.kept (Below.heap_alloc _ _ _ hHeld.1.lt), hHeld.2.trans ((Below.refl _ _).alloc (Nat.le_refl _) _ |>.mono (by have := hHeld.1.lt; omega))⟩) (fun hHeld => ?_)
  clear hK K
  try simp only [Act.put, List.setIfInBounds_toArray, List.set_cons_zero, List.set_cons_succ, List.getElem_toArray, List.getElem_cons_zero, List.getElem_cons_succ]
  have hbA : Below w3.heap.size w3 ((wd.alloc (.cells #[.int .i64 a.1, .int .i64 a.2] 29)).alloc (.cells #[.slice a1 at' k1, .slice (some ⟨wd.heap.size, 0, none⟩) 1 1, .slice a2 (n - at') k2] 24)) := by
    rw [← hwd]
    exact (((Below.refl _ w3).drew).alloc (Nat.le_refl _) _).alloc (by simp) _
  have hAP : AdParts ((wd.alloc (.cells #[.int .i64 a.1, .int .i64 a.2] 29)).alloc (.cells #[.slice a1 at' k1, .slice (some ⟨wd.heap.size, 0, none⟩) 1 1, .slice a2 (n - at') k2] 24)) (wd.heap.size + 1) [l.take at', [a], l.drop at'] := by
    refine AdParts.of (by have h := heap_alloc_new (wd.alloc (.cells #[.int .i64 a.1, .int .i64 a.2] 29)) (.cells #[.slice a1 at' k1, .slice (some ⟨wd.heap.size, 0, none⟩) 1 1, .slice a2 (n - at') k2] 24); simpa using h) fun j x hj => ?_
    match j, hj with
    | 0, hj => cases hj; exact ⟨_, _, _, by rw [List.length_take, HN.out]; omega, rfl, HR1.out.later hbA⟩
    | 1, hj => cases hj; exact ⟨_, _, 1, rfl, rfl, (addr_new wd a wd.heap.size (Nat.le_refl _)).reads.later ((Below.refl _ _).alloc (Nat.le_refl _) _)⟩
    | 2, hj => cases hj; exact ⟨_, _, _, by rw [List.length_drop, HN.out], rfl, HR2.out.later hbA⟩
  have HAP := hid hAP
  have HbA := hid (show Below L w ((wd.alloc (.cells #[.int .i64 a.1, .int .i64 a.2] 29)).alloc (.cells #[.slice a1 at' k1, .slice (some ⟨wd.heap.size, 0, none⟩) 1 1, .slice a2 (n - at') k2] 24)) from hHeld.2)
  have HZA := hid (show L ≤ ((wd.alloc (.cells #[.int .i64 a.1, .int .i64 a.2] 29)).alloc (.cells #[.slice a1 at' k1, .slice (some ⟨wd.heap.size, 0, none⟩) 1 1, .slice a2 (n - at') k2] 24)).heap.size by have h := HbA.out.size; rw [HL.out] at h; exact h)
  clear hbA hAP
  refine wpAnyH_ready (rs := [9]) (by kernel_rfl) (by simp) ?_
  refine AllReadyH.cons rfl (fun K hK => ?_) AllReadyH.nil
  go_simp
  refine (adConcat_any (wd.heap.size + 1) 3 [l.take at', [a], l.drop at'] _ rfl HAP.out (by simp; have := HN.out; omega) (by omega)).mono ?_
  rintro _ w4 ⟨v4, rfl, hv4, hb4⟩
  have hv5 := hv4.mono HZA.out
  have hb5 := HbA.out.trans (hb4.mono HZA.out)
  refine hK.out _ _ (⟨hHeld.1.later hb4, hb5⟩) (fun hHeld => ?_)
  clear hK K
  try simp only [Act.put, List.setIfInBounds_toArray, List.set_cons_zero, List.set_cons_succ, List.getElem_toArray, List.getElem_cons_zero, List.getElem_cons_succ]
  have HV4 := hid hv5
  have Hb4 := hid hb5
  clear hv4 hb4 hv5 hb5
  refine wpAnyH_take (i := 10) (v := v4) rfl (by kernel_rfl) (by kernel_rfl) (by kernel_rfl) (fun _ _ _ h => h) (Or.inl ⟨by rfl, by intro w hSw; go_simp⟩) hHeld ?_
  try simp only [Act.put, List.setIfInBounds_toArray, List.set_cons_zero, List.set_cons_succ, List.getElem_toArray, List.getElem_cons_zero, List.getElem_cons_succ]
  refine wpAnyH_take (i := 11) (v := .int .i64 0) rfl (by kernel_rfl) (by kernel_rfl) (by kernel_rfl) (fun _ _ _ h => h) (Or.inl ⟨by rfl, by intro w hSw; go_simp⟩) hHeld ?_
  try simp only [Act.put, List.setIfInBounds_toArray, List.set_cons_zero, List.set_cons_succ, List.getElem_toArray, List.getElem_cons_zero, List.getElem_cons_succ]
  refine wpAnyH_done (by kernel_rfl) ?_ _
  go_wp2_with fail
  go_ret2
  exact ⟨v4, by rw [HO.out]; rfl, by rw [HO.out, HL.out]; have h := HV4.out; simpa using h, by rw [HL.out]; exact Hb4.out⟩

set_option maxRecDepth 100000 in
set_option maxHeartbeats 4000000 in
theorem pRemove_new (va : Value) (l : List Ad) (a : Ad) (w : World) (ha : RA w va l) (hok : PpOk l) :
    Calls Try.prog 9 #[va, .agg #[.int .i64 a.1, .int .i64 a.2]] w (PpA w (ppRem l a)) := by
  obtain ⟨ao, cap, rfl⟩ := ha.form
  obtain ⟨n, hn⟩ : ∃ n, l.length = n := ⟨_, rfl⟩
  have HN := hid hn
  have HK := hid hok
  have hl8 : n ≤ 8 := by rw [← hn]; exact hok.len
  rw [hn] at ha ⊢
  have HA := hid ha
  obtain ⟨L, hL⟩ : ∃ L, w.heap.size = L := ⟨_, rfl⟩
  have HL := hid hL
  clear ha hn hok
  go_enter Try.func9, Try.ntmps9
  go_wp2_with (show wpList _ _ _ (⟨some 3, Op.box _ _, _, _, _, _⟩ :: _) _ _; go_must (refine wpList_box_blk rfl 29 _ rfl [.int .i64 a.1, .int .i64 a.2] rfl L hL ?_); intro w1 hB1 hb1 hs1; have HB1 := hid hB1; have Hb1 := hid hb1; have y0 := hB1.cell (j := 0) rfl; have y1 := hB1.cell (j := 1) rfl; clear hB1 hb1)
  have hra1 : RA w1 (.slice ao n cap) l := HA.out.later (by rw [HL.out]; exact Hb1.out)
  refine (ppPlace_any _ l a _ hra1 (by rw [HN.out]; omega)).mono ?_
  rintro _ w2 ⟨rfl, hb2⟩
  have HB2 := hid (HB1.out.later hb2)
  have Hb2 := hid (Hb1.out.trans (hb2.mono (by have := HB1.out.lt; omega)))
  obtain ⟨at', hat⟩ : ∃ k, ppN l a = k := ⟨_, rfl⟩
  have hle : at' ≤ n := by rw [← hat]; have := ppN_le l a; have := HN.out; omega
  have HAT := hid hat
  have HTH := hid (show decide (l[ppN l a]? = some a) = decide (a ∈ l) from by
    by_cases hm : a ∈ l
    · rw [ppN_is HK.out.sorted hm]; simp [hm]
    · rw [decide_eq_false hm]; exact decide_eq_false fun h => hm (List.mem_of_getElem? h))
  rw [HTH.out, hat]
  clear hb2 hra1 hat HB1 Hb1 y0 y1
  have HSZ := hid (show L ≤ w2.heap.size from Nat.le_of_lt HB2.out.lt)
  have HRA := hid (show RA w2 (.slice ao n cap) l from HA.out.later (by rw [HL.out]; exact Hb2.out))
  by_cases hm : a ∈ l
  · rw [decide_eq_true hm]
    have HO := hid (show ppRem l a = (l.filter fun b => decide (b ≠ a), 0) by rw [ppRem, if_pos hm])
    have HCI := hid (show l.take at' ++ l.drop (at' + 1) = l.filter fun b => decide (b ≠ a) by rw [← HAT.out]; exact cut_is HK.out.sorted hm)
    have hlt : at' + 1 ≤ n := by
      have h := ppN_is HK.out.sorted hm
      rw [HAT.out] at h
      have := (List.getElem?_eq_some_iff.1 h).1
      have := HN.out
      omega
    obtain ⟨a1, k1, hc1, hr1⟩ := cut_a1 HRA.out at' (by have := HN.out; omega)
    obtain ⟨a2, k2, hc2, hr2⟩ := cut_a2 HRA.out (at' + 1) (by have := HN.out; omega)
    rw [HN.out] at hc2 hr2
    rw [show ((at' + 1 : Nat) : Int) = (at' : Int) + 1 by omega] at hc2
    have HR1 := hid hr1
    have HR2 := hid hr2
    clear hr1 hr2 hm
    have HBX := HB2
    have HbX := Hb2
    go_wp2_with fail
    refine wp_region_held_drew (S := fun w' => Blk w' 29 L [.int .i64 a.1, .int .i64 a.2] ∧ Below L w w') (by kernel_rfl) (⟨HBX.out.kept rfl, HbX.out.drew⟩) (fun hHeld => ?_)
    generalize hwd : w2.drew = wd at *
    refine wpAnyH_take (i := 0) (v := .slice ao n cap) rfl (by kernel_rfl) (by kernel_rfl) (by kernel_rfl) (fun _ _ _ h => h) (Or.inl ⟨by rfl, by intro w hSw; go_simp⟩) hHeld ?_
    try simp only [Act.put, List.setIfInBounds_toArray, List.set_cons_zero, List.set_cons_succ, List.getElem_toArray, List.getElem_cons_zero, List.getElem_cons_succ]
    refine wpAnyH_take (i := 1) (v := .int .i64 (at' : Int)) rfl (by kernel_rfl) (by kernel_rfl) (by kernel_rfl) (fun _ _ _ h => h) (Or.inl ⟨by rfl, by intro w hSw; go_simp⟩) hHeld ?_
    try simp only [Act.put, List.setIfInBounds_toArray, List.set_cons_zero, List.set_cons_succ, List.getElem_toArray, List.getElem_cons_zero, List.getElem_cons_succ]
    refine wpAnyH_take (i := 2) (v := .slice a1 at' k1) rfl (by kernel_rfl) (by kernel_rfl) (by kernel_rfl) (fun _ _ _ h => h) (Or.inl ⟨by rfl, by intro w hSw; have q := hc1 w; go_simp⟩) hHeld ?_
    try simp only [Act.put, List.setIfInBounds_toArray, List.set_cons_zero, List.set_cons_succ, List.getElem_toArray, List.getElem_cons_zero, List.getElem_cons_succ]
    refine wpAnyH_take (i := 3) (v := .slice ao n cap) rfl (by kernel_rfl) (by kernel_rfl) (by kernel_rfl) (fun _ _ _ h => h) (Or.inl ⟨by rfl, by intro w hSw; go_simp⟩) hHeld ?_
    try simp only [Act.put, List.setIfInBounds_toArray, List.set_cons_zero, List.set_cons_succ, List.getElem_toArray, List.getElem_cons_zero, List.getElem_cons_succ]
    refine wpAnyH_take (i := 4) (v := .int .i64 (at' : Int)) rfl (by kernel_rfl) (by kernel_rfl) (by kernel_rfl) (fun _ _ _ h => h) (Or.inl ⟨by rfl, by intro w hSw; go_simp⟩) hHeld ?_
    try simp only [Act.put, List.setIfInBounds_toArray, List.set_cons_zero, List.set_cons_succ, List.getElem_toArray, List.getElem_cons_zero, List.getElem_cons_succ]
    refine wpAnyH_take (i := 5) (v := .int .i64 ((at' : Int) + 1)) rfl (by kernel_rfl) (by kernel_rfl) (by kernel_rfl) (fun _ _ _ h => h) (Or.inl ⟨by rfl, by intro w hSw; have q : IntKind.i64.wrap ((at' : Int) + 1) = ((at' : Int) + 1) := (by rw [IntKind.wrap_i64]; omega); go_simp⟩) hHeld ?_
    try simp only [Act.put, List.setIfInBounds_toArray, List.set_cons_zero, List.set_cons_succ, List.getElem_toArray, List.getElem_cons_zero, List.getElem_cons_succ]
    refine wpAnyH_take (i := 6) (v := .slice a2 (n - (at' + 1)) k2) rfl (by kernel_rfl) (by kernel_rfl) (by kernel_rfl) (fun _ _ _ h => h) (Or.inl ⟨by rfl, by intro w hSw; have q := hc2 w; go_simp⟩) hHeld ?_
    try simp only [Act.put, List.setIfInBounds_toArray, List.set_cons_zero, List.set_cons_succ, List.getElem_toArray, List.getElem_cons_zero, List.getElem_cons_succ]
    refine wpAnyH_ready (rs := [7]) (by kernel_rfl) (by simp) ?_
    refine AllReadyH.cons rfl (fun K hK => ?_) AllReadyH.nil
    go_simp
    refine hK.out _ _ (⟨hHeld.1.kept (Below.heap_alloc _ _ _ hHeld.1.lt), hHeld.2.trans ((Below.refl _ _).alloc (Nat.le_refl _) _ |>.mono (by have := hHeld.1.lt; omega))⟩) (fun hHeld => ?_)
    clear hK K
    try simp only [Act.put, List.setIfInBounds_toArray, List.set_cons_zero, List.set_cons_succ, List.getElem_toArray, List.getElem_cons_zero, List.getElem_cons_succ]
    have hbA : Below w2.heap.size w2 (wd.alloc (.cells #[.slice a1 at' k1, .slice a2 (n - (at' + 1)) k2] 24)) := by
      rw [← hwd]
      exact ((Below.refl _ w2).drew).alloc (Nat.le_refl _) _
    have hAP : AdParts (wd.alloc (.cells #[.slice a1 at' k1, .slice a2 (n - (at' + 1)) k2] 24)) wd.heap.size [l.take at', l.drop (at' + 1)] := by
      refine AdParts.of (heap_alloc_new wd (.cells #[.slice a1 at' k1, .slice a2 (n - (at' + 1)) k2] 24)) fun j x hj => ?_
      match j, hj with
      | 0, hj => cases hj; exact ⟨_, _, _, by rw [List.length_take, HN.out]; omega, rfl, HR1.out.later hbA⟩
      | 1, hj => cases hj; exact ⟨_, _, _, by rw [List.length_drop, HN.out], rfl, HR2.out.later hbA⟩
    have HAP := hid hAP
    have HbA := hid (show Below L w (wd.alloc (.cells #[.slice a1 at' k1, .slice a2 (n - (at' + 1)) k2] 24)) from hHeld.2)
    have HZA := hid (show L ≤ (wd.alloc (.cells #[.slice a1 at' k1, .slice a2 (n - (at' + 1)) k2] 24)).heap.size by have h := HbA.out.size; rw [HL.out] at h; exact h)
    clear hbA hAP
    refine wpAnyH_ready (rs := [8]) (by kernel_rfl) (by simp) ?_
    refine AllReadyH.cons rfl (fun K hK => ?_) AllReadyH.nil
    go_simp
    refine (adConcat_any wd.heap.size 2 [l.take at', l.drop (at' + 1)] _ rfl HAP.out (by simp; have := HN.out; omega) (by omega)).mono ?_
    rintro _ w4 ⟨v4, rfl, hv4, hb4⟩
    have hv5 := hv4.mono HZA.out
    have hb5 := HbA.out.trans (hb4.mono HZA.out)
    refine hK.out _ _ (⟨hHeld.1.later hb4, hb5⟩) (fun hHeld => ?_)
    clear hK K
    try simp only [Act.put, List.setIfInBounds_toArray, List.set_cons_zero, List.set_cons_succ, List.getElem_toArray, List.getElem_cons_zero, List.getElem_cons_succ]
    have HV4 := hid hv5
    have Hb4 := hid hb5
    clear hv4 hb4 hv5 hb5
    refine wpAnyH_take (i := 9) (v := v4) rfl (by kernel_rfl) (by kernel_rfl) (by kernel_rfl) (fun _ _ _ h => h) (Or.inl ⟨by rfl, by intro w hSw; go_simp⟩) hHeld ?_
    try simp only [Act.put, List.setIfInBounds_toArray, List.set_cons_zero, List.set_cons_succ, List.getElem_toArray, List.getElem_cons_zero, List.getElem_cons_succ]
    refine wpAnyH_take (i := 10) (v := .int .i64 0) rfl (by kernel_rfl) (by kernel_rfl) (by kernel_rfl) (fun _ _ _ h => h) (Or.inl ⟨by rfl, by intro w hSw; go_simp⟩) hHeld ?_
    try simp only [Act.put, List.setIfInBounds_toArray, List.set_cons_zero, List.set_cons_succ, List.getElem_toArray, List.getElem_cons_zero, List.getElem_cons_succ]
    refine wpAnyH_done (by kernel_rfl) ?_ _
    go_wp2_with fail
    go_ret2
    exact ⟨v4, by rw [HO.out]; rfl, by rw [HO.out, HL.out, ← HCI.out]; have h := HV4.out; simpa using h, by rw [HL.out]; exact Hb4.out⟩

  · rw [decide_eq_false hm]
    have HO := hid (show ppRem l a = (l, 2) by rw [ppRem, if_neg hm])
    clear hm
    go_wp2_with fail
    refine (adClone_any _ l _ HRA.out (by rw [HN.out]; omega)).mono ?_
    rintro _ w4 ⟨v4, rfl, hv4, hb4⟩
    go_wp2_with fail
    go_ret2
    exact ⟨v4, by rw [HO.out]; rfl, by rw [HO.out, HL.out]; exact hv4.mono HSZ.out, by rw [HL.out]; exact Hb2.out.trans (hb4.mono HSZ.out)⟩

theorem pAdd_any (v : Value) (l : List Ad) (a : Ad) (w : World) (hv : RA w v l) (hok : PpOk l) :
    Calls Try.prog 5 #[v, .agg #[.int .i64 a.1, .int .i64 a.2]] w fun x w' => ∃ ao cap, x = .returned (.tuple #[.slice ao (ppAdd l a).1.length cap, .int .i64 (ppAdd l a).2]) ∧ RA w' (.slice ao (ppAdd l a).1.length cap) (ppAdd l a).1 ∧ Below w.heap.size w w' := by
  refine (pAdd_new v l a w hv hok).mono ?_
  rintro _ w' ⟨v', rfl, h, hb⟩
  obtain ⟨ao, cap, rfl⟩ := h.form
  exact ⟨ao, cap, rfl, h.reads, hb⟩
theorem pRemove_any (v : Value) (l : List Ad) (a : Ad) (w : World) (hv : RA w v l) (hok : PpOk l) :
    Calls Try.prog 9 #[v, .agg #[.int .i64 a.1, .int .i64 a.2]] w fun x w' => ∃ ao cap, x = .returned (.tuple #[.slice ao (ppRem l a).1.length cap, .int .i64 (ppRem l a).2]) ∧ RA w' (.slice ao (ppRem l a).1.length cap) (ppRem l a).1 ∧ Below w.heap.size w w' := by
  refine (pRemove_new v l a w hv hok).mono ?_
  rintro _ w' ⟨v', rfl, h, hb⟩
  obtain ⟨ao, cap, rfl⟩ := h.form
  exact ⟨ao, cap, rfl, h.reads, hb⟩
end Go.Proofs.Ytjedajfemhpogaa

/- The law DeltaSizes: a delta is as long as its numbers and its operation say. -/
import Derived.Test.YtajkjbhfkeakhaaKnown8
import Derived.Test.YtajkjbhfkeakhaaGoodAt8
import Derived.Test.YtajkjbhfkeakhaaDBytes2
import Derived.Test.YtajkjbhfkeakhaaGood8
import Derived.Deep.RegionHeld3
namespace Go.Proofs.Ytajkjbhfkeakhaa
open Go.RowKit
set_option linter.unusedSimpArgs false
set_option linter.unusedVariables false

theorem parts_step (o : List Cp) (j : Nat) (c : Cp) (h : o[j]? = some c) : partsN (o.take (j + 1)) = partsN (o.take j) + (11 + c.s.size) := by
  rw [List.take_add_one, h, partsN_append]
  simp [partsN]

set_option maxRecDepth 100000 in
set_option maxHeartbeats 8000000 in
theorem sizes8_any (d : Dl) (v : Value) (o : List Cp) (hd : d.h.length = 32) (a : Int) (ao : Option Addr) (len cap : Nat) (w : World) (hv : InOp w v o) (hns : NS w ao len) (hcap : len ≤ cap) (hlen : len ≤ 9223372036854775807) :
    Calls Try.prog 6 #[.agg (d.cells v).toArray, .int .i64 a, .slice ao len cap] w fun e w' => e = .returned (.bool true) ∧ Below w.heap.size w w' := by
  obtain ⟨cs, hcs⟩ : ∃ cs, d.cells v = cs := ⟨_, rfl⟩
  rw [hcs]
  have HCS := hid hcs
  have HD := hid hd
  have HNS := hid hns
  have HV := hid hv
  have HI := hid (show (Try.prog.info? 29).map (·.size) = some 40 by kernel_rfl)
  have HZ := hid (show (Try.prog.info? 29).bind (fun i => i.zero.map fun z => z.cells.toList) = some (Dl.zero.cells (.slice none 0 0)) by kernel_rfl)
  have HCL := hid (show cs.length = 40 by rw [← hcs]; exact Dl.len hd)
  have HCW := hid (show ∀ (L : Nat) (wx : World), DW wx 29 L d v → wx.rangeAt L 0 cs from fun L wx h => by rw [← hcs]; exact h.whole)
  obtain ⟨L, hL⟩ : ∃ L, w.heap.size = L := ⟨_, rfl⟩
  clear hcs hd hns hv
  go_enter Try.func6, Try.ntmps6
  go_wp2_with (show wpList _ _ _ (⟨some 3, Op.box _ _, _, _, _, _⟩ :: _) _ _; go_must (refine wpList_box_blk rfl 29 _ rfl cs rfl L hL ?_); intro w1 hB1 hb1 hs1; have HW1 := hid (show DW w1 29 L d v from DW.mk HD.out (by rw [HCS.out]; exact hB1)); clear hB1; replace hb1 := hid hb1)
  refine (known8_any _).mono ?_
  rintro _ w2 ⟨rfl, hb2⟩
  have HW2 := hid (HW1.out.later hb2)
  have Hb2 := hid (show Below L w w2 from hb1.out.trans (hb2.mono (by omega)))
  clear hb1 hb2 HW1 hs1
  go_wp2_with (show wpList _ _ _ (⟨some 12, Op.load _ _, _, _, _, _⟩ :: _) _ _; go_must (refine wpList_load_mid rfl 29 _ rfl L 0 rfl cs _ (HCW.out _ _ HW2.out) Try.underlying29 rfl (by rw [HCL.out]; exact HI.out) ?_))
  have HFC := hid (show Calls Try.prog 10 #[.agg cs.toArray] w2 (fun e w' => e = .returned (.bool (few4S o)) ∧ Below w2.heap.size w2 w') by rw [← HCS.out]; exact few8_any d HD.out v o _ (HV.out.later (by rw [hL]; exact Hb2.out)))
  refine HFC.out.mono ?_
  rintro _ w3 ⟨rfl, hb3⟩
  have HW3 := hid (HW2.out.later hb3)
  have Hb3 := hid (show Below L w w3 from Hb2.out.trans (hb3.mono (by have := Hb2.out.size; omega)))
  clear HFC hb3 HW2 Hb2
  by_cases hfw : few4S o = true
  case neg =>
    rw [show few4S o = false by simpa using hfw]
    go_wp2_with fail
    go_ret
    exact ⟨rfl, by rw [hL]; exact Hb3.out⟩
  rw [hfw]
  clear hfw
  go_upto_region 5 with fail
  obtain ⟨r, hr⟩ : ∃ r : Nat, a % 100 = r := ⟨(a % 100).toNat, by omega⟩
  have hr100 : r ≤ 120 := by omega
  have HR := hid hr
  obtain ⟨g0, hg0⟩ : ∃ g, w3.drew.heap.size = g := ⟨_, rfl⟩
  have hLg0 : L < g0 := by have := HW3.out.blk.lt; rw [← hg0]; exact this
  have HS := hid (show DW w3.drew 29 L d v ∧ Below L w w3.drew from ⟨HW3.out.kept rfl, Hb3.out.drew⟩)
  clear hr HW3 Hb3
  go_cut [7] (fun s w' => GoodAt d v L r w s w')
  case first =>
    refine wp_region_held_drew (S := fun w' => DW w' 29 L d v ∧ Below L w w') (by kernel_rfl) (HS.out) (fun hHeld => ?_)
    refine wpAnyH_take (i := 0) (v := _) rfl (by kernel_rfl) (by kernel_rfl) (by kernel_rfl) (fun _ _ _ h => h) (yieldsIf_load_mid (by rfl) _ _ rfl _ _ rfl cs _ (fun w hSw => (HCW.out _ _ hSw.1)) Try.underlying29 rfl (by rw [HCL.out]; exact HI.out)) hHeld ?_
    try simp only [Act.put, List.setIfInBounds_toArray, List.set_cons_zero, List.set_cons_succ, List.getElem_toArray, List.getElem_cons_zero, List.getElem_cons_succ]
    refine wpAnyH_take (i := 1) (v := .int .i64 a) rfl (by kernel_rfl) (by kernel_rfl) (by kernel_rfl) (fun _ _ _ h => h) (Or.inl ⟨by rfl, by intro w hSw; go_simp⟩) hHeld ?_
    try simp only [Act.put, List.setIfInBounds_toArray, List.set_cons_zero, List.set_cons_succ, List.getElem_toArray, List.getElem_cons_zero, List.getElem_cons_succ]
    refine wpAnyH_take (i := 3) (v := .slice ao len cap) rfl (by kernel_rfl) (by kernel_rfl) (by kernel_rfl) (fun _ _ _ h => h) (Or.inl ⟨by rfl, by intro w hSw; go_simp⟩) hHeld ?_
    try simp only [Act.put, List.setIfInBounds_toArray, List.set_cons_zero, List.set_cons_succ, List.getElem_toArray, List.getElem_cons_zero, List.getElem_cons_succ]
    refine wpAnyH_ready (rs := [2, 5]) (by kernel_rfl) (by simp) ?_
    refine AllReadyH.cons rfl (fun K hK => ?_) (AllReadyH.cons rfl (fun K hK => ?_) (AllReadyH.nil))
    · go_simp
      refine (within8_any a 100 (by omega) (by omega) _).mono ?_
      rintro _ wz ⟨rfl, hwz⟩
      rw [HR.out, hwz]
      clear hwz wz
      refine hK.out _ _ (hHeld) (fun hHeld => ?_)
      clear hK K
      try simp only [Act.put, List.setIfInBounds_toArray, List.set_cons_zero, List.set_cons_succ, List.getElem_toArray, List.getElem_cons_zero, List.getElem_cons_succ]
      refine wpAnyH_ready (rs := [4, 5]) (by kernel_rfl) (by simp) ?_
      refine AllReadyH.cons rfl (fun K hK => ?_) (AllReadyH.cons rfl (fun K hK => ?_) (AllReadyH.nil))
      · go_simp
        refine (good8_at d HD.out v cs HCS.out o _ (HV.out.later (by rw [hL]; exact hHeld.2)).1 r hr100 ao len cap (HNS.out.later (by rw [hL]; exact hHeld.2)) hcap hlen).mono ?_
        rintro _ w4 ⟨v4, o4, ds, hds, rfl, hH4, hb4, hm1, hm2⟩
        have hHeld4 : DW w4 29 L d v ∧ Below L w w4 := ⟨hHeld.1.later hb4, hHeld.2.trans (hb4.mono (by have := hHeld.2.size; omega))⟩
        have HH4 := hid (show HasC w4 g0 v4 o4 from by rw [hg0] at hH4; exact hH4)
        have hs4 : g0 ≤ w4.heap.size := by have := hb4.size; omega
        clear hb4 hH4 hHeld
        have HDS := hid hds
        have HM1 := hid hm1
        have HM2 := hid hm2
        have HLD := hid (show ds.length = 40 by rw [← hds]; exact Dl.len (by exact HD.out))
        have HOD := hid (show ∀ x ∈ ds, x.oneCell' = true by rw [← hds]; exact Dl.one (one4 HH4.out))
        clear hds hm1 hm2
        refine hK.out _ _ (hHeld4) (fun hHeld => ?_)
        clear hK K hHeld4
        try simp only [Act.put, List.setIfInBounds_toArray, List.set_cons_zero, List.set_cons_succ, List.getElem_toArray, List.getElem_cons_zero, List.getElem_cons_succ]
        refine wpAnyH_ready (rs := [5]) (by kernel_rfl) (by simp) ?_
        refine AllReadyH.cons rfl (fun K hK => ?_) (AllReadyH.nil)
        obtain ⟨g4, hg4⟩ : ∃ g4, w4.heap.size = g4 := ⟨_, rfl⟩
        refine Eq.mpr (if_pos (by rfl)) ?_
        refine wp_alloc_blk 29 rfl _ HZ.out g4 hg4 ?_
        intro w5 hB5 hb5 hz5
        have hHeld5 : DW w5 29 L d v ∧ Below L w w5 := ⟨hHeld.1.kept (hb5.block L (by have := hHeld.1.blk.lt; omega)), hHeld.2.trans (hb5.mono (by omega))⟩
        have HS5 := hid (show HasC w5 g0 v4 o4 ∧ ∀ k, blkOf v4 = some k → k ≠ g4 from ⟨HH4.out.later (by rw [hg4]; exact hb5), HH4.out.apart (Or.inr (by omega))⟩)
        have HB5 := hid hB5
        clear hB5 hb5 hHeld
        refine hK.out _ _ (hHeld5) (fun hHeld => ?_)
        clear hK K hHeld5
        try simp only [Act.put, List.setIfInBounds_toArray, List.set_cons_zero, List.set_cons_succ, List.getElem_toArray, List.getElem_cons_zero, List.getElem_cons_succ]
        refine wpAnyH_ready (rs := [6]) (by kernel_rfl) (by simp) ?_
        refine AllReadyH.cons rfl (fun K hK => ?_) (AllReadyH.nil)
        refine Eq.mpr (if_pos (by rfl)) ?_
        refine wp_store_list 29 _ _ rfl g4 0 ds rfl rfl (HB5.out.there (by rw [HLD.out, Dl.len Dl.zero_len]; omega)) (by rw [HLD.out]; exact HI.out) HOD.out ?_
        intro w6 hw6
        have HX := hid (show (DW w6 29 L d v ∧ Below L w w6) ∧ GoodAt d v L r w (.pointer (some ⟨g4, 0, none⟩)) w6 by
          rw [hw6]
          exact goodAt_store HD.out hHeld HB5.out (HS5.out.1) (HS5.out.2) (by omega) (by omega) HDS.out HM1.out HM2.out)
        clear hw6
        refine hK.out _ _ (HX.out.1) (fun hHeld => ?_)
        clear hK K
        try simp only [Act.put, List.setIfInBounds_toArray, List.set_cons_zero, List.set_cons_succ, List.getElem_toArray, List.getElem_cons_zero, List.getElem_cons_succ]
        refine wpAnyH_done (by kernel_rfl) ?_ _
        go_wp2_with fail
        go_meet
        exact HX.out.2
      · refine Eq.mpr (if_pos (by rfl)) ?_
        refine wp_alloc_blk 29 rfl _ HZ.out g0 hg0 ?_
        intro w5 hB5 hb5 hz5
        have hHeld5 : DW w5 29 L d v ∧ Below L w w5 := ⟨hHeld.1.kept (hb5.block L hLg0), hHeld.2.trans (hb5.mono (by omega))⟩
        have HB5 := hid hB5
        clear hB5 hb5 hHeld
        refine hK.out _ _ (hHeld5) (fun hHeld => ?_)
        clear hK K hHeld5
        try simp only [Act.put, List.setIfInBounds_toArray, List.set_cons_zero, List.set_cons_succ, List.getElem_toArray, List.getElem_cons_zero, List.getElem_cons_succ]
        refine wpAnyH_ready (rs := [4]) (by kernel_rfl) (by simp) ?_
        refine AllReadyH.cons rfl (fun K hK => ?_) (AllReadyH.nil)
        go_simp
        refine (good8_at d HD.out v cs HCS.out o _ (HV.out.later (by rw [hL]; exact hHeld.2)).1 r hr100 ao len cap (HNS.out.later (by rw [hL]; exact hHeld.2)) hcap hlen).mono ?_
        rintro _ w4 ⟨v4, o4, ds, hds, rfl, hH4, hb4, hm1, hm2⟩
        have hHeld4 : DW w4 29 L d v ∧ Below L w w4 := ⟨hHeld.1.later hb4, hHeld.2.trans (hb4.mono (by have := hHeld.2.size; omega))⟩
        have HH4 := hid (show HasC w4 (g0 + 1) v4 o4 from by rw [hz5] at hH4; exact hH4)
        have HB4 := hid (HB5.out.later hb4)
        clear hb4 hH4 hHeld
        have HDS := hid hds
        have HM1 := hid hm1
        have HM2 := hid hm2
        have HLD := hid (show ds.length = 40 by rw [← hds]; exact Dl.len (by exact HD.out))
        have HOD := hid (show ∀ x ∈ ds, x.oneCell' = true by rw [← hds]; exact Dl.one (one4 HH4.out))
        clear hds hm1 hm2
        refine hK.out _ _ (hHeld4) (fun hHeld => ?_)
        clear hK K hHeld4
        try simp only [Act.put, List.setIfInBounds_toArray, List.set_cons_zero, List.set_cons_succ, List.getElem_toArray, List.getElem_cons_zero, List.getElem_cons_succ]
        refine wpAnyH_ready (rs := [6]) (by kernel_rfl) (by simp) ?_
        refine AllReadyH.cons rfl (fun K hK => ?_) (AllReadyH.nil)
        refine Eq.mpr (if_pos (by rfl)) ?_
        refine wp_store_list 29 _ _ rfl g0 0 ds rfl rfl (HB4.out.there (by rw [HLD.out, Dl.len Dl.zero_len]; omega)) (by rw [HLD.out]; exact HI.out) HOD.out ?_
        intro w6 hw6
        have HX := hid (show (DW w6 29 L d v ∧ Below L w w6) ∧ GoodAt d v L r w (.pointer (some ⟨g0, 0, none⟩)) w6 by
          rw [hw6]
          exact goodAt_store HD.out hHeld HB4.out (HH4.out) (HH4.out.apart (Or.inl (by omega))) (by omega) (by omega) HDS.out HM1.out HM2.out)
        clear hw6
        refine hK.out _ _ (HX.out.1) (fun hHeld => ?_)
        clear hK K
        try simp only [Act.put, List.setIfInBounds_toArray, List.set_cons_zero, List.set_cons_succ, List.getElem_toArray, List.getElem_cons_zero, List.getElem_cons_succ]
        refine wpAnyH_done (by kernel_rfl) ?_ _
        go_wp2_with fail
        go_meet
        exact HX.out.2
    · refine Eq.mpr (if_pos (by rfl)) ?_
      refine wp_alloc_blk 29 rfl _ HZ.out g0 hg0 ?_
      intro w5 hB5 hb5 hz5
      have hHeld5 : DW w5 29 L d v ∧ Below L w w5 := ⟨hHeld.1.kept (hb5.block L hLg0), hHeld.2.trans (hb5.mono (by omega))⟩
      have HB5 := hid hB5
      clear hB5 hb5 hHeld
      refine hK.out _ _ (hHeld5) (fun hHeld => ?_)
      clear hK K hHeld5
      try simp only [Act.put, List.setIfInBounds_toArray, List.set_cons_zero, List.set_cons_succ, List.getElem_toArray, List.getElem_cons_zero, List.getElem_cons_succ]
      refine wpAnyH_ready (rs := [2]) (by kernel_rfl) (by simp) ?_
      refine AllReadyH.cons rfl (fun K hK => ?_) (AllReadyH.nil)
      go_simp
      refine (within8_any a 100 (by omega) (by omega) _).mono ?_
      rintro _ wz ⟨rfl, hwz⟩
      rw [HR.out, hwz]
      clear hwz wz
      refine hK.out _ _ (hHeld) (fun hHeld => ?_)
      clear hK K
      try simp only [Act.put, List.setIfInBounds_toArray, List.set_cons_zero, List.set_cons_succ, List.getElem_toArray, List.getElem_cons_zero, List.getElem_cons_succ]
      refine wpAnyH_ready (rs := [4]) (by kernel_rfl) (by simp) ?_
      refine AllReadyH.cons rfl (fun K hK => ?_) (AllReadyH.nil)
      go_simp
      refine (good8_at d HD.out v cs HCS.out o _ (HV.out.later (by rw [hL]; exact hHeld.2)).1 r hr100 ao len cap (HNS.out.later (by rw [hL]; exact hHeld.2)) hcap hlen).mono ?_
      rintro _ w4 ⟨v4, o4, ds, hds, rfl, hH4, hb4, hm1, hm2⟩
      have hHeld4 : DW w4 29 L d v ∧ Below L w w4 := ⟨hHeld.1.later hb4, hHeld.2.trans (hb4.mono (by have := hHeld.2.size; omega))⟩
      have HH4 := hid (show HasC w4 (g0 + 1) v4 o4 from by rw [hz5] at hH4; exact hH4)
      have HB4 := hid (HB5.out.later hb4)
      clear hb4 hH4 hHeld
      have HDS := hid hds
      have HM1 := hid hm1
      have HM2 := hid hm2
      have HLD := hid (show ds.length = 40 by rw [← hds]; exact Dl.len (by exact HD.out))
      have HOD := hid (show ∀ x ∈ ds, x.oneCell' = true by rw [← hds]; exact Dl.one (one4 HH4.out))
      clear hds hm1 hm2
      refine hK.out _ _ (hHeld4) (fun hHeld => ?_)
      clear hK K hHeld4
      try simp only [Act.put, List.setIfInBounds_toArray, List.set_cons_zero, List.set_cons_succ, List.getElem_toArray, List.getElem_cons_zero, List.getElem_cons_succ]
      refine wpAnyH_ready (rs := [6]) (by kernel_rfl) (by simp) ?_
      refine AllReadyH.cons rfl (fun K hK => ?_) (AllReadyH.nil)
      refine Eq.mpr (if_pos (by rfl)) ?_
      refine wp_store_list 29 _ _ rfl g0 0 ds rfl rfl (HB4.out.there (by rw [HLD.out, Dl.len Dl.zero_len]; omega)) (by rw [HLD.out]; exact HI.out) HOD.out ?_
      intro w6 hw6
      have HX := hid (show (DW w6 29 L d v ∧ Below L w w6) ∧ GoodAt d v L r w (.pointer (some ⟨g0, 0, none⟩)) w6 by
        rw [hw6]
        exact goodAt_store HD.out hHeld HB4.out (HH4.out) (HH4.out.apart (Or.inl (by omega))) (by omega) (by omega) HDS.out HM1.out HM2.out)
      clear hw6
      refine hK.out _ _ (HX.out.1) (fun hHeld => ?_)
      clear hK K
      try simp only [Act.put, List.setIfInBounds_toArray, List.set_cons_zero, List.set_cons_succ, List.getElem_toArray, List.getElem_cons_zero, List.getElem_cons_succ]
      refine wpAnyH_done (by kernel_rfl) ?_ _
      go_wp2_with fail
      go_meet
      exact HX.out.2
  case rest =>
  obtain ⟨g, v7, o7, rfl, hG, hC, hW7, hb7, hm1, hm2⟩ := hcut
  have HG := hid hG
  have HC := hid hC
  have HW7 := hid hW7
  have Hb7 := hid hb7
  have HP := hid (good_plain hm1 hm2)
  clear hG hC hW7 hb7 hg0 hLg0
  obtain ⟨a7, c7, rfl⟩ := HC.out.form
  obtain ⟨c0, c1, c2, c3, c36, c37, c38, c39⟩ := HG.out.cells
  clear c0 c1 c2 c3 c36 c38 c39
  have HLE := hid (show ∀ j, partsN (o7.take j) ≤ 8050 from fun j => (HP.out.few.take j).le)
  have hl7 : o7.length ≤ 40 := HP.out.len
  go_wp2_with fail
  go_loopw [8, 9] (fun sz i wr => ∃ j : Nat, j ≤ o7.length ∧ i = .int .i64 j ∧ sz = .int .i64 ((1 + partsN (o7.take j) : Nat) : Int) ∧ wr = wc) (fun _ i _ => o7.length - (intOf i).toNat)
  case atStart => exact ⟨0, Nat.zero_le _, rfl, rfl, rfl⟩
  case round =>
    obtain ⟨j, hj, rfl, rfl, hw⟩ := hrel
    subst wr
    by_cases hlt : j < o7.length
    · have hlt' : (j : Int) < (o7.length : Int) := by omega
      obtain ⟨c, hc⟩ : ∃ c, o7[j]? = some c := ⟨_, List.getElem?_eq_getElem hlt⟩
      obtain ⟨g2, off, cap', e, hcap2, hr2, hg2⟩ := HC.out.reads.place (by omega)
      injection e with e1 e2 e3
      subst e1 e3
      obtain ⟨c0, c1, c2⟩ := RC.cells hr2 hc
      have hsz : c.s.size ≤ 150 := HP.out.few.2 c (List.mem_of_getElem? hc)
      have HN := hid (parts_step o7 j c hc)
      obtain ⟨P, hP⟩ : ∃ P, partsN (o7.take j) = P := ⟨_, rfl⟩
      have hP2 : P ≤ 8050 := by rw [← hP]; exact HLE.out j
      rw [hP] at HN ⊢
      clear hr2 hc e2 c0 c1 hP
      go_wp2_with fail
      go_roundw
      case rel => exact ⟨j + 1, by omega, by go_num, congrArg (Value.int .i64) (show (_ : Int) = _ by rw [HN.out]; omega), trivial⟩
      case measure => simp [intOf]; omega
    · have hj2 : j = o7.length := by omega
      subst hj2
      rw [List.take_length]
      obtain ⟨S1, hS1⟩ : ∃ S1, 1 + partsN o7 = S1 := ⟨_, rfl⟩
      have hS2 : S1 ≤ 8051 := by have := HLE.out o7.length; rw [List.take_length] at this; omega
      rw [hS1]
      go_wp2_with fail
      refine (opBytes_any _ o7 _ HC.out.reads HP.out.few).mono ?_
      rintro _ w8 ⟨g8, c8, rfl, hg8, hO8, hb8⟩
      rw [hS1]
      have HG8 := hid (HG.out.later hb8)
      have HC8 := hid (HC.out.later hb8)
      have Hb8 := hid (show Below L w w8 from Hb7.out.trans (hb8.mono (by have := Hb7.out.size; omega)))
      obtain ⟨es, hes⟩ : ∃ es, (goodD d).cells (.slice a7 o7.length c7) = es := ⟨_, rfl⟩
      have HBC := hid (show Calls Try.prog 13 #[.agg es.toArray] w8 (fun e w' => ∃ g cap, e = .returned (.slice (some ⟨g, 0, none⟩) (84 + partsN o7) cap) ∧ Below w8.heap.size w8 w') by
        rw [← hes]
        refine (dBytes_any (goodD d) HD.out _ o7 _ HC8.out.reads HP.out.few).mono ?_
        rintro _ _ ⟨g', cap', h1, _, _, h2⟩
        exact ⟨g', cap', h1, h2⟩)
      have HER := hid (show w8.rangeAt g 0 es by rw [← hes]; exact HG8.out.whole)
      have HEL := hid (show es.length = 40 by rw [← hes]; exact Dl.len (by exact HD.out))
      clear hg8 hO8 hb8 hes HG HC HW7 Hb7 HG8 HC8 c37
      go_wp2_with (show wpList _ _ _ (⟨some 46, Op.load _ _, _, _, _, _⟩ :: _) _ _; go_must (refine wpList_load_asked (by first | rfl | go_simp) 29 _ rfl g 0 rfl es _ HER.out Try.underlying29 rfl (by rw [HEL.out]; exact HI.out) ?_))
      refine HBC.out.mono ?_
      rintro _ w9 ⟨g9, c9, rfl, hb9⟩
      have Hb9 := hid (show Below L w w9 from Hb8.out.trans (hb9.mono (by have := Hb8.out.size; omega)))
      obtain ⟨S3, hS3⟩ : ∃ S3, 84 + partsN o7 = S3 := ⟨_, rfl⟩
      rw [hS3]
      have hS4 : (S3 : Int) = 67 + (S1 : Int) + 16 := by omega
      clear hb9 HBC HER HEL hS1 hS3
      go_wp2_with fail
      go_ret
      exact ⟨by simp [hS4], by rw [hL]; exact Hb9.out⟩

theorem sizes8_row (w : World) (d : Dl) (v : Value) (o : List Cp) (hd : d.h.length = 32) (hv : InOp w v o) (_wf : d.Wf) (a : Int) (wa : (Lit.int .i64 a).wf = true) (ao : Option Addr) (len cap : Nat) (zs : List Int) (h : IsRow .i64 w ao len cap zs) (_u : World) :
    Calls Try.prog 6 #[.agg (d.cells v).toArray, .int .i64 a, .slice ao len cap] w fun e w' => e = .returned (.bool true) ∧ Below w.heap.size w w' :=
  sizes8_any d v o hd a ao len cap w hv (ns_of_row h) (row_cap h) (len_of_row h)
end Go.Proofs.Ytajkjbhfkeakhaa

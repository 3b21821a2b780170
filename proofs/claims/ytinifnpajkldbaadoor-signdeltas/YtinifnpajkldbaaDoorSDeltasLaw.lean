/- The law SignDeltas: any valid delta is signed as the document says, and opened; with a byte turned, or by other keys, it is opened, or refused, as it says. -/
import Derived.Test.YtinifnpajkldbaaDoorQ9b44
import Derived.Test.YtinifnpajkldbaaDoorQ9b51
import Derived.Test.YtinifnpajkldbaaDoorQ9b52
import Derived.Test.YtinifnpajkldbaaDoorPk24
import Derived.Test.YtinifnpajkldbaaDoorPk25
import Derived.Test.YtinifnpajkldbaaDoorPk19
import Derived.Deep.RegionHeld3
import Derived.Deep.DeepCutAuto
namespace Go.Proofs.YtinifnpajkldbaaDoor
open Go.RowKit
set_option linter.unusedSimpArgs false
set_option linter.unusedVariables false

theorem byte_add9 (x y : UInt8) : IntKind.u8.wrap ((x.toNat : Int) + (y.toNat : Int)) = ((x + y).toNat : Int) := by
  rw [UInt8.toNat_add, IntKind.wrap_u8]
  omega
theorem byte_in8 {l : List UInt8} {n i : Nat} (hl : l.length = n) (hi : i < n) : ∃ x : UInt8, (B l)[i]? = some (.int .u8 x.toNat) := by
  refine ⟨l[i]'(by omega), ?_⟩
  rw [B_get, List.getElem?_eq_getElem (by omega)]
  rfl
theorem sgC_put (b : Value) (m : List UInt8) (i : Nat) (y : UInt8) : (sgC b m).set (1 + i) (.int .u8 y.toNat) = sgC b (m.set i y) := by
  rw [sgC, Nat.add_comm 1 i, List.set_cons_succ, sgC]
  simp [B, List.map_set]

theorem list3 {l : List Value} (h : l.length = 3) : ∃ a b c, l = [a, b, c] := by
  match l, h with
  | [a, b, c], _ => exact ⟨a, b, c, rfl⟩

set_option maxRecDepth 100000 in
set_option maxHeartbeats 16000000 in
theorem sdeltas_any (key : List UInt8) (ko : Option Addr) (kl kc0 : Nat) (hkl : key.length = kl) (hklc : kl ≤ kc0) (hkc : kc0 ≤ maxLen) (d : Dl) (v : Value) (o : List Cp) (hd : d.h.length = 32) (n0 : Int) (ao : Option Addr) (len cap : Nat) (at0 : Int) (by_ : UInt8) (other : List UInt8) (oo : Option Addr) (ol oc0 : Nat) (hol : other.length = ol) (holc : ol ≤ oc0) (hocc : oc0 ≤ maxLen) (w : World) (ht : Tabs w)
    (hkey : Reads w (.slice ko kl kc0) (B key)) (hv : InOp w v o) (hns : NS w ao len) (hcap : len ≤ cap) (hlen : len ≤ 9223372036854775807) (hoth : Reads w (.slice oo ol oc0) (B other)) :
    Calls Tryd.prog 3 #[.slice ko kl kc0, .agg (d.cells v).toArray, .int .i64 n0, .slice ao len cap, .int .i64 at0, .int .u8 by_.toNat, .slice oo ol oc0] w fun e w' => e = .returned (.bool true) ∧ Below w.heap.size w w' := by
  obtain ⟨L, hL⟩ : ∃ L, w.heap.size = L := ⟨_, rfl⟩
  have hL2 : 2 ≤ L := by rw [← hL]; exact ht.two
  have HTB := hid (show ∀ wx, Below L w wx → Tabs wx from fun wx h => ht.below h hL2)
  have HRK := hid hkey
  have HKL := hid hkl
  have HRO := hid hoth
  have HOL := hid hol
  have HD := hid hd
  have HV := hid hv
  have HNS := hid hns
  obtain ⟨cs, hcs⟩ : ∃ cs, d.cells v = cs := ⟨_, rfl⟩
  have HCS := hid hcs
  have HCL := hid (show cs.length = 40 by rw [← hcs]; exact Dl.len hd)
  obtain ⟨KY, hKY⟩ : ∃ KY, keyS key = KY := ⟨_, rfl⟩
  have HKY := hid hKY
  obtain ⟨KO, hKO⟩ : ∃ KO, keyS other = KO := ⟨_, rfl⟩
  have HKO := hid hKO
  have HI := hid (show (Tryd.prog.info? 30).map (·.size) = some 40 by kernel_rfl)
  have HIK := hid (show (Tryd.prog.info? 35).map (·.size) = some 3 by kernel_rfl)
  have HIS := hid (show (Tryd.prog.info? 40).map (·.size) = some 33 by kernel_rfl)
  have HIH := hid (show (Tryd.prog.info? 26).map (·.size) = some 32 by kernel_rfl)
  obtain ⟨zs, hzs⟩ : ∃ zs, Dl.zero.cells (.slice none 0 0) = zs := ⟨_, rfl⟩
  have HZ := hid (show (Tryd.prog.info? 30).bind (fun i => i.zero.map fun z => z.cells.toList) = some zs by rw [← hzs]; kernel_rfl)
  have HZL := hid (show zs.length = 40 by rw [← hzs]; exact Dl.len Dl.zero_len)
  have HZK := hid (show (Tryd.prog.info? 35).bind (fun i => i.zero.map fun z => z.cells.toList) = some [.slice none 0 0, .slice none 0 0, .slice none 0 0] by kernel_rfl)
  obtain ⟨z9, hz9⟩ : ∃ zs, sgC (.slice none 0 0) (List.replicate 32 0) = zs := ⟨_, rfl⟩
  have HZS := hid (show (Tryd.prog.info? 40).bind (fun i => i.zero.map fun z => z.cells.toList) = some z9 by rw [← hz9]; kernel_rfl)
  have HZSL := hid (show z9.length = 33 by rw [← hz9]; exact sgC_len (by simp))
  have HFC := hid (show ∀ wx, Below L w wx → Calls Tryd.prog 9 #[.agg cs.toArray] wx (fun e w' => e = .returned (.bool (few4S o)) ∧ Below wx.heap.size wx w') from fun wx h => by
    rw [← hcs]
    exact few8_any d hd v o wx (hv.later (by rw [hL]; exact h)))
  rw [hcs]
  clear ht hkey hkl hcs hKY hKO hzs hd hv hns hz9 hol hoth
  go_enter Tryd.func3, Tryd.ntmps3
  go_wp2_with (show wpList _ _ _ (⟨some 8, Op.box _ _, _, _, _, _⟩ :: _) _ _; go_must (refine wpList_box_blk rfl 30 _ rfl cs rfl L hL ?_); intro w1 hB1 hb1 hs1; have HB1 := hid hB1; have Hb1 := hid hb1; clear hB1 hb1)
  -- CALL0
  refine (known9_any _ (HTB.out _ Hb1.out)).mono ?_
  rintro _ w2 ⟨rfl, hb2⟩
  have HB2 := hid (HB1.out.later hb2)
  have Hb2 := hid (show Below L w w2 from Hb1.out.trans (hb2.mono (by omega)))
  clear hb2 HB1 Hb1 hs1
  go_wp2_with (show wpList _ _ _ (⟨some 30, Op.load _ _, _, _, _, _⟩ :: _) _ _; go_must (refine wpList_load_mid rfl 30 _ rfl L 0 rfl cs _ (HB2.out.range fun j v hv => by rw [Nat.zero_add]; exact hv) Tryd.underlying30 rfl (by rw [HCL.out]; exact HI.out) ?_))
  refine (HFC.out _ Hb2.out).mono ?_
  rintro _ w3 ⟨rfl, hb3⟩
  have HB3 := hid (HB2.out.later hb3)
  have hL2s : L < w2.heap.size := HB2.out.lt
  have Hb3 := hid (show Below L w w3 from Hb2.out.trans (hb3.mono (by omega)))
  clear hb3 HB2 Hb2 hL2s HFC
  by_cases hfw : few4S o = true
  case neg =>
    rw [show few4S o = false by simpa using hfw]
    go_wp2_with fail
    go_ret
    exact ⟨rfl, by first | exact Hb3.out | (rw [hL]; exact Hb3.out)⟩
  rw [hfw]
  clear hfw
  go_wp2_with fail
  -- CALL1
  refine (keys9_any key ko kl kc0 HKL.out hklc hkc _ (HRK.out.later (by rw [hL]; exact Hb3.out))).mono ?_
  rintro _ w4 ⟨ks, rfl, hKW, hK1, hKB, hb4⟩
  rw [HKY.out] at hKW
  have HKW4 := hid hKW
  have HK1 := hid hK1
  have HKL3 := hid hKW.len
  have hLs : L < w3.heap.size := HB3.out.lt
  have HB4 := hid (HB3.out.later hb4)
  have Hb4 := hid (show Below L w w4 from Hb3.out.trans (hb4.mono (by omega)))
  obtain ⟨G, hG⟩ : ∃ G, w4.heap.size = G := ⟨_, rfl⟩
  have HG := hid hG
  have hGL : L < G := by rw [← hG]; exact HB4.out.lt
  clear hKW hK1 hKB hb4 HB3 Hb3 hLs
  go_upto_region 6 with (first
    | (show wpList _ _ _ (⟨some 15, Op.alloc _, _, _, _, _⟩ :: _) _ _; go_must (refine wpList_alloc_blk rfl 35 rfl _ HZK.out G hG ?_); intro w5 hB5 hb5 hs5; have HB5 := hid hB5; have Hb5 := hid hb5; clear hB5 hb5)
    | (show wpList _ _ _ (⟨none, Op.store _ (Operand.tmp 15) (Operand.tmp 34), _, _, _, _⟩ :: _) _ _; go_must (refine wpList_store_list rfl 35 _ _ rfl G 0 ks rfl rfl (HB5.out.there (by rw [HKL3.out]; simp)) (by rw [HKL3.out]; exact HIK.out) HK1.out ?_); intro w6 hw6; have HX6 := hid (show Blk w6 35 G ks ∧ Below G w4 w6 by rw [hw6]; exact ⟨by have h3 := Blk.setCells ks [] [.slice none 0 0, .slice none 0 0, .slice none 0 0] [] (o := 0) (by simpa using HB5.out) (by rw [HKL3.out]; rfl) rfl; simpa using h3, below_setCells (by omega) _ _ Hb5.out⟩); clear hw6 HB5 Hb5))
  -- REGION6
  have hbG : Below G w4 w6.drew := HX6.out.2.drew
  have hKd : Blk w6.drew 35 G ks := HX6.out.1.drewN 1
  have hGd : G < w6.drew.heap.size := HX6.out.1.lt
  clear hs5 HX6
  generalize hwd : w6.drew = wd at *
  obtain ⟨T, hT⟩ : ∃ T, wd.heap.size = T := ⟨_, rfl⟩
  have HTS := hid hT
  have hGT : G < T := by rw [← hT]; exact hGd
  have HS := hid (show HK L T w [(30, L, cs), (35, G, ks)] wd from HK.cons (HK.cons (HK.nil (by omega) (Hb4.out.trans (hbG.mono (by omega))) (by omega)) hKd (by omega)) (HB4.out.later (by rw [HG.out]; exact hbG)) (by omega))
  have HKW := hid (show KW wd ks KY from HKW4.out.later (by rw [HG.out]; exact hbG))
  obtain ⟨r, hr⟩ : ∃ r : Nat, n0 % 100 = (r : Int) := ⟨(n0 % 100).toNat, by omega⟩
  have HR := hid hr
  have hr100 : r ≤ 120 := by omega
  clear hr hT hbG hKd hGd HKW4 HB4 Hb4 hG HG
  try simp only [Act.put, List.setIfInBounds_toArray, List.set_cons_zero, List.set_cons_succ, List.getElem_toArray, List.getElem_cons_zero, List.getElem_cons_succ]
  go_cut [16] (fun s w' => ∃ X v7 o7 gs, s = .pointer (some ⟨X, 0, none⟩) ∧ (goodD d).cells v7 = gs ∧ Blk w' 30 X gs ∧ HasC w' T v7 o7 ∧ (∀ k, blkOf v7 = some k → k ≠ X) ∧ T ≤ X ∧ (HK L T w [(30, L, cs), (35, G, ks)] w' ∧ Below T wd w') ∧ (d.k % 3 = 0 → Made r o7) ∧ (d.k % 3 ≠ 0 → o7 = []))
  case first =>
    refine wp_region_held_drew (S := fun w' => HK L T w [(30, L, cs), (35, G, ks)] w' ∧ Below T wd w') (by kernel_rfl) ((by rw [hwd]; exact ⟨HS.out, Below.refl _ _⟩)) (fun hHeld => ?_)
    rw [hwd] at hHeld ⊢
    clear hwd
    refine wpAnyH_take (i := 0) (v := _) rfl (by kernel_rfl) (by kernel_rfl) (by kernel_rfl) (fun _ _ _ h => h) (yieldsIf_load_mid (by rfl) _ _ rfl _ _ rfl cs _ (fun w hSw => (hSw.1.fst.range fun j v hv => by rw [Nat.zero_add]; exact hv)) Tryd.underlying30 rfl (by rw [HCL.out]; exact HI.out)) hHeld ?_
    try simp only [Act.put, List.setIfInBounds_toArray, List.set_cons_zero, List.set_cons_succ, List.getElem_toArray, List.getElem_cons_zero, List.getElem_cons_succ]
    refine wpAnyH_take (i := 1) (v := .int .i64 n0) rfl (by kernel_rfl) (by kernel_rfl) (by kernel_rfl) (fun _ _ _ h => h) (Or.inl ⟨by rfl, by intro w hSw; go_simp⟩) hHeld ?_
    try simp only [Act.put, List.setIfInBounds_toArray, List.set_cons_zero, List.set_cons_succ, List.getElem_toArray, List.getElem_cons_zero, List.getElem_cons_succ]
    refine wpAnyH_take (i := 3) (v := .slice ao len cap) rfl (by kernel_rfl) (by kernel_rfl) (by kernel_rfl) (fun _ _ _ h => h) (Or.inl ⟨by rfl, by intro w hSw; go_simp⟩) hHeld ?_
    try simp only [Act.put, List.setIfInBounds_toArray, List.set_cons_zero, List.set_cons_succ, List.getElem_toArray, List.getElem_cons_zero, List.getElem_cons_succ]
    refine wpAnyH_ready (rs := [2, 5]) (by kernel_rfl) (by simp) ?_
    refine AllReadyH.cons rfl (fun K hK => ?_) (AllReadyH.cons rfl (fun K hK => ?_) (AllReadyH.nil))
    · go_simp
      refine (within9_any n0 100 (by omega) (by omega) _).mono ?_
      rintro _ wz ⟨rfl, hwz⟩
      rw [HR.out, hwz]
      clear hwz wz
      refine hK.out _ _ (hHeld) (fun hHeld => ?_)
      clear hK K
      try simp only [Act.put, List.setIfInBounds_toArray, List.set_cons_zero, List.set_cons_succ, List.getElem_toArray, List.getElem_cons_zero, List.getElem_cons_succ]
      refine wpAnyH_ready (rs := [4, 5]) (by kernel_rfl) (by simp) ?_
      refine AllReadyH.cons rfl (fun K hK => ?_) (AllReadyH.cons rfl (fun K hK => ?_) (AllReadyH.nil))
      · go_simp
        refine (good8_at d HD.out v cs HCS.out o _ (HV.out.later (by rw [hL]; exact hHeld.1.bel)).1 r hr100 ao len cap (HNS.out.later (by rw [hL]; exact hHeld.1.bel)) hcap hlen).mono ?_
        rintro _ y1 ⟨v7, o7, gs, hgs, rfl, hH7, hb7, hm1, hm2⟩
        have hge : T ≤ wd.heap.size := hHeld.1.size
        have HGS := hid hgs
        have HM1 := hid hm1
        have HM2 := hid hm2
        have HGL := hid (show gs.length = 40 by rw [← hgs]; exact Dl.len (by exact HD.out))
        have HGO := hid (show ∀ x ∈ gs, x.oneCell' = true by rw [← hgs]; exact Dl.one (one9 hH7))
        have HH7 := hid hH7
        have hbo : ∀ k, blkOf v7 = some k → wd.heap.size ≤ k ∧ k < y1.heap.size := fun k hk => ⟨HH7.out.ge9 hk, HasK.blk HH7.out hk⟩
        refine hK.out _ _ (⟨hHeld.1.later hb7, hHeld.2.trans (hb7.mono hHeld.1.size)⟩) (fun hHeld => ?_)
        clear hK K hgs hm1 hm2 hH7 hb7
        try simp only [Act.put, List.setIfInBounds_toArray, List.set_cons_zero, List.set_cons_succ, List.getElem_toArray, List.getElem_cons_zero, List.getElem_cons_succ]
        refine wpAnyH_ready (rs := [5]) (by kernel_rfl) (by simp) ?_
        refine AllReadyH.cons rfl (fun K hK => ?_) (AllReadyH.nil)
        obtain ⟨X, hX⟩ : ∃ g, y1.heap.size = g := ⟨_, rfl⟩
        refine Eq.mpr (if_pos (by rfl)) ?_
        refine wp_alloc_blk 30 rfl _ HZ.out X hX ?_
        intro y2 hB12 hb12 hs12
        have hTX : T ≤ X := by have := hHeld.1.size; omega
        have hbl : Below y1.heap.size y1 y2 := by rw [hX]; exact hb12
        have HX0 := hid hB12
        have HH7 := hid (HH7.out.later hbl)
        refine hK.out _ _ (⟨hHeld.1.later hbl, hHeld.2.trans (hbl.mono hHeld.1.size)⟩) (fun hHeld => ?_)
        clear hK K hB12 hb12 hbl
        try simp only [Act.put, List.setIfInBounds_toArray, List.set_cons_zero, List.set_cons_succ, List.getElem_toArray, List.getElem_cons_zero, List.getElem_cons_succ]
        refine wpAnyH_ready (rs := [6]) (by kernel_rfl) (by simp) ?_
        refine AllReadyH.cons rfl (fun K hK => ?_) (AllReadyH.nil)
        refine Eq.mpr (if_pos (by rfl)) ?_
        refine wp_store_list 30 _ _ rfl X 0 gs rfl rfl (HX0.out.there (by rw [HGL.out, HZL.out]; omega)) (by rw [HGL.out]; exact HI.out) HGO.out ?_
        intro yy hyy
        have hne : ∀ k, blkOf v7 = some k → k ≠ X := fun k hk => by have := hbo k hk; omega
        have HX := hid (show Blk yy 30 X gs ∧ Below T y2 yy ∧ HasC yy T v7 o7 from by
          rw [hyy]
          refine ⟨by have h3 := Blk.setCells gs [] zs [] (o := 0) (by simpa using HX0.out) (by rw [HGL.out, HZL.out]) rfl; simpa using h3, below_setCells hTX _ _ (Below.refl _ _), ?_⟩
          exact (HH7.out.mono hge).kept9 fun k hk => setCells_heap (hne k hk) gs 0 _)
        clear hyy
        refine hK.out _ _ (⟨hHeld.1.above9 HX.out.2.1, hHeld.2.trans HX.out.2.1⟩) (fun hHeld => ?_)
        clear hK K
        try simp only [Act.put, List.setIfInBounds_toArray, List.set_cons_zero, List.set_cons_succ, List.getElem_toArray, List.getElem_cons_zero, List.getElem_cons_succ]
        refine wpAnyH_done (by kernel_rfl) ?_ _
        go_wp2_with fail
        go_meet
        exact ⟨X, v7, o7, gs, rfl, HGS.out, HX.out.1, HX.out.2.2, hne, hTX, hHeld, HM1.out, HM2.out⟩
      · obtain ⟨X, hX⟩ : ∃ g, wd.heap.size = g := ⟨_, rfl⟩
        refine Eq.mpr (if_pos (by rfl)) ?_
        refine wp_alloc_blk 30 rfl _ HZ.out X hX ?_
        intro y1 hB12 hb12 hs12
        have hTX : T ≤ X := by have := hHeld.1.size; omega
        have hbl : Below wd.heap.size wd y1 := by rw [hX]; exact hb12
        have HX0 := hid hB12
        refine hK.out _ _ (⟨hHeld.1.later hbl, hHeld.2.trans (hbl.mono hHeld.1.size)⟩) (fun hHeld => ?_)
        clear hK K hB12 hb12 hbl
        try simp only [Act.put, List.setIfInBounds_toArray, List.set_cons_zero, List.set_cons_succ, List.getElem_toArray, List.getElem_cons_zero, List.getElem_cons_succ]
        refine wpAnyH_ready (rs := [4]) (by kernel_rfl) (by simp) ?_
        refine AllReadyH.cons rfl (fun K hK => ?_) (AllReadyH.nil)
        go_simp
        refine (good8_at d HD.out v cs HCS.out o _ (HV.out.later (by rw [hL]; exact hHeld.1.bel)).1 r hr100 ao len cap (HNS.out.later (by rw [hL]; exact hHeld.1.bel)) hcap hlen).mono ?_
        rintro _ y2 ⟨v7, o7, gs, hgs, rfl, hH7, hb7, hm1, hm2⟩
        have hge : T ≤ y1.heap.size := hHeld.1.size
        have HGS := hid hgs
        have HM1 := hid hm1
        have HM2 := hid hm2
        have HGL := hid (show gs.length = 40 by rw [← hgs]; exact Dl.len (by exact HD.out))
        have HGO := hid (show ∀ x ∈ gs, x.oneCell' = true by rw [← hgs]; exact Dl.one (one9 hH7))
        have HH7 := hid hH7
        have hbo : ∀ k, blkOf v7 = some k → y1.heap.size ≤ k ∧ k < y2.heap.size := fun k hk => ⟨HH7.out.ge9 hk, HasK.blk HH7.out hk⟩
        have HX0 := hid (HX0.out.later hb7)
        refine hK.out _ _ (⟨hHeld.1.later hb7, hHeld.2.trans (hb7.mono hHeld.1.size)⟩) (fun hHeld => ?_)
        clear hK K hgs hm1 hm2 hH7 hb7
        try simp only [Act.put, List.setIfInBounds_toArray, List.set_cons_zero, List.set_cons_succ, List.getElem_toArray, List.getElem_cons_zero, List.getElem_cons_succ]
        refine wpAnyH_ready (rs := [6]) (by kernel_rfl) (by simp) ?_
        refine AllReadyH.cons rfl (fun K hK => ?_) (AllReadyH.nil)
        refine Eq.mpr (if_pos (by rfl)) ?_
        refine wp_store_list 30 _ _ rfl X 0 gs rfl rfl (HX0.out.there (by rw [HGL.out, HZL.out]; omega)) (by rw [HGL.out]; exact HI.out) HGO.out ?_
        intro yy hyy
        have hne : ∀ k, blkOf v7 = some k → k ≠ X := fun k hk => by have := hbo k hk; omega
        have HX := hid (show Blk yy 30 X gs ∧ Below T y2 yy ∧ HasC yy T v7 o7 from by
          rw [hyy]
          refine ⟨by have h3 := Blk.setCells gs [] zs [] (o := 0) (by simpa using HX0.out) (by rw [HGL.out, HZL.out]) rfl; simpa using h3, below_setCells hTX _ _ (Below.refl _ _), ?_⟩
          exact (HH7.out.mono hge).kept9 fun k hk => setCells_heap (hne k hk) gs 0 _)
        clear hyy
        refine hK.out _ _ (⟨hHeld.1.above9 HX.out.2.1, hHeld.2.trans HX.out.2.1⟩) (fun hHeld => ?_)
        clear hK K
        try simp only [Act.put, List.setIfInBounds_toArray, List.set_cons_zero, List.set_cons_succ, List.getElem_toArray, List.getElem_cons_zero, List.getElem_cons_succ]
        refine wpAnyH_done (by kernel_rfl) ?_ _
        go_wp2_with fail
        go_meet
        exact ⟨X, v7, o7, gs, rfl, HGS.out, HX.out.1, HX.out.2.2, hne, hTX, hHeld, HM1.out, HM2.out⟩
    · obtain ⟨X, hX⟩ : ∃ g, wd.heap.size = g := ⟨_, rfl⟩
      refine Eq.mpr (if_pos (by rfl)) ?_
      refine wp_alloc_blk 30 rfl _ HZ.out X hX ?_
      intro y1 hB12 hb12 hs12
      have hTX : T ≤ X := by have := hHeld.1.size; omega
      have hbl : Below wd.heap.size wd y1 := by rw [hX]; exact hb12
      have HX0 := hid hB12
      refine hK.out _ _ (⟨hHeld.1.later hbl, hHeld.2.trans (hbl.mono hHeld.1.size)⟩) (fun hHeld => ?_)
      clear hK K hB12 hb12 hbl
      try simp only [Act.put, List.setIfInBounds_toArray, List.set_cons_zero, List.set_cons_succ, List.getElem_toArray, List.getElem_cons_zero, List.getElem_cons_succ]
      refine wpAnyH_ready (rs := [2]) (by kernel_rfl) (by simp) ?_
      refine AllReadyH.cons rfl (fun K hK => ?_) (AllReadyH.nil)
      go_simp
      refine (within9_any n0 100 (by omega) (by omega) _).mono ?_
      rintro _ wz ⟨rfl, hwz⟩
      rw [HR.out, hwz]
      clear hwz wz
      refine hK.out _ _ (hHeld) (fun hHeld => ?_)
      clear hK K
      try simp only [Act.put, List.setIfInBounds_toArray, List.set_cons_zero, List.set_cons_succ, List.getElem_toArray, List.getElem_cons_zero, List.getElem_cons_succ]
      refine wpAnyH_ready (rs := [4]) (by kernel_rfl) (by simp) ?_
      refine AllReadyH.cons rfl (fun K hK => ?_) (AllReadyH.nil)
      go_simp
      refine (good8_at d HD.out v cs HCS.out o _ (HV.out.later (by rw [hL]; exact hHeld.1.bel)).1 r hr100 ao len cap (HNS.out.later (by rw [hL]; exact hHeld.1.bel)) hcap hlen).mono ?_
      rintro _ y2 ⟨v7, o7, gs, hgs, rfl, hH7, hb7, hm1, hm2⟩
      have hge : T ≤ y1.heap.size := hHeld.1.size
      have HGS := hid hgs
      have HM1 := hid hm1
      have HM2 := hid hm2
      have HGL := hid (show gs.length = 40 by rw [← hgs]; exact Dl.len (by exact HD.out))
      have HGO := hid (show ∀ x ∈ gs, x.oneCell' = true by rw [← hgs]; exact Dl.one (one9 hH7))
      have HH7 := hid hH7
      have hbo : ∀ k, blkOf v7 = some k → y1.heap.size ≤ k ∧ k < y2.heap.size := fun k hk => ⟨HH7.out.ge9 hk, HasK.blk HH7.out hk⟩
      have HX0 := hid (HX0.out.later hb7)
      refine hK.out _ _ (⟨hHeld.1.later hb7, hHeld.2.trans (hb7.mono hHeld.1.size)⟩) (fun hHeld => ?_)
      clear hK K hgs hm1 hm2 hH7 hb7
      try simp only [Act.put, List.setIfInBounds_toArray, List.set_cons_zero, List.set_cons_succ, List.getElem_toArray, List.getElem_cons_zero, List.getElem_cons_succ]
      refine wpAnyH_ready (rs := [6]) (by kernel_rfl) (by simp) ?_
      refine AllReadyH.cons rfl (fun K hK => ?_) (AllReadyH.nil)
      refine Eq.mpr (if_pos (by rfl)) ?_
      refine wp_store_list 30 _ _ rfl X 0 gs rfl rfl (HX0.out.there (by rw [HGL.out, HZL.out]; omega)) (by rw [HGL.out]; exact HI.out) HGO.out ?_
      intro yy hyy
      have hne : ∀ k, blkOf v7 = some k → k ≠ X := fun k hk => by have := hbo k hk; omega
      have HX := hid (show Blk yy 30 X gs ∧ Below T y2 yy ∧ HasC yy T v7 o7 from by
        rw [hyy]
        refine ⟨by have h3 := Blk.setCells gs [] zs [] (o := 0) (by simpa using HX0.out) (by rw [HGL.out, HZL.out]) rfl; simpa using h3, below_setCells hTX _ _ (Below.refl _ _), ?_⟩
        exact (HH7.out.mono hge).kept9 fun k hk => setCells_heap (hne k hk) gs 0 _)
      clear hyy
      refine hK.out _ _ (⟨hHeld.1.above9 HX.out.2.1, hHeld.2.trans HX.out.2.1⟩) (fun hHeld => ?_)
      clear hK K
      try simp only [Act.put, List.setIfInBounds_toArray, List.set_cons_zero, List.set_cons_succ, List.getElem_toArray, List.getElem_cons_zero, List.getElem_cons_succ]
      refine wpAnyH_done (by kernel_rfl) ?_ _
      go_wp2_with fail
      go_meet
      exact ⟨X, v7, o7, gs, rfl, HGS.out, HX.out.1, HX.out.2.2, hne, hTX, hHeld, HM1.out, HM2.out⟩
  case rest =>
  -- PART3
  obtain ⟨X, v7, o7, gs, rfl, hgs, hX, hH7, hne, hTX, hK7, hm1, hm2⟩ := hcut
  have HGS := hid hgs
  have HRD := hid (good_read HD.out hm1 hm2)
  have HP := hid (good_plain hm1 hm2)
  have HG32 := hid (show (goodD d).h.length = 32 from HD.out)
  obtain ⟨j, hj⟩ : ∃ j : Nat, (goodD d).aD = (j : Int) := ⟨(d.aD % 3).toNat, by show d.aD % 3 = _; omega⟩
  have hj3 : j < 3 := by have : (goodD d).aD = d.aD % 3 := rfl; omega
  have HJ := hid hj
  obtain ⟨gd, hgd⟩ : ∃ gd, goodD d = gd := ⟨_, rfl⟩
  rw [hgd] at HRD HG32 HJ hgs
  have HGS := hid hgs
  have HGL := hid (show gs.length = 40 by rw [← hgs]; exact Dl.len HG32.out)
  have HX7 := hid hX
  have HH7 := hid hH7
  have HK7 := hid hK7.1.tl.fst
  have hKb : Below T wd wc := hK7.2
  have HKW7 := hid (HKW.out.later (by rw [HTS.out]; exact hKb))
  have Hb7 := hid hK7.1.bel
  obtain ⟨bt, hbt⟩ : ∃ bt, dB gd o7 = bt := ⟨_, rfl⟩
  obtain ⟨n, hn⟩ : ∃ n, 84 + partsN o7 = n := ⟨_, rfl⟩
  have HN := hid (show bt.length = n by rw [← hbt, ← hn]; exact dB_len _ _ HG32.out)
  have hn2 : n ≤ 8200 := by rw [← hn]; have := HP.out.few.le; omega
  have hn1 : 84 ≤ n := by omega
  obtain ⟨mj, hmj⟩ : ∃ mj, macS (KY j) bt = mj := ⟨_, rfl⟩
  have HMJ := hid hmj
  have HMJ32 := hid (show mj.length = 32 by rw [← hmj]; exact macS_len _ _)
  rw [hbt] at HRD
  have HOS := hid (show openS KY mj bt = (gd, o7, 0) by rw [openS, HRD.out, if_neg (by simp), if_neg (by rw [HJ.out, Int.toNat_natCast, hmj]; simp)])
  have HSDD := hid (show ∀ wx, Tabs wx → KW wx ks KY → RC wx v7 o7 → Calls Tryd.prog 13 #[.agg ks.toArray, .agg gs.toArray] wx (fun x w' => ∃ g cap, x = .returned (.agg (sgC (.slice (some ⟨g, 0, none⟩) n cap) mj).toArray) ∧ wx.heap.size ≤ g ∧ Owns w' 5 g cap n (B bt) ∧ Below wx.heap.size wx w') from fun wx h1 h2 h3 => by
    have := sDelta_own ks KY gd HG32.out j HJ.out hj3 v7 o7 wx h1 h2 h3 HP.out.few
    rw [HGS.out, hbt, hn, hmj] at this
    exact this)
  have HGDD := hid (show ∀ wx, KW wx ks KY → RC wx v7 o7 → Calls Tryd.prog 15 #[.agg ks.toArray, .agg gs.toArray] wx (fun x w' => ∃ g cap, x = .returned (.agg (sgC (.slice (some ⟨g, 0, none⟩) n cap) mj).toArray) ∧ wx.heap.size ≤ g ∧ Owns w' 5 g cap n (B bt) ∧ Below wx.heap.size wx w') from fun wx h2 h3 => by
    have := gDelta_any ks KY gd HG32.out j HJ.out hj3 v7 o7 wx h2 h3 HP.out.few
    rw [HGS.out, hbt, hn, hmj] at this
    exact this)
  clear hgs hgd hj hbt hn hmj hX hH7 hne hK7 hm1 hm2 hKb HS HKW HRD
  go_wp2_with (first
    | (show wpList _ _ _ (⟨some 40, Op.load _ _, _, _, _, _⟩ :: _) _ _; go_must (refine wpList_load_mid rfl 35 _ rfl G 0 rfl ks _ (HK7.out.range fun j v hv => by rw [Nat.zero_add]; exact hv) Tryd.underlying35 rfl (by rw [HKL3.out]; exact HIK.out) ?_))
    | (show wpList _ _ _ (⟨some 41, Op.load _ _, _, _, _, _⟩ :: _) _ _; go_must (refine wpList_load_mid rfl 30 _ rfl X 0 rfl gs _ (HX7.out.range fun j v hv => by rw [Nat.zero_add]; exact hv) Tryd.underlying30 rfl (by rw [HGL.out]; exact HI.out) ?_)))
  -- CALL3
  refine (HSDD.out _ (HTB.out _ Hb7.out) HKW7.out HH7.out.reads).mono ?_
  rintro _ w8 ⟨gb, cb, rfl, hgb, hO8, hb8⟩
  have hcb : cb ≤ maxLen := hO8.2.2.1
  have HO8 := hid hO8
  have HX8 := hid (HX7.out.later hb8)
  have HK8 := hid (HK7.out.later hb8)
  have HKW8 := hid (HKW7.out.later hb8)
  have HH8 := hid (HH7.out.later hb8)
  have Hb8 := hid (show Below L w w8 from Hb7.out.trans (hb8.mono (by have := HX7.out.lt; omega)))
  have hX8 : X < w8.heap.size := HX8.out.lt
  obtain ⟨ss, hss⟩ : ∃ ss, sgC (.slice (some ⟨gb, 0, none⟩) n cb) mj = ss := ⟨_, rfl⟩
  rw [hss]
  have HSS := hid hss
  have HSSL := hid (show ss.length = 33 by rw [← hss]; exact sgC_len HMJ32.out)
  have HSSO := hid (show ∀ x ∈ ss, x.oneCell' = true by rw [← hss]; exact sgC_one rfl)
  obtain ⟨P, hP⟩ : ∃ P, w8.heap.size = P := ⟨_, rfl⟩
  have HPS := hid hP
  rw [hP] at hX8
  clear hss hgb hO8 hb8 HX7 HK7 HKW7 HH7 Hb7 HSDD
  go_upto_region 8 with (first
    | (show wpList _ _ _ (⟨some 17, Op.alloc _, _, _, _, _⟩ :: _) _ _; go_must (refine wpList_alloc_blk rfl 40 rfl _ HZS.out P hP ?_); intro w9 hB9 hb9 hs9; have HB9 := hid hB9; have Hb9 := hid hb9; clear hB9 hb9)
    | (show wpList _ _ _ (⟨none, Op.store _ (Operand.tmp 17) (Operand.tmp 42), _, _, _, _⟩ :: _) _ _; go_must (refine wpList_store_list rfl 40 _ _ rfl P 0 ss rfl rfl (HB9.out.there (by rw [HSSL.out, HZSL.out]; omega)) (by rw [HSSL.out]; exact HIS.out) HSSO.out ?_); intro wa hwa; have HXa := hid (show Blk wa 40 P ss ∧ Below P w8 wa by rw [hwa]; exact ⟨by have h3 := Blk.setCells ss [] z9 [] (o := 0) (by simpa using HB9.out) (by rw [HZSL.out, HSSL.out]) rfl; simpa using h3, below_setCells (by omega) _ _ Hb9.out⟩); clear hwa HB9 Hb9))
  -- REGION8
  have hbe : Below P w8 wa.drew := HXa.out.2.drew
  have hPd : Blk wa.drew 40 P ss := HXa.out.1.drewN 1
  clear hs9 HXa hP
  generalize hwe : wa.drew = we at *
  obtain ⟨U, hU⟩ : ∃ U, we.heap.size = U := ⟨_, rfl⟩
  have HUS := hid hU
  have hPU : P < U := by rw [← hU]; exact hPd.lt
  have hbe' : Below w8.heap.size w8 we := by rw [HPS.out]; exact hbe
  have HS := hid (show HK L U w [(40, P, ss), (30, X, gs), (35, G, ks)] we ∧ Below U we we from
    ⟨HK.cons (HK.cons (HK.cons (HK.nil (by omega) (Hb8.out.trans (hbe.mono (by omega))) (by omega)) (HK8.out.later hbe') (by omega)) (HX8.out.later hbe') (by omega)) hPd (by omega), Below.refl _ _⟩)
  have HO9 := hid (HO8.out.later hbe')
  have HKW9 := hid (HKW8.out.later hbe')
  have HH9 := hid (HH8.out.later hbe')
  have HGD2 := hid (show ∀ wx, Below U we wx → Calls Tryd.prog 15 #[.agg ks.toArray, .agg gs.toArray] wx (fun x w' => ∃ xs : List Value, (∀ wy, Below w'.heap.size w' wy → Below U we wy → Calls Tryd.prog 14 #[.agg ss.toArray, .agg xs.toArray] wy (fun x w' => x = .returned (.bool true) ∧ Below wy.heap.size wy w')) ∧ x = .returned (.agg xs.toArray) ∧ Below wx.heap.size wx w') from fun wx h => by
    refine (HGDD.out wx (HKW9.out.later (by rw [HUS.out]; exact h)) (HH9.out.reads.later (by rw [HUS.out]; exact h))).mono ?_
    rintro _ w' ⟨g, c, rfl, h1, h2, h3⟩
    refine ⟨_, fun wy h5 h6 => ?_, rfl, h3⟩
    rw [← HSS.out]
    exact same9_eq mj HMJ32.out (some ⟨gb, 0, none⟩) (some ⟨g, 0, none⟩) n cb c bt wy (HO9.out.reads.later (by rw [HUS.out]; exact h6)) (h2.reads.later h5))
  clear HGDD hU hbe hPd hbe' HO8 HKW8 HH8 HX8 HK8 Hb8 HPS
  refine wp_region_held_drew (S := fun w' => HK L U w [(40, P, ss), (30, X, gs), (35, G, ks)] w' ∧ Below U we w') (by kernel_rfl) ((by rw [hwe]; exact HS.out)) (fun hHeld => ?_)
  rw [hwe] at hHeld ⊢
  clear hwe
  refine wpAnyH_take (i := 0) (v := _) rfl (by kernel_rfl) (by kernel_rfl) (by kernel_rfl) (fun _ _ _ h => h) (yieldsIf_load_mid (by rfl) _ _ rfl _ _ rfl ss _ (fun w hSw => (hSw.1.fst.range fun j v hv => by rw [Nat.zero_add]; exact hv)) Tryd.underlying40 rfl (by rw [HSSL.out]; exact HIS.out)) hHeld ?_
  try simp only [Act.put, List.setIfInBounds_toArray, List.set_cons_zero, List.set_cons_succ, List.getElem_toArray, List.getElem_cons_zero, List.getElem_cons_succ]
  refine wpAnyH_take (i := 1) (v := _) rfl (by kernel_rfl) (by kernel_rfl) (by kernel_rfl) (fun _ _ _ h => h) (yieldsIf_load_mid (by rfl) _ _ rfl _ _ rfl ks _ (fun w hSw => (hSw.1.tl.tl.fst.range fun j v hv => by rw [Nat.zero_add]; exact hv)) Tryd.underlying35 rfl (by rw [HKL3.out]; exact HIK.out)) hHeld ?_
  try simp only [Act.put, List.setIfInBounds_toArray, List.set_cons_zero, List.set_cons_succ, List.getElem_toArray, List.getElem_cons_zero, List.getElem_cons_succ]
  refine wpAnyH_take (i := 2) (v := _) rfl (by kernel_rfl) (by kernel_rfl) (by kernel_rfl) (fun _ _ _ h => h) (yieldsIf_load_mid (by rfl) _ _ rfl _ _ rfl gs _ (fun w hSw => (hSw.1.tl.fst.range fun j v hv => by rw [Nat.zero_add]; exact hv)) Tryd.underlying30 rfl (by rw [HGL.out]; exact HI.out)) hHeld ?_
  try simp only [Act.put, List.setIfInBounds_toArray, List.set_cons_zero, List.set_cons_succ, List.getElem_toArray, List.getElem_cons_zero, List.getElem_cons_succ]
  refine wpAnyH_ready (rs := [3]) (by kernel_rfl) (by simp) ?_
  refine AllReadyH.cons rfl (fun K hK => ?_) AllReadyH.nil
  go_simp
  refine (HGD2.out _ hHeld.2).mono ?_
  rintro _ x1 ⟨xs, hGS, rfl, hb1⟩
  refine hK.out _ _ (⟨hHeld.1.later hb1, hHeld.2.trans (hb1.mono hHeld.1.size)⟩) (fun hHeld => ?_)
  clear hK K
  try simp only [Act.put, List.setIfInBounds_toArray, List.set_cons_zero, List.set_cons_succ, List.getElem_toArray, List.getElem_cons_zero, List.getElem_cons_succ]
  have HSM := hid hGS
  clear hb1 hGS
  refine wpAnyH_strong (S' := fun w' => (HK L U w [(40, P, ss), (30, X, gs), (35, G, ks)] w' ∧ Below U we w') ∧ Below x1.heap.size x1 w') (fun _ h => h.1) _ _ _ _ ?_
  replace hHeld := And.intro hHeld (Below.refl x1.heap.size x1)
  refine wpAnyH_ready (rs := [4]) (by kernel_rfl) (by simp) ?_
  refine AllReadyH.cons rfl (fun K hK => ?_) AllReadyH.nil
  go_simp
  refine (HSM.out _ hHeld.2 hHeld.1.2).mono ?_
  rintro _ x2 ⟨rfl, hb2⟩
  refine hK.out _ _ (⟨⟨hHeld.1.1.later hb2, hHeld.1.2.trans (hb2.mono hHeld.1.1.size)⟩, hHeld.2.trans (hb2.mono hHeld.2.size)⟩) (fun hHeld => ?_)
  clear hK K
  try simp only [Act.put, List.setIfInBounds_toArray, List.set_cons_zero, List.set_cons_succ, List.getElem_toArray, List.getElem_cons_zero, List.getElem_cons_succ]
  clear hb2
  refine wpAnyH_ready (rs := [5]) (by kernel_rfl) (by simp) ?_
  refine AllReadyH.cons rfl (fun K hK => ?_) AllReadyH.nil
  go_simp
  refine hK.out _ _ (hHeld) (fun hHeld => ?_)
  clear hK K
  try simp only [Act.put, List.setIfInBounds_toArray, List.set_cons_zero, List.set_cons_succ, List.getElem_toArray, List.getElem_cons_zero, List.getElem_cons_succ]
  refine wpAnyH_done (by kernel_rfl) ?_ _
  have HS8 := hid hHeld.1
  clear hHeld HS HGD2 HSM
  have HOP := hid (show ∀ wx, Tabs wx → KW wx ks KY → Reads wx (.slice (some ⟨gb, 0, none⟩) n cb) (B bt) → Calls Tryd.prog 16 #[.agg ks.toArray, .agg ss.toArray] wx (fun en w' => ∃ v' es, gd.cells v' = es ∧ en = .returned (.tuple #[.agg es.toArray, .int .i64 0]) ∧ HasC w' wx.heap.size v' o7 ∧ Below wx.heap.size wx w') from fun wx h1 h2 h3 => by
    rw [← HSS.out]
    exact sopen_at ks KY mj HMJ32.out _ n cb bt HN.out (by omega) hcb gd o7 0 HOS.out wx h1 h2 h3)
  have HS9 := hid (show HK L U w [(40, P, ss), (30, X, gs), (35, G, ks)] x2 ∧ Below we.heap.size we x2 from ⟨HS8.out.1, by rw [HUS.out]; exact HS8.out.2⟩)
  clear HS8
  go_wp2_with (first
    | (show wpList _ _ _ (⟨some 50, Op.load _ _, _, _, _, _⟩ :: _) _ _; go_must (refine wpList_load_mid rfl 35 _ rfl G 0 rfl ks _ (HS9.out.1.tl.tl.fst.range fun j v hv => by rw [Nat.zero_add]; exact hv) Tryd.underlying35 rfl (by rw [HKL3.out]; exact HIK.out) ?_))
    | (show wpList _ _ _ (⟨some 51, Op.load _ _, _, _, _, _⟩ :: _) _ _; go_must (refine wpList_load_mid rfl 40 _ rfl P 0 rfl ss _ (HS9.out.1.fst.range fun j v hv => by rw [Nat.zero_add]; exact hv) Tryd.underlying40 rfl (by rw [HSSL.out]; exact HIS.out) ?_)))
  -- CALL4
  refine (HOP.out _ (HTB.out _ HS9.out.1.bel) (HKW9.out.later HS9.out.2) (HO9.out.reads.later HS9.out.2)).mono ?_
  rintro _ u1 ⟨v8, x8, hx8, rfl, hH8, hb8⟩
  have HX8S := hid hx8
  have HX8L := hid (show x8.length = 40 by rw [← hx8]; exact Dl.len HG32.out)
  have HX8O := hid (show ∀ x ∈ x8, x.oneCell' = true by rw [← hx8]; exact Dl.one (one9 hH8))
  have HH8 := hid hH8.reads
  have HSa := hid (HS9.out.1.later hb8)
  have hUx : U ≤ x2.heap.size := HS9.out.1.size
  have Hba := hid (show Below we.heap.size we u1 from HS9.out.2.trans (hb8.mono HS9.out.2.size))
  obtain ⟨X2, hX2⟩ : ∃ X2, u1.heap.size = X2 := ⟨_, rfl⟩
  have HX2 := hid hX2
  have hUX2 : U ≤ X2 := by rw [← hX2]; exact HSa.out.size
  clear hx8 hH8 hb8 HS9 HOP
  go_upto_region 11 with (first
    | (show wpList _ _ _ (⟨some 18, Op.alloc _, _, _, _, _⟩ :: _) _ _; go_must (refine wpList_alloc_blk rfl 30 rfl _ HZ.out X2 hX2 ?_); intro u2 hB2 hb2 hs2; have HB2 := hid hB2; have Hb2 := hid hb2; clear hB2 hb2)
    | (show wpList _ _ _ (⟨none, Op.store _ (Operand.tmp 18) (Operand.tmp 53), _, _, _, _⟩ :: _) _ _; go_must (refine wpList_store_list rfl 30 _ _ rfl X2 0 x8 rfl rfl (HB2.out.there (by rw [HX8L.out, HZL.out]; omega)) (by rw [HX8L.out]; exact HI.out) HX8O.out ?_); intro u3 hu3; have HXb := hid (show Blk u3 30 X2 x8 ∧ Below X2 u1 u3 by rw [hu3]; exact ⟨by have h3 := Blk.setCells x8 [] zs [] (o := 0) (by simpa using HB2.out) (by rw [HZL.out, HX8L.out]) rfl; simpa using h3, below_setCells (by omega) _ _ Hb2.out⟩); clear hu3 HB2 Hb2))
  -- REGION11
  have hb3 : Below u1.heap.size u1 u3 := by rw [HX2.out]; exact HXb.out.2
  have HSb := hid (HSa.out.later hb3)
  have HX3 := hid HXb.out.1
  have HHb := hid (HH8.out.later hb3)
  have Hbb := hid (show Below we.heap.size we u3 from Hba.out.trans (hb3.mono Hba.out.size))
  have HMS := hid (show ∀ wx, RC wx v8 o7 → RC wx v7 o7 → Calls Tryd.prog 17 #[.agg x8.toArray, .agg gs.toArray] wx (fun e w' => e = .returned (.bool true) ∧ Below wx.heap.size wx w') from fun wx h1 h2 => by
    rw [← HX8S.out, ← HGS.out]
    exact mSame_eq gd HG32.out v8 v7 o7 (by have := HP.out.few.1; omega) wx h1 h2)
  clear hs2 hX2 HXb HSa HH8 Hba hb3
  go_wp2_with (first
    | (show wpList _ _ _ (⟨some 58, Op.load _ _, _, _, _, _⟩ :: _) _ _; go_must (refine wpList_load_asked (by first | rfl | go_simp) 30 _ rfl X2 0 rfl x8 _ (HX3.out.range fun j v hv => by rw [Nat.zero_add]; exact hv) Tryd.underlying30 rfl (by rw [HX8L.out]; exact HI.out) ?_))
    | (show wpList _ _ _ (⟨some 59, Op.load _ _, _, _, _, _⟩ :: _) _ _; go_must (refine wpList_load_asked (by first | rfl | go_simp) 30 _ rfl X 0 rfl gs _ (HSb.out.tl.fst.range fun j v hv => by rw [Nat.zero_add]; exact hv) Tryd.underlying30 rfl (by rw [HGL.out]; exact HI.out) ?_)))
  -- CALL5
  refine (HMS.out _ HHb.out (HH9.out.reads.later Hbb.out)).mono ?_
  rintro _ u4 ⟨rfl, hb4⟩
  have HSc := hid (HSb.out.later hb4)
  have Hbc := hid (show Below we.heap.size we u4 from Hbb.out.trans (hb4.mono Hbb.out.size))
  clear hb4 HSb HX3 HHb Hbb HMS HX8S HX8L HX8O HX2
  go_upto_region 13 with fail
  -- REGION13
  have HSd := hid HSc.out.drew
  have Hbd := hid Hbc.out.drew
  clear HSc Hbc
  generalize hwf : u4.drew = wf at *
  obtain ⟨V, hV⟩ : ∃ V, wf.heap.size = V := ⟨_, rfl⟩
  have HVS := hid hV
  have hUV : U ≤ V := by rw [← hV]; exact HSd.out.size
  have HS := hid (show HK L V w [(40, P, ss), (35, G, ks)] wf ∧ Below V wf wf from ⟨HK.cons (HK.cons (HK.nil (by omega) HSd.out.bel (by omega)) HSd.out.tl.tl.fst (by omega)) HSd.out.fst (by omega), Below.refl _ _⟩)
  have HOf := hid (HO9.out.later Hbd.out)
  have HKWf := hid (HKW9.out.later Hbd.out)
  obtain ⟨mjs, hmjs⟩ : ∃ ms, B mj = ms := ⟨_, rfl⟩
  have HMJS := hid hmjs
  have HMJL := hid (show mjs.length = 32 by rw [← hmjs, B_length, HMJ32.out])
  have HSB := hid (show ∀ wx, Blk wx 40 P ss → wx.cell? ⟨P, 0, none⟩ = some (.slice (some ⟨gb, 0, none⟩) n cb) from fun wx h => h.cell (by rw [← HSS.out]; rfl))
  have HSH := hid (show ∀ wx, Blk wx 40 P ss → wx.rangeAt P 1 mjs from fun wx h => by rw [← hmjs]; exact h.range fun j v hv => by rw [← HSS.out]; exact sgC_mac hv)
  obtain ⟨i0, hi, hi0, hi1, hi2⟩ := info_parts Tryd.infoByte
  clear hmjs hV HSd Hbd HO9 HKW9 HH9 HUS
  go_cut [20] (fun s w' => ∃ Q g1 c1, s = .pointer (some ⟨Q, 0, none⟩) ∧ Blk w' 40 Q (sgC (.slice (some ⟨g1, 0, none⟩) n c1) mj) ∧ Owns w' 5 g1 c1 n (B bt) ∧ g1 ≠ Q ∧ V ≤ Q ∧ V ≤ g1 ∧ (HK L V w [(40, P, ss), (35, G, ks)] w' ∧ Below V wf w'))
  case first =>
    refine wp_region_held_drew (S := fun w' => HK L V w [(40, P, ss), (35, G, ks)] w' ∧ Below V wf w') (by kernel_rfl) ((by rw [hwf]; exact HS.out)) (fun hHeld => ?_)
    rw [hwf] at hHeld ⊢
    clear hwf
    refine wpAnyH_take (i := 1) (v := .pointer (some ⟨P, 0, none⟩)) rfl (by kernel_rfl) (by kernel_rfl) (by kernel_rfl) (fun _ _ _ h => h) (Or.inl ⟨by rfl, by intro w hSw; go_simp⟩) hHeld ?_
    try simp only [Act.put, List.setIfInBounds_toArray, List.set_cons_zero, List.set_cons_succ, List.getElem_toArray, List.getElem_cons_zero, List.getElem_cons_succ]
    refine wpAnyH_take (i := 2) (v := .slice (some ⟨gb, 0, none⟩) n cb) rfl (by kernel_rfl) (by kernel_rfl) (by kernel_rfl) (fun _ _ _ h => h) (Or.inl ⟨by rfl, by intro w hSw; have q := HSB.out _ hSw.1.fst; go_simp⟩) hHeld ?_
    try simp only [Act.put, List.setIfInBounds_toArray, List.set_cons_zero, List.set_cons_succ, List.getElem_toArray, List.getElem_cons_zero, List.getElem_cons_succ]
    refine wpAnyH_take (i := 4) (v := .pointer (some ⟨P, 1, none⟩)) rfl (by kernel_rfl) (by kernel_rfl) (by kernel_rfl) (fun _ _ _ h => h) (Or.inl ⟨by rfl, by intro w hSw; go_simp⟩) hHeld ?_
    try simp only [Act.put, List.setIfInBounds_toArray, List.set_cons_zero, List.set_cons_succ, List.getElem_toArray, List.getElem_cons_zero, List.getElem_cons_succ]
    refine wpAnyH_take (i := 5) (v := _) rfl (by kernel_rfl) (by kernel_rfl) (by kernel_rfl) (fun _ _ _ h => h) (yieldsIf_load_mid (by rfl) _ _ rfl _ _ rfl mjs _ (fun w hSw => (HSH.out _ hSw.1.fst)) Tryd.underlying26 rfl (by rw [HMJL.out]; exact HIH.out)) hHeld ?_
    try simp only [Act.put, List.setIfInBounds_toArray, List.set_cons_zero, List.set_cons_succ, List.getElem_toArray, List.getElem_cons_zero, List.getElem_cons_succ]
    refine wpAnyH_ready (rs := [0, 7]) (by kernel_rfl) (by simp) ?_
    refine AllReadyH.cons rfl (fun K hK => ?_) (AllReadyH.cons rfl (fun K hK => ?_) (AllReadyH.nil))
    · obtain ⟨b0, hb0⟩ : ∃ g, wf.heap.size = g := ⟨_, rfl⟩
      have hVb : V ≤ b0 := by have := hHeld.1.size; omega
      obtain ⟨v1, hA⟩ : ∃ A, wf.alloc (.cells #[] 5) = A := ⟨_, rfl⟩
      have HAE := hid hA
      have hbl : Below wf.heap.size wf v1 := by rw [← hA]; exact (Below.refl _ _).alloc (Nat.le_refl _) _
      have hsz : v1.heap.size = b0 + 1 := by rw [← hA, ← hb0]; simp
      have HO0 := hid (show Owns v1 5 b0 0 0 [] by rw [← hA, ← hb0]; exact Owns.empty _ _)
      go_simp
      refine hK.out _ _ (⟨hHeld.1.later hbl, hHeld.2.trans (hbl.mono hHeld.1.size)⟩) (fun hHeld => ?_)
      clear hK K hbl hA HAE
      try simp only [Act.put, List.setIfInBounds_toArray, List.set_cons_zero, List.set_cons_succ, List.getElem_toArray, List.getElem_cons_zero, List.getElem_cons_succ]
      refine wpAnyH_ready (rs := [3, 7]) (by kernel_rfl) (by simp) ?_
      refine AllReadyH.cons rfl (fun K hK => ?_) (AllReadyH.cons rfl (fun K hK => ?_) (AllReadyH.nil))
      · refine Eq.mpr (if_pos (by rfl)) ?_
        refine wp_append_src9 _ _ _ 22 22 rfl 5 i0 (.int .u8 0) Tryd.underlying22 hi hi0 hi1 hi2 rfl b0 0 0 [] rfl HO0.out _ n (B bt) rfl (Src.ofBytes _ Tryd.underlying22 HN.out (HOf.out.reads.later (by rw [HVS.out]; exact hHeld.2))) (by omega) ?_
        intro g1 c1 v2 hG1
        rw [Nat.zero_add n, List.nil_append] at hG1
        rw [Nat.zero_add n]
        have hbl : Below V v1 v2 := hG1.below (Below.refl _ _) hVb
        have hg1 : g1 = b0 ∨ v1.heap.size ≤ g1 := by
          rcases hG1.blk with ⟨h, _⟩ | h
          · exact .inl h
          · exact .inr h
        have hVg : V ≤ g1 := by have := hHeld.1.size; omega
        have HO1 := hid hG1.own
        have hc1 : c1 ≤ maxLen := hG1.own.2.2.1
        have hg1s : g1 < v2.heap.size := HO1.out.lt
        obtain ⟨ts, hts⟩ : ∃ ts, sgC (.slice (some ⟨g1, 0, none⟩) n c1) mj = ts := ⟨_, rfl⟩
        have HTSD := hid hts
        have HTL := hid (show ts.length = 33 by rw [← hts]; exact sgC_len HMJ32.out)
        have HTO := hid (show ∀ x ∈ ts, x.oneCell' = true by rw [← hts]; exact sgC_one rfl)
        have HTB9 := hid (show ∀ wx, (Instr.build 40 #[(0, .slice (some ⟨g1, 0, none⟩) n c1), (1, .agg mjs.toArray)]).run Tryd.prog wx = .ok (.agg ts.toArray) wx from fun wx => by rw [← hts, ← HMJS.out]; exact run_signed wx _ n c1 mj HMJ32.out)
        clear hts
        refine hK.out _ _ (⟨hHeld.1.above9 hbl, hHeld.2.trans hbl⟩) (fun hHeld => ?_)
        clear hK K hG1 hbl
        try simp only [Act.put, List.setIfInBounds_toArray, List.set_cons_zero, List.set_cons_succ, List.getElem_toArray, List.getElem_cons_zero, List.getElem_cons_succ]
        refine wpAnyH_take (i := 6) (v := .agg ts.toArray) rfl (by kernel_rfl) (by kernel_rfl) (by kernel_rfl) (fun _ _ _ h => h) (yields_build9 (by rfl) 40 #[(0, .tmp 66), (1, .tmp 68)] rfl #[(0, .slice (some ⟨g1, 0, none⟩) n c1), (1, .agg mjs.toArray)] (by first | rfl | simp [Act.eval]) _ HTB9.out) hHeld ?_
        try simp only [Act.put, List.setIfInBounds_toArray, List.set_cons_zero, List.set_cons_succ, List.getElem_toArray, List.getElem_cons_zero, List.getElem_cons_succ]
        refine wpAnyH_ready (rs := [7]) (by kernel_rfl) (by simp) ?_
        refine AllReadyH.cons rfl (fun K hK => ?_) (AllReadyH.nil)
        obtain ⟨Q, hQ⟩ : ∃ g, v2.heap.size = g := ⟨_, rfl⟩
        refine Eq.mpr (if_pos (by rfl)) ?_
        refine wp_alloc_blk 40 rfl _ HZS.out Q hQ ?_
        intro v3 hB12 hb12 hs12
        have hVQ : V ≤ Q := by have := hHeld.1.size; omega
        have hbl : Below v2.heap.size v2 v3 := by rw [hQ]; exact hb12
        have HQ0 := hid hB12
        clear hs12
        have HO1 := hid (HO1.out.later hbl)
        have hsep : g1 ≠ Q := by omega
        refine hK.out _ _ (⟨hHeld.1.later hbl, hHeld.2.trans (hbl.mono hHeld.1.size)⟩) (fun hHeld => ?_)
        clear hK K hB12 hb12 hbl
        try simp only [Act.put, List.setIfInBounds_toArray, List.set_cons_zero, List.set_cons_succ, List.getElem_toArray, List.getElem_cons_zero, List.getElem_cons_succ]
        refine wpAnyH_ready (rs := [8]) (by kernel_rfl) (by simp) ?_
        refine AllReadyH.cons rfl (fun K hK => ?_) (AllReadyH.nil)
        refine Eq.mpr (if_pos (by rfl)) ?_
        refine wp_store_list 40 _ _ rfl Q 0 ts rfl rfl (HQ0.out.there (by rw [HTL.out, HZSL.out]; omega)) (by rw [HTL.out]; exact HIS.out) HTO.out ?_
        intro yy hyy
        have HX := hid (show Blk yy 40 Q ts ∧ Below V v3 yy ∧ Owns yy 5 g1 c1 n (B bt) from by
          rw [hyy]
          exact ⟨by have h3 := Blk.setCells ts [] z9 [] (o := 0) (by simpa using HQ0.out) (by rw [HTL.out, HZSL.out]) rfl; simpa using h3, below_setCells hVQ _ _ (Below.refl _ _), HO1.out.kept (setCells_heap hsep ts 0 _)⟩)
        clear hyy
        refine hK.out _ _ (⟨hHeld.1.above9 HX.out.2.1, hHeld.2.trans HX.out.2.1⟩) (fun hHeld => ?_)
        clear hK K
        try simp only [Act.put, List.setIfInBounds_toArray, List.set_cons_zero, List.set_cons_succ, List.getElem_toArray, List.getElem_cons_zero, List.getElem_cons_succ]
        refine wpAnyH_done (by kernel_rfl) ?_ _
        go_wp2_with fail
        go_meet
        exact ⟨Q, g1, c1, rfl, by rw [HTSD.out]; exact HX.out.1, HX.out.2.2, hsep, hVQ, hVg, hHeld⟩
      · obtain ⟨Q, hQ⟩ : ∃ g, v1.heap.size = g := ⟨_, rfl⟩
        refine Eq.mpr (if_pos (by rfl)) ?_
        refine wp_alloc_blk 40 rfl _ HZS.out Q hQ ?_
        intro v2 hB12 hb12 hs12
        have hVQ : V ≤ Q := by have := hHeld.1.size; omega
        have hbl : Below v1.heap.size v1 v2 := by rw [hQ]; exact hb12
        have HQ0 := hid hB12
        clear hs12
        have HO0 := hid (HO0.out.later hbl)
        have hQb : b0 < Q := by omega
        refine hK.out _ _ (⟨hHeld.1.later hbl, hHeld.2.trans (hbl.mono hHeld.1.size)⟩) (fun hHeld => ?_)
        clear hK K hB12 hb12 hbl
        try simp only [Act.put, List.setIfInBounds_toArray, List.set_cons_zero, List.set_cons_succ, List.getElem_toArray, List.getElem_cons_zero, List.getElem_cons_succ]
        refine wpAnyH_ready (rs := [3]) (by kernel_rfl) (by simp) ?_
        refine AllReadyH.cons rfl (fun K hK => ?_) (AllReadyH.nil)
        refine Eq.mpr (if_pos (by rfl)) ?_
        refine wp_append_src9 _ _ _ 22 22 rfl 5 i0 (.int .u8 0) Tryd.underlying22 hi hi0 hi1 hi2 rfl b0 0 0 [] rfl HO0.out _ n (B bt) rfl (Src.ofBytes _ Tryd.underlying22 HN.out (HOf.out.reads.later (by rw [HVS.out]; exact hHeld.2))) (by omega) ?_
        intro g1 c1 v3 hG1
        rw [Nat.zero_add n, List.nil_append] at hG1
        rw [Nat.zero_add n]
        have hbl : Below V v2 v3 := hG1.below (Below.refl _ _) hVb
        have hg1 : g1 = b0 ∨ v2.heap.size ≤ g1 := by
          rcases hG1.blk with ⟨h, _⟩ | h
          · exact .inl h
          · exact .inr h
        have hVg : V ≤ g1 := by have := hHeld.1.size; omega
        have hQs : Q < v2.heap.size := HQ0.out.lt
        have hsep : g1 ≠ Q := by omega
        have HQ0 := hid (HQ0.out.kept (hG1.grown.block Q hQs (by intro e; injection e; omega)))
        have HO1 := hid hG1.own
        have hc1 : c1 ≤ maxLen := hG1.own.2.2.1
        have hg1s : g1 < v3.heap.size := HO1.out.lt
        obtain ⟨ts, hts⟩ : ∃ ts, sgC (.slice (some ⟨g1, 0, none⟩) n c1) mj = ts := ⟨_, rfl⟩
        have HTSD := hid hts
        have HTL := hid (show ts.length = 33 by rw [← hts]; exact sgC_len HMJ32.out)
        have HTO := hid (show ∀ x ∈ ts, x.oneCell' = true by rw [← hts]; exact sgC_one rfl)
        have HTB9 := hid (show ∀ wx, (Instr.build 40 #[(0, .slice (some ⟨g1, 0, none⟩) n c1), (1, .agg mjs.toArray)]).run Tryd.prog wx = .ok (.agg ts.toArray) wx from fun wx => by rw [← hts, ← HMJS.out]; exact run_signed wx _ n c1 mj HMJ32.out)
        clear hts
        refine hK.out _ _ (⟨hHeld.1.above9 hbl, hHeld.2.trans hbl⟩) (fun hHeld => ?_)
        clear hK K hG1 hbl
        try simp only [Act.put, List.setIfInBounds_toArray, List.set_cons_zero, List.set_cons_succ, List.getElem_toArray, List.getElem_cons_zero, List.getElem_cons_succ]
        refine wpAnyH_take (i := 6) (v := .agg ts.toArray) rfl (by kernel_rfl) (by kernel_rfl) (by kernel_rfl) (fun _ _ _ h => h) (yields_build9 (by rfl) 40 #[(0, .tmp 66), (1, .tmp 68)] rfl #[(0, .slice (some ⟨g1, 0, none⟩) n c1), (1, .agg mjs.toArray)] (by first | rfl | simp [Act.eval]) _ HTB9.out) hHeld ?_
        try simp only [Act.put, List.setIfInBounds_toArray, List.set_cons_zero, List.set_cons_succ, List.getElem_toArray, List.getElem_cons_zero, List.getElem_cons_succ]
        refine wpAnyH_ready (rs := [8]) (by kernel_rfl) (by simp) ?_
        refine AllReadyH.cons rfl (fun K hK => ?_) (AllReadyH.nil)
        refine Eq.mpr (if_pos (by rfl)) ?_
        refine wp_store_list 40 _ _ rfl Q 0 ts rfl rfl (HQ0.out.there (by rw [HTL.out, HZSL.out]; omega)) (by rw [HTL.out]; exact HIS.out) HTO.out ?_
        intro yy hyy
        have HX := hid (show Blk yy 40 Q ts ∧ Below V v3 yy ∧ Owns yy 5 g1 c1 n (B bt) from by
          rw [hyy]
          exact ⟨by have h3 := Blk.setCells ts [] z9 [] (o := 0) (by simpa using HQ0.out) (by rw [HTL.out, HZSL.out]) rfl; simpa using h3, below_setCells hVQ _ _ (Below.refl _ _), HO1.out.kept (setCells_heap hsep ts 0 _)⟩)
        clear hyy
        refine hK.out _ _ (⟨hHeld.1.above9 HX.out.2.1, hHeld.2.trans HX.out.2.1⟩) (fun hHeld => ?_)
        clear hK K
        try simp only [Act.put, List.setIfInBounds_toArray, List.set_cons_zero, List.set_cons_succ, List.getElem_toArray, List.getElem_cons_zero, List.getElem_cons_succ]
        refine wpAnyH_done (by kernel_rfl) ?_ _
        go_wp2_with fail
        go_meet
        exact ⟨Q, g1, c1, rfl, by rw [HTSD.out]; exact HX.out.1, HX.out.2.2, hsep, hVQ, hVg, hHeld⟩
    · obtain ⟨Q, hQ⟩ : ∃ g, wf.heap.size = g := ⟨_, rfl⟩
      refine Eq.mpr (if_pos (by rfl)) ?_
      refine wp_alloc_blk 40 rfl _ HZS.out Q hQ ?_
      intro v1 hB12 hb12 hs12
      have hVQ : V ≤ Q := by have := hHeld.1.size; omega
      have hbl : Below wf.heap.size wf v1 := by rw [hQ]; exact hb12
      have HQ0 := hid hB12
      clear hs12
      refine hK.out _ _ (⟨hHeld.1.later hbl, hHeld.2.trans (hbl.mono hHeld.1.size)⟩) (fun hHeld => ?_)
      clear hK K hB12 hb12 hbl
      try simp only [Act.put, List.setIfInBounds_toArray, List.set_cons_zero, List.set_cons_succ, List.getElem_toArray, List.getElem_cons_zero, List.getElem_cons_succ]
      refine wpAnyH_ready (rs := [0]) (by kernel_rfl) (by simp) ?_
      refine AllReadyH.cons rfl (fun K hK => ?_) (AllReadyH.nil)
      obtain ⟨b0, hb0⟩ : ∃ g, v1.heap.size = g := ⟨_, rfl⟩
      have hVb : V ≤ b0 := by have := hHeld.1.size; omega
      obtain ⟨v2, hA⟩ : ∃ A, v1.alloc (.cells #[] 5) = A := ⟨_, rfl⟩
      have HAE := hid hA
      have hbl : Below v1.heap.size v1 v2 := by rw [← hA]; exact (Below.refl _ _).alloc (Nat.le_refl _) _
      have hsz : v2.heap.size = b0 + 1 := by rw [← hA, ← hb0]; simp
      have HO0 := hid (show Owns v2 5 b0 0 0 [] by rw [← hA, ← hb0]; exact Owns.empty _ _)
      go_simp
      have hQb : Q < b0 := by have := HQ0.out.lt; omega
      have HQ0 := hid (HQ0.out.later hbl)
      refine hK.out _ _ (⟨hHeld.1.later hbl, hHeld.2.trans (hbl.mono hHeld.1.size)⟩) (fun hHeld => ?_)
      clear hK K hbl hA HAE
      try simp only [Act.put, List.setIfInBounds_toArray, List.set_cons_zero, List.set_cons_succ, List.getElem_toArray, List.getElem_cons_zero, List.getElem_cons_succ]
      refine wpAnyH_ready (rs := [3]) (by kernel_rfl) (by simp) ?_
      refine AllReadyH.cons rfl (fun K hK => ?_) (AllReadyH.nil)
      refine Eq.mpr (if_pos (by rfl)) ?_
      refine wp_append_src9 _ _ _ 22 22 rfl 5 i0 (.int .u8 0) Tryd.underlying22 hi hi0 hi1 hi2 rfl b0 0 0 [] rfl HO0.out _ n (B bt) rfl (Src.ofBytes _ Tryd.underlying22 HN.out (HOf.out.reads.later (by rw [HVS.out]; exact hHeld.2))) (by omega) ?_
      intro g1 c1 v3 hG1
      rw [Nat.zero_add n, List.nil_append] at hG1
      rw [Nat.zero_add n]
      have hbl : Below V v2 v3 := hG1.below (Below.refl _ _) hVb
      have hg1 : g1 = b0 ∨ v2.heap.size ≤ g1 := by
        rcases hG1.blk with ⟨h, _⟩ | h
        · exact .inl h
        · exact .inr h
      have hVg : V ≤ g1 := by have := hHeld.1.size; omega
      have hQs : Q < v2.heap.size := HQ0.out.lt
      have hsep : g1 ≠ Q := by omega
      have HQ0 := hid (HQ0.out.kept (hG1.grown.block Q hQs (by intro e; injection e; omega)))
      have HO1 := hid hG1.own
      have hc1 : c1 ≤ maxLen := hG1.own.2.2.1
      have hg1s : g1 < v3.heap.size := HO1.out.lt
      obtain ⟨ts, hts⟩ : ∃ ts, sgC (.slice (some ⟨g1, 0, none⟩) n c1) mj = ts := ⟨_, rfl⟩
      have HTSD := hid hts
      have HTL := hid (show ts.length = 33 by rw [← hts]; exact sgC_len HMJ32.out)
      have HTO := hid (show ∀ x ∈ ts, x.oneCell' = true by rw [← hts]; exact sgC_one rfl)
      have HTB9 := hid (show ∀ wx, (Instr.build 40 #[(0, .slice (some ⟨g1, 0, none⟩) n c1), (1, .agg mjs.toArray)]).run Tryd.prog wx = .ok (.agg ts.toArray) wx from fun wx => by rw [← hts, ← HMJS.out]; exact run_signed wx _ n c1 mj HMJ32.out)
      clear hts
      refine hK.out _ _ (⟨hHeld.1.above9 hbl, hHeld.2.trans hbl⟩) (fun hHeld => ?_)
      clear hK K hG1 hbl
      try simp only [Act.put, List.setIfInBounds_toArray, List.set_cons_zero, List.set_cons_succ, List.getElem_toArray, List.getElem_cons_zero, List.getElem_cons_succ]
      refine wpAnyH_take (i := 6) (v := .agg ts.toArray) rfl (by kernel_rfl) (by kernel_rfl) (by kernel_rfl) (fun _ _ _ h => h) (yields_build9 (by rfl) 40 #[(0, .tmp 66), (1, .tmp 68)] rfl #[(0, .slice (some ⟨g1, 0, none⟩) n c1), (1, .agg mjs.toArray)] (by first | rfl | simp [Act.eval]) _ HTB9.out) hHeld ?_
      try simp only [Act.put, List.setIfInBounds_toArray, List.set_cons_zero, List.set_cons_succ, List.getElem_toArray, List.getElem_cons_zero, List.getElem_cons_succ]
      refine wpAnyH_ready (rs := [8]) (by kernel_rfl) (by simp) ?_
      refine AllReadyH.cons rfl (fun K hK => ?_) (AllReadyH.nil)
      refine Eq.mpr (if_pos (by rfl)) ?_
      refine wp_store_list 40 _ _ rfl Q 0 ts rfl rfl (HQ0.out.there (by rw [HTL.out, HZSL.out]; omega)) (by rw [HTL.out]; exact HIS.out) HTO.out ?_
      intro yy hyy
      have HX := hid (show Blk yy 40 Q ts ∧ Below V v3 yy ∧ Owns yy 5 g1 c1 n (B bt) from by
        rw [hyy]
        exact ⟨by have h3 := Blk.setCells ts [] z9 [] (o := 0) (by simpa using HQ0.out) (by rw [HTL.out, HZSL.out]) rfl; simpa using h3, below_setCells hVQ _ _ (Below.refl _ _), HO1.out.kept (setCells_heap hsep ts 0 _)⟩)
      clear hyy
      refine hK.out _ _ (⟨hHeld.1.above9 HX.out.2.1, hHeld.2.trans HX.out.2.1⟩) (fun hHeld => ?_)
      clear hK K
      try simp only [Act.put, List.setIfInBounds_toArray, List.set_cons_zero, List.set_cons_succ, List.getElem_toArray, List.getElem_cons_zero, List.getElem_cons_succ]
      refine wpAnyH_done (by kernel_rfl) ?_ _
      go_wp2_with fail
      go_meet
      exact ⟨Q, g1, c1, rfl, by rw [HTSD.out]; exact HX.out.1, HX.out.2.2, hsep, hVQ, hVg, hHeld⟩
  case rest =>
  -- PART5
  obtain ⟨Q, g1, c1, rfl, hQ, hO, hsep, hVQ, hVg, hKd⟩ := hcut
  have HQ := hid hQ
  have HO := hid hO
  have HSEP := hid hsep
  have HKd := hid hKd.1
  have HBd := hid hKd.2
  have hg1l : g1 < wc.heap.size := hO.lt
  have hQl : Q < wc.heap.size := hQ.lt
  have cQ : wc.cell? ⟨Q, 0, none⟩ = some (.slice (some ⟨g1, 0, none⟩) n c1) := hQ.cell rfl
  have hc1 : c1 ≤ maxLen := hO.2.2.1
  have hnc : n ≤ c1 := hO.2.1
  have hncI : (n : Int) ≤ (c1 : Int) := by omega
  have HWA := hid (show IntKind.i64.wrap ((n : Int) + 32) = (n : Int) + 32 by rw [IntKind.wrap_i64]; omega)
  obtain ⟨ix, hix⟩ : ∃ i : Nat, at0 % ((n : Int) + 32) = (i : Int) := ⟨(at0 % ((n : Int) + 32)).toNat, by have := Int.emod_nonneg at0 (show (n : Int) + 32 ≠ 0 by omega); omega⟩
  have HIX := hid hix
  have hixl : ix < n + 32 := by have := Int.emod_lt_of_pos at0 (show (0 : Int) < (n : Int) + 32 by omega); omega
  clear hQ hO hsep hKd hix HS HOf HSB HSH
  have q := HWA.out
  go_wp2_with fail
  -- WITHIN
  refine (within9_any at0 ((n : Int) + 32) (by omega) (by omega) _).mono ?_
  rintro _ wj ⟨rfl, hwj⟩
  rw [hwj, HIX.out]
  clear hwj q
  go_upto_if 80 with fail
  go_cut [81] (fun s w' => ∃ bt' m', m'.length = 32 ∧ bt'.length = n ∧ Blk w' 40 Q (sgC (.slice (some ⟨g1, 0, none⟩) n c1) m') ∧ Owns w' 5 g1 c1 n (B bt') ∧ Below V wc w')
  case first =>
    by_cases hin : ix < n
    · have hin' : (ix : Int) < (n : Int) := by omega
      obtain ⟨x, hx⟩ := byte_in8 HN.out hin
      have cx : wc.cell? ⟨g1, ix, none⟩ = some (.int .u8 x.toNat) := HO.out.cell hx
      have fx : wc.frozen? ⟨g1, ix, none⟩ = false := HO.out.frozen ix
      have hadd := byte_add9 x by_
      go_wp2_with fail
      go_meet
      exact ⟨_, mj, HMJ32.out, by rw [List.length_set]; exact HN.out, HQ.out.kept (heap_setCell_other _ _ _ _ (Ne.symm HSEP.out)), HO.out.setByte ix _ (by omega) (by have := (x + by_).toNat_lt; omega), (Below.refl V wc).setCell hVg _⟩
    · obtain ⟨kx, hkx⟩ : ∃ k, ix = n + k := ⟨ix - n, by omega⟩
      subst hkx
      have hin' : ¬ ((n + kx : Nat) : Int) < (n : Int) := by omega
      have hk32 : kx < 32 := by omega
      have hk32' : (kx : Int) < 32 := by omega
      obtain ⟨x, hx⟩ := byte_in8 HMJ32.out hk32
      have cx : wc.cell? ⟨Q, 1 + kx, none⟩ = some (.int .u8 x.toNat) := HQ.out.cell (sgC_mac hx)
      have fx : wc.frozen? ⟨Q, 1 + kx, none⟩ = false := HQ.out.frozen (1 + kx)
      have hadd := byte_add9 x by_
      have hws : IntKind.i64.wrap (((n + kx : Nat) : Int) - (n : Int)) = (kx : Int) := by rw [IntKind.wrap_i64]; omega
      go_wp2_with fail
      go_meet
      refine ⟨bt, mj.set kx (x + by_), by rw [List.length_set]; exact HMJ32.out, HN.out, ?_, HO.out.kept (heap_setCell_other _ _ _ _ HSEP.out), (Below.refl V wc).setCell hVQ _⟩
      rw [← sgC_put]
      exact HQ.out.setCell (1 + kx) _
  case rest =>
  -- PART6
  obtain ⟨bt', m', hm32, hbn, hQ', hO', hbV⟩ := hcut
  obtain ⟨p0, p1, p2, rfl⟩ : ∃ a b c, ks = [a, b, c] := list3 HKL3.out
  have hKS := HKd.out.above9 hbV
  have hbf : Below V wf wc := HBd.out.trans hbV
  have HKWk := hid (show KW wc.drew [p0, p1, p2] KY from HKWf.out.later (by rw [HVS.out]; exact hbf.drew))
  have HO8 := hid (show Reads wc.drew (.slice (some ⟨g1, 0, none⟩) n c1) (B bt') from hO'.drew.reads)
  obtain ⟨ts, hts⟩ : ∃ ts, sgC (.slice (some ⟨g1, 0, none⟩) n c1) m' = ts := ⟨_, rfl⟩
  have HTSD := hid hts
  have HTL := hid (show ts.length = 33 by rw [← hts]; exact sgC_len hm32)
  have HM32 := hid hm32
  have HBN := hid hbn
  have hYQ : Q < wc.heap.size := hQ'.lt
  have hYg : g1 < wc.heap.size := hO'.lt
  rw [hts] at hQ'
  have HQ8 := hid hQ'
  have HB8 := hid (show Below L w wc.drew from hKS.bel.drew)
  have HG8 := hid (hKS.tl.fst)
  clear hts hm32 hbn hQ' hO' HKd HBd HO HQ HOS hbV hKS hbf HKWf
  go_upto_region 18 with fail
  generalize hwk : wc.drew = wk at *
  obtain ⟨Y, hY⟩ : ∃ Y, wk.heap.size = Y := ⟨_, rfl⟩
  have HYS := hid hY
  have hVY : Q < Y := by rw [← hY, ← hwk]; exact hYQ
  have hLQ : L < Q := by omega
  have HS := hid (show HK L Y w [(40, Q, ts), (35, G, [p0, p1, p2])] wk ∧ Below Y wk wk from ⟨HK.cons (HK.cons (HK.nil (by omega) HB8.out (by omega)) (by rw [← hwk]; exact HG8.out.drewN 1) (by omega)) (by rw [← hwk]; exact HQ8.out.drewN 1) (by omega), Below.refl _ _⟩)
  clear hY hYQ hYg HQ8 HB8 HG8
  refine wp_region_held_drew (S := fun w' => HK L Y w [(40, Q, ts), (35, G, [p0, p1, p2])] w' ∧ Below Y wk w') (by kernel_rfl) ((by rw [hwk]; exact HS.out)) (fun hHeld => ?_)
  rw [hwk] at hHeld ⊢
  clear hwk
  refine wpAnyH_take (i := 0) (v := _) rfl (by kernel_rfl) (by kernel_rfl) (by kernel_rfl) (fun _ _ _ h => h) (yieldsIf_load_mid (by rfl) _ _ rfl _ _ rfl [p0, p1, p2] _ (fun w hSw => (hSw.1.tl.fst.range fun j v hv => by rw [Nat.zero_add]; exact hv)) Tryd.underlying35 rfl (by rw [HKL3.out]; exact HIK.out)) hHeld ?_
  try simp only [Act.put, List.setIfInBounds_toArray, List.set_cons_zero, List.set_cons_succ, List.getElem_toArray, List.getElem_cons_zero, List.getElem_cons_succ]
  refine wpAnyH_take (i := 1) (v := .slice oo ol oc0) rfl (by kernel_rfl) (by kernel_rfl) (by kernel_rfl) (fun _ _ _ h => h) (Or.inl ⟨by rfl, by intro w hSw; go_simp⟩) hHeld ?_
  try simp only [Act.put, List.setIfInBounds_toArray, List.set_cons_zero, List.set_cons_succ, List.getElem_toArray, List.getElem_cons_zero, List.getElem_cons_succ]
  refine wpAnyH_ready (rs := [2]) (by kernel_rfl) (by simp) ?_
  refine AllReadyH.cons rfl (fun K hK => ?_) AllReadyH.nil
  go_simp
  refine (keys9_any other oo ol oc0 HOL.out holc hocc _ (HRO.out.later (by rw [hL]; exact hHeld.1.bel))).mono ?_
  rintro _ z1 ⟨k2, rfl, hKW2, hK12, hKB2, hb2⟩
  rw [HKO.out] at hKW2
  obtain ⟨q0, q1, q2, rfl⟩ : ∃ a b c, k2 = [a, b, c] := list3 hKW2.len
  refine hK.out _ _ (⟨hHeld.1.later hb2, hHeld.2.trans (hb2.mono hHeld.1.size)⟩) (fun hHeld => ?_)
  clear hK K
  try simp only [Act.put, List.setIfInBounds_toArray, List.set_cons_zero, List.set_cons_succ, List.getElem_toArray, List.getElem_cons_zero, List.getElem_cons_succ]
  have HKW2 := hid hKW2
  clear hKW2 hK12 hKB2 hb2
  obtain ⟨R, hR⟩ : ∃ g, z1.heap.size = g := ⟨_, rfl⟩
  obtain ⟨A, hA⟩ : ∃ A, z1.alloc (.cells #[p0, p1, p2, q0, q1, q2] 35) = A := ⟨_, rfl⟩
  have hbA : Below z1.heap.size z1 A := by rw [← hA]; exact (Below.refl _ _).alloc (Nat.le_refl _) _
  have HRA := hid (show Blk A 35 R [p0, p1, p2, q0, q1, q2] by rw [← hA, ← hR]; exact Blk.new z1 35 _)
  have HKA2 := hid (HKW2.out.later hbA)
  have hYz : Y ≤ z1.heap.size := hHeld.1.size
  refine wpAnyH_ready (rs := [3]) (by kernel_rfl) (by simp) ?_
  refine AllReadyH.cons rfl (fun K hK => ?_) AllReadyH.nil
  go_simp
  refine hK.out _ _ (⟨hHeld.1.later hbA, hHeld.2.trans (hbA.mono hHeld.1.size)⟩) (fun hHeld => ?_)
  clear hK K
  try simp only [Act.put, List.setIfInBounds_toArray, List.set_cons_zero, List.set_cons_succ, List.getElem_toArray, List.getElem_cons_zero, List.getElem_cons_succ]
  clear hbA hA hR
  refine wpAnyH_ready (rs := [4]) (by kernel_rfl) (by simp) ?_
  refine AllReadyH.cons rfl (fun K hK => ?_) AllReadyH.nil
  go_simp
  refine hK.out _ _ (hHeld) (fun hHeld => ?_)
  clear hK K
  try simp only [Act.put, List.setIfInBounds_toArray, List.set_cons_zero, List.set_cons_succ, List.getElem_toArray, List.getElem_cons_zero, List.getElem_cons_succ]
  refine wpAnyH_done (by kernel_rfl) ?_ _
  have HKA1 := hid (HKWk.out.later (by rw [HYS.out]; exact hHeld.2))
  have HOA := hid (HO8.out.later (by rw [HYS.out]; exact hHeld.2))
  have HQA := hid hHeld.1.fst
  have HBA := hid hHeld.1.bel
  obtain ⟨N0, hN0⟩ : ∃ N, A.heap.size = N := ⟨_, rfl⟩
  have HNA := hid hN0
  have hLN : L ≤ N0 := by rw [← hN0]; have := HQA.out.lt; omega
  clear hHeld HS HKWk HO8 HYS HKW2 hYz hN0 HVS HKL3 HSSL HSSO HSS HGL HGS HP HRO HRK HNS HV HCL HCS
  go_wp2_with fail
  go_loopw [23] (fun i wr => ∃ j : Nat, j ≤ 2 ∧ i = .int .i64 j ∧ Below N0 A wr) (fun i _ => 2 - (intOf i).toNat)
  case atStart => exact ⟨0, by omega, rfl, Below.refl _ _⟩
  case round =>
    obtain ⟨j, hj, rfl, hbr⟩ := hrel
    have HBR := hid hbr
    clear hbr
    by_cases h2 : j < 2
    case neg =>
      have h2' : ¬ (j : Int) < 2 := by omega
      have hb := HBA.out.trans (HBR.out.mono hLN)
      go_wp2_with fail
      go_ret
      exact ⟨rfl, by first | exact hb | (rw [hL]; exact hb)⟩
    have h2' : (j : Int) < 2 := by omega
    obtain ⟨ka, kb, kc, KJ, hKJ, hRJ⟩ : ∃ (ka kb kc : Value) (KJ : Nat → List UInt8), KW A [ka, kb, kc] KJ ∧ ∀ wx, Blk wx 35 R [p0, p1, p2, q0, q1, q2] → wx.rangeAt R (j * 3) [ka, kb, kc] := by
      have : j = 0 ∨ j = 1 := by omega
      rcases this with rfl | rfl
      · exact ⟨p0, p1, p2, KY, HKA1.out, fun wx h => h.rangeMid (pre := []) (post := [q0, q1, q2]) rfl⟩
      · exact ⟨q0, q1, q2, KO, HKA2.out, fun wx h => h.rangeMid (pre := [p0, p1, p2]) (post := []) rfl⟩
    obtain ⟨y, oy, f, hO⟩ : ∃ y oy f, openS KJ m' bt' = (y, oy, f) := by
      rcases openS KJ m' bt' with ⟨a, b, c⟩
      exact ⟨a, b, c, rfl⟩
    have HY32 := hid (show y.h.length = 32 by have := (openS_few KJ m' bt').1; rwa [hO] at this)
    have HYF := hid (show oy.length ≤ 40 by have := (openS_few KJ m' bt').2; rwa [hO] at this)
    have HUP := hid (show ∀ wx, Below N0 A wx → Below A.heap.size A wx from fun wx h => by rw [HNA.out]; exact h)
    have HSO := hid (show ∀ wx, Below N0 A wx → Calls Tryd.prog 16 #[.agg [ka, kb, kc].toArray, .agg ts.toArray] wx (fun en w' => ∃ v' es, y.cells v' = es ∧ en = .returned (.tuple #[.agg es.toArray, .int .i64 f]) ∧ HasC w' wx.heap.size v' oy ∧ Below wx.heap.size wx w') from fun wx h => by
      rw [← HTSD.out]
      exact sopen_at _ KJ m' HM32.out _ n c1 bt' HBN.out (by omega) hc1 y oy f hO wx (HTB.out _ (HBA.out.trans (h.mono hLN))) (hKJ.later (HUP.out _ h)) (HOA.out.later (HUP.out _ h)))
    have HGO2 := hid (show ∀ wx, Below N0 A wx → Calls Tryd.prog 18 #[.agg [ka, kb, kc].toArray, .agg ts.toArray] wx (fun en w' => ∃ v' es, y.cells v' = es ∧ en = .returned (.tuple #[.agg es.toArray, .int .i64 f]) ∧ HasC w' wx.heap.size v' oy ∧ Below wx.heap.size wx w') from fun wx h => by
      rw [← HTSD.out]
      exact gopen_at _ KJ m' HM32.out _ n c1 bt' HBN.out (by omega) y oy f hO wx (hKJ.later (HUP.out _ h)) (HOA.out.later (HUP.out _ h)))
    have HRA0 := hid (show ∀ wx, Below N0 A wx → wx.rangeAt R (j * 3) [ka, kb, kc] from fun wx h => hRJ wx (HRA.out.later (HUP.out _ h)))
    have HTA0 := hid (show ∀ wx, Below N0 A wx → wx.rangeAt Q 0 ts from fun wx h => (HQA.out.later (HUP.out _ h)).range fun j v hv => by rw [Nat.zero_add]; exact hv)
    clear hKJ hRJ hO
    go_upto_region 22 with fail
    -- REGION22
    generalize hwm : wr.drew = wm at *
    have hbm : Below N0 A wm := by rw [← hwm]; exact HBR.out.drew
    obtain ⟨M, hM⟩ : ∃ M, wm.heap.size = M := ⟨_, rfl⟩
    have HM := hid hM
    have hNM : N0 ≤ M := by rw [← hM, ← HNA.out]; exact hbm.size
    have HBM := hid (show ∀ wx, Below M wm wx → Below N0 A wx from fun wx h => hbm.trans (h.mono hNM))
    have HSJ := hid (show ∀ wx, Below M wm wx → _ from fun wx h => HSO.out wx (HBM.out wx h))
    have HRJ := hid (show ∀ wx, Below M wm wx → _ from fun wx h => HRA0.out wx (HBM.out wx h))
    have HTJ := hid (show ∀ wx, Below M wm wx → _ from fun wx h => HTA0.out wx (HBM.out wx h))
    clear hM hbm
    go_cut [24, 25] (fun s24 s25 w' => ∃ X3 x3 v3, s24 = .pointer (some ⟨X3, 0, none⟩) ∧ s25 = .int .i64 f ∧ y.cells v3 = x3 ∧ Blk w' 30 X3 x3 ∧ RC w' v3 oy ∧ Below M wm w')
    case first =>
      refine wp_region_held_drew (S := fun w' => Below M wm w') (by kernel_rfl) ((by rw [hwm]; exact Below.refl _ _)) (fun hHeld => ?_)
      rw [hwm] at hHeld ⊢
      clear hwm
      refine wpAnyH_take (i := 0) (v := .slice (some ⟨R, 0, none⟩) 2 2) rfl (by kernel_rfl) (by kernel_rfl) (by kernel_rfl) (fun _ _ _ h => h) (Or.inl ⟨by rfl, by intro w hSw; go_simp⟩) hHeld ?_
      try simp only [Act.put, List.setIfInBounds_toArray, List.set_cons_zero, List.set_cons_succ, List.getElem_toArray, List.getElem_cons_zero, List.getElem_cons_succ]
      refine wpAnyH_take (i := 1) (v := .int .i64 (j : Int)) rfl (by kernel_rfl) (by kernel_rfl) (by kernel_rfl) (fun _ _ _ h => h) (Or.inl ⟨by rfl, by intro w hSw; go_simp⟩) hHeld ?_
      try simp only [Act.put, List.setIfInBounds_toArray, List.set_cons_zero, List.set_cons_succ, List.getElem_toArray, List.getElem_cons_zero, List.getElem_cons_succ]
      refine wpAnyH_take (i := 2) (v := .pointer (some ⟨R, j * 3, none⟩)) rfl (by kernel_rfl) (by kernel_rfl) (by kernel_rfl) (fun _ _ _ h => h) (Or.inl ⟨by rfl, by intro w hSw; go_simp⟩) hHeld ?_
      try simp only [Act.put, List.setIfInBounds_toArray, List.set_cons_zero, List.set_cons_succ, List.getElem_toArray, List.getElem_cons_zero, List.getElem_cons_succ]
      refine wpAnyH_take (i := 3) (v := _) rfl (by kernel_rfl) (by kernel_rfl) (by kernel_rfl) (fun _ _ _ h => h) (yieldsIf_load_mid (by rfl) _ _ rfl _ _ rfl [ka, kb, kc] _ (fun w hSw => (HRJ.out _ hSw)) Tryd.underlying35 rfl (by rw [List.length_cons, List.length_cons, List.length_cons, List.length_nil]; exact HIK.out)) hHeld ?_
      try simp only [Act.put, List.setIfInBounds_toArray, List.set_cons_zero, List.set_cons_succ, List.getElem_toArray, List.getElem_cons_zero, List.getElem_cons_succ]
      refine wpAnyH_take (i := 4) (v := _) rfl (by kernel_rfl) (by kernel_rfl) (by kernel_rfl) (fun _ _ _ h => h) (yieldsIf_load_mid (by rfl) _ _ rfl _ _ rfl ts _ (fun w hSw => (HTJ.out _ hSw)) Tryd.underlying40 rfl (by rw [HTL.out]; exact HIS.out)) hHeld ?_
      try simp only [Act.put, List.setIfInBounds_toArray, List.set_cons_zero, List.set_cons_succ, List.getElem_toArray, List.getElem_cons_zero, List.getElem_cons_succ]
      refine wpAnyH_ready (rs := [5, 9]) (by kernel_rfl) (by simp) ?_
      refine AllReadyH.cons rfl (fun K hK => ?_) (AllReadyH.cons rfl (fun K hK => ?_) (AllReadyH.nil))
      · go_simp
        refine (HSJ.out _ hHeld).mono ?_
        rintro _ o1 ⟨v3, x3, hxs, rfl, hH, hb⟩
        have HXS := hid hxs
        have HXL := hid (show x3.length = 40 by rw [← hxs]; exact Dl.len HY32.out)
        have HXO := hid (show ∀ x ∈ x3, x.oneCell' = true by rw [← hxs]; exact Dl.one (one9 hH))
        have HH := hid hH
        have hbo : ∀ k, blkOf v3 = some k → wm.heap.size ≤ k ∧ k < o1.heap.size := fun k hk => ⟨HH.out.ge9 hk, HasK.blk HH.out hk⟩
        refine hK.out _ _ (hHeld.trans (hb.mono (Nat.le_trans (Nat.le_of_eq HM.out.symm) hHeld.size))) (fun hHeld => ?_)
        clear hK K hxs hH hb
        try simp only [Act.put, List.setIfInBounds_toArray, List.set_cons_zero, List.set_cons_succ, List.getElem_toArray, List.getElem_cons_zero, List.getElem_cons_succ]
        refine wpAnyH_take (i := 6) (v := .tuple #[.agg x3.toArray, .int .i64 f]) rfl (by kernel_rfl) (by kernel_rfl) (by kernel_rfl) (fun _ _ _ h => h) (Or.inl ⟨by rfl, by intro w hSw; go_simp⟩) hHeld ?_
        try simp only [Act.put, List.setIfInBounds_toArray, List.set_cons_zero, List.set_cons_succ, List.getElem_toArray, List.getElem_cons_zero, List.getElem_cons_succ]
        refine wpAnyH_take (i := 7) (v := .agg x3.toArray) rfl (by kernel_rfl) (by kernel_rfl) (by kernel_rfl) (fun _ _ _ h => h) (Or.inl ⟨by rfl, by intro w hSw; go_simp⟩) hHeld ?_
        try simp only [Act.put, List.setIfInBounds_toArray, List.set_cons_zero, List.set_cons_succ, List.getElem_toArray, List.getElem_cons_zero, List.getElem_cons_succ]
        refine wpAnyH_take (i := 8) (v := .int .i64 f) rfl (by kernel_rfl) (by kernel_rfl) (by kernel_rfl) (fun _ _ _ h => h) (Or.inl ⟨by rfl, by intro w hSw; go_simp⟩) hHeld ?_
        try simp only [Act.put, List.setIfInBounds_toArray, List.set_cons_zero, List.set_cons_succ, List.getElem_toArray, List.getElem_cons_zero, List.getElem_cons_succ]
        refine wpAnyH_ready (rs := [9]) (by kernel_rfl) (by simp) ?_
        refine AllReadyH.cons rfl (fun K hK => ?_) (AllReadyH.nil)
        obtain ⟨X3, hX⟩ : ∃ g, o1.heap.size = g := ⟨_, rfl⟩
        refine Eq.mpr (if_pos (by rfl)) ?_
        refine wp_alloc_blk 30 rfl _ HZ.out X3 hX ?_
        intro o2 hB hb hs
        have hNX : M ≤ X3 := by have := Nat.le_trans (Nat.le_of_eq HM.out.symm) hHeld.size; omega
        have hbl : Below o1.heap.size o1 o2 := by rw [hX]; exact hb
        have HX0 := hid hB
        clear hs
        have HH := hid (HH.out.later hbl)
        have hne : ∀ k, blkOf v3 = some k → k ≠ X3 := fun k hk => by have := hbo k hk; omega
        refine hK.out _ _ (hHeld.trans (hbl.mono (Nat.le_trans (Nat.le_of_eq HM.out.symm) hHeld.size))) (fun hHeld => ?_)
        clear hK K hB hb hbl
        try simp only [Act.put, List.setIfInBounds_toArray, List.set_cons_zero, List.set_cons_succ, List.getElem_toArray, List.getElem_cons_zero, List.getElem_cons_succ]
        refine wpAnyH_ready (rs := [10]) (by kernel_rfl) (by simp) ?_
        refine AllReadyH.cons rfl (fun K hK => ?_) AllReadyH.nil
        refine Eq.mpr (if_pos (by rfl)) ?_
        refine wp_store_list 30 _ _ rfl X3 0 x3 rfl rfl (HX0.out.there (by rw [HXL.out, HZL.out]; omega)) (by rw [HXL.out]; exact HI.out) HXO.out ?_
        intro yy hyy
        have HX := hid (show Blk yy 30 X3 x3 ∧ Below M o2 yy ∧ RC yy v3 oy from by
          rw [hyy]
          exact ⟨by have h3 := Blk.setCells x3 [] zs [] (o := 0) (by simpa using HX0.out) (by rw [HXL.out, HZL.out]) rfl; simpa using h3, below_setCells hNX _ _ (Below.refl _ _), (HH.out.kept9 fun k hk => setCells_heap (hne k hk) x3 0 _).reads⟩)
        clear hyy
        refine hK.out _ _ (hHeld.trans HX.out.2.1) (fun hHeld => ?_)
        clear hK K
        try simp only [Act.put, List.setIfInBounds_toArray, List.set_cons_zero, List.set_cons_succ, List.getElem_toArray, List.getElem_cons_zero, List.getElem_cons_succ]
        refine wpAnyH_ready (rs := [11]) (by kernel_rfl) (by simp) ?_
        refine AllReadyH.cons rfl (fun K hK => ?_) AllReadyH.nil
        go_simp
        refine hK.out _ _ (hHeld) (fun hHeld => ?_)
        clear hK K
        try simp only [Act.put, List.setIfInBounds_toArray, List.set_cons_zero, List.set_cons_succ, List.getElem_toArray, List.getElem_cons_zero, List.getElem_cons_succ]
        refine wpAnyH_done (by kernel_rfl) ?_ _
        go_wp2_with fail
        go_meet
        exact ⟨X3, x3, v3, rfl, rfl, HXS.out, HX.out.1, HX.out.2.2, hHeld⟩
      · obtain ⟨X3, hX⟩ : ∃ g, wm.heap.size = g := ⟨_, rfl⟩
        refine Eq.mpr (if_pos (by rfl)) ?_
        refine wp_alloc_blk 30 rfl _ HZ.out X3 hX ?_
        intro o1 hB hb hs
        have hNX : M ≤ X3 := by have := Nat.le_trans (Nat.le_of_eq HM.out.symm) hHeld.size; omega
        have hbl : Below wm.heap.size wm o1 := by rw [hX]; exact hb
        have HX0 := hid hB
        clear hs
        refine hK.out _ _ (hHeld.trans (hbl.mono (Nat.le_trans (Nat.le_of_eq HM.out.symm) hHeld.size))) (fun hHeld => ?_)
        clear hK K hB hb hbl
        try simp only [Act.put, List.setIfInBounds_toArray, List.set_cons_zero, List.set_cons_succ, List.getElem_toArray, List.getElem_cons_zero, List.getElem_cons_succ]
        refine wpAnyH_ready (rs := [5]) (by kernel_rfl) (by simp) ?_
        refine AllReadyH.cons rfl (fun K hK => ?_) (AllReadyH.nil)
        go_simp
        refine (HSJ.out _ hHeld).mono ?_
        rintro _ o2 ⟨v3, x3, hxs, rfl, hH, hb⟩
        have HXS := hid hxs
        have HXL := hid (show x3.length = 40 by rw [← hxs]; exact Dl.len HY32.out)
        have HXO := hid (show ∀ x ∈ x3, x.oneCell' = true by rw [← hxs]; exact Dl.one (one9 hH))
        have HH := hid hH
        have hbo : ∀ k, blkOf v3 = some k → o1.heap.size ≤ k ∧ k < o2.heap.size := fun k hk => ⟨HH.out.ge9 hk, HasK.blk HH.out hk⟩
        have hXl : X3 < o1.heap.size := HX0.out.lt
        have HX0 := hid (HX0.out.later hb)
        refine hK.out _ _ (hHeld.trans (hb.mono (Nat.le_trans (Nat.le_of_eq HM.out.symm) hHeld.size))) (fun hHeld => ?_)
        clear hK K hxs hH hb
        try simp only [Act.put, List.setIfInBounds_toArray, List.set_cons_zero, List.set_cons_succ, List.getElem_toArray, List.getElem_cons_zero, List.getElem_cons_succ]
        refine wpAnyH_take (i := 6) (v := .tuple #[.agg x3.toArray, .int .i64 f]) rfl (by kernel_rfl) (by kernel_rfl) (by kernel_rfl) (fun _ _ _ h => h) (Or.inl ⟨by rfl, by intro w hSw; go_simp⟩) hHeld ?_
        try simp only [Act.put, List.setIfInBounds_toArray, List.set_cons_zero, List.set_cons_succ, List.getElem_toArray, List.getElem_cons_zero, List.getElem_cons_succ]
        refine wpAnyH_take (i := 7) (v := .agg x3.toArray) rfl (by kernel_rfl) (by kernel_rfl) (by kernel_rfl) (fun _ _ _ h => h) (Or.inl ⟨by rfl, by intro w hSw; go_simp⟩) hHeld ?_
        try simp only [Act.put, List.setIfInBounds_toArray, List.set_cons_zero, List.set_cons_succ, List.getElem_toArray, List.getElem_cons_zero, List.getElem_cons_succ]
        refine wpAnyH_take (i := 8) (v := .int .i64 f) rfl (by kernel_rfl) (by kernel_rfl) (by kernel_rfl) (fun _ _ _ h => h) (Or.inl ⟨by rfl, by intro w hSw; go_simp⟩) hHeld ?_
        try simp only [Act.put, List.setIfInBounds_toArray, List.set_cons_zero, List.set_cons_succ, List.getElem_toArray, List.getElem_cons_zero, List.getElem_cons_succ]
        have hne : ∀ k, blkOf v3 = some k → k ≠ X3 := fun k hk => by have := (hbo k hk).1; omega
        refine wpAnyH_ready (rs := [10]) (by kernel_rfl) (by simp) ?_
        refine AllReadyH.cons rfl (fun K hK => ?_) AllReadyH.nil
        refine Eq.mpr (if_pos (by rfl)) ?_
        refine wp_store_list 30 _ _ rfl X3 0 x3 rfl rfl (HX0.out.there (by rw [HXL.out, HZL.out]; omega)) (by rw [HXL.out]; exact HI.out) HXO.out ?_
        intro yy hyy
        have HX := hid (show Blk yy 30 X3 x3 ∧ Below M o2 yy ∧ RC yy v3 oy from by
          rw [hyy]
          exact ⟨by have h3 := Blk.setCells x3 [] zs [] (o := 0) (by simpa using HX0.out) (by rw [HXL.out, HZL.out]) rfl; simpa using h3, below_setCells hNX _ _ (Below.refl _ _), (HH.out.kept9 fun k hk => setCells_heap (hne k hk) x3 0 _).reads⟩)
        clear hyy
        refine hK.out _ _ (hHeld.trans HX.out.2.1) (fun hHeld => ?_)
        clear hK K
        try simp only [Act.put, List.setIfInBounds_toArray, List.set_cons_zero, List.set_cons_succ, List.getElem_toArray, List.getElem_cons_zero, List.getElem_cons_succ]
        refine wpAnyH_ready (rs := [11]) (by kernel_rfl) (by simp) ?_
        refine AllReadyH.cons rfl (fun K hK => ?_) AllReadyH.nil
        go_simp
        refine hK.out _ _ (hHeld) (fun hHeld => ?_)
        clear hK K
        try simp only [Act.put, List.setIfInBounds_toArray, List.set_cons_zero, List.set_cons_succ, List.getElem_toArray, List.getElem_cons_zero, List.getElem_cons_succ]
        refine wpAnyH_done (by kernel_rfl) ?_ _
        go_wp2_with fail
        go_meet
        exact ⟨X3, x3, v3, rfl, rfl, HXS.out, HX.out.1, HX.out.2.2, hHeld⟩
    case rest =>
    -- REGION23
    obtain ⟨X3, x3, v3, rfl, rfl, hx3, hX3, hC3, hb3⟩ := hcut
    have HX3S := hid hx3
    have HX3L := hid (show x3.length = 40 by rw [← hx3]; exact Dl.len HY32.out)
    have HX3 := hid hX3
    have HC3 := hid hC3
    have HB3 := hid (HBM.out _ hb3)
    clear hx3 hX3 hC3 hb3 HSJ HRJ HTJ HBM HM hNM
    go_upto_region 23 with fail
    generalize hwq : wc.drew = wq at *
    have hbq : Below N0 A wq := by rw [← hwq]; exact HB3.out.drew
    obtain ⟨M, hM⟩ : ∃ M, wq.heap.size = M := ⟨_, rfl⟩
    have HM := hid hM
    have hNM : N0 ≤ M := by rw [← hM, ← HNA.out]; exact hbq.size
    have HBM := hid (show ∀ wx, Below M wq wx → Below N0 A wx from fun wx h => hbq.trans (h.mono hNM))
    have HSJ := hid (show ∀ wx, Below M wq wx → _ from fun wx h => HGO2.out wx (HBM.out wx h))
    have HRJ := hid (show ∀ wx, Below M wq wx → _ from fun wx h => HRA0.out wx (HBM.out wx h))
    have HTJ := hid (show ∀ wx, Below M wq wx → _ from fun wx h => HTA0.out wx (HBM.out wx h))
    have HX3q := hid (show Blk wq 30 X3 x3 by rw [← hwq]; exact HX3.out.drewN 1)
    have HC3q := hid (show RC wq v3 oy by rw [← hwq]; exact HC3.out.later ((Below.refl _ _).drew))
    clear hM hbq HX3 HC3
    go_cut [26, 27] (fun s26 s27 w' => ∃ X4 x4 v4, s26 = .pointer (some ⟨X4, 0, none⟩) ∧ s27 = .int .i64 f ∧ y.cells v4 = x4 ∧ Blk w' 30 X4 x4 ∧ RC w' v4 oy ∧ Below M wq w')
    case first =>
      refine wp_region_held_drew (S := fun w' => Below M wq w') (by kernel_rfl) ((by rw [hwq]; exact Below.refl _ _)) (fun hHeld => ?_)
      rw [hwq] at hHeld ⊢
      clear hwq
      refine wpAnyH_take (i := 0) (v := .slice (some ⟨R, 0, none⟩) 2 2) rfl (by kernel_rfl) (by kernel_rfl) (by kernel_rfl) (fun _ _ _ h => h) (Or.inl ⟨by rfl, by intro w hSw; go_simp⟩) hHeld ?_
      try simp only [Act.put, List.setIfInBounds_toArray, List.set_cons_zero, List.set_cons_succ, List.getElem_toArray, List.getElem_cons_zero, List.getElem_cons_succ]
      refine wpAnyH_take (i := 1) (v := .int .i64 (j : Int)) rfl (by kernel_rfl) (by kernel_rfl) (by kernel_rfl) (fun _ _ _ h => h) (Or.inl ⟨by rfl, by intro w hSw; go_simp⟩) hHeld ?_
      try simp only [Act.put, List.setIfInBounds_toArray, List.set_cons_zero, List.set_cons_succ, List.getElem_toArray, List.getElem_cons_zero, List.getElem_cons_succ]
      refine wpAnyH_take (i := 2) (v := .pointer (some ⟨R, j * 3, none⟩)) rfl (by kernel_rfl) (by kernel_rfl) (by kernel_rfl) (fun _ _ _ h => h) (Or.inl ⟨by rfl, by intro w hSw; go_simp⟩) hHeld ?_
      try simp only [Act.put, List.setIfInBounds_toArray, List.set_cons_zero, List.set_cons_succ, List.getElem_toArray, List.getElem_cons_zero, List.getElem_cons_succ]
      refine wpAnyH_take (i := 3) (v := _) rfl (by kernel_rfl) (by kernel_rfl) (by kernel_rfl) (fun _ _ _ h => h) (yieldsIf_load_mid (by rfl) _ _ rfl _ _ rfl [ka, kb, kc] _ (fun w hSw => (HRJ.out _ hSw)) Tryd.underlying35 rfl (by rw [List.length_cons, List.length_cons, List.length_cons, List.length_nil]; exact HIK.out)) hHeld ?_
      try simp only [Act.put, List.setIfInBounds_toArray, List.set_cons_zero, List.set_cons_succ, List.getElem_toArray, List.getElem_cons_zero, List.getElem_cons_succ]
      refine wpAnyH_take (i := 4) (v := _) rfl (by kernel_rfl) (by kernel_rfl) (by kernel_rfl) (fun _ _ _ h => h) (yieldsIf_load_mid (by rfl) _ _ rfl _ _ rfl ts _ (fun w hSw => (HTJ.out _ hSw)) Tryd.underlying40 rfl (by rw [HTL.out]; exact HIS.out)) hHeld ?_
      try simp only [Act.put, List.setIfInBounds_toArray, List.set_cons_zero, List.set_cons_succ, List.getElem_toArray, List.getElem_cons_zero, List.getElem_cons_succ]
      refine wpAnyH_ready (rs := [5, 9]) (by kernel_rfl) (by simp) ?_
      refine AllReadyH.cons rfl (fun K hK => ?_) (AllReadyH.cons rfl (fun K hK => ?_) (AllReadyH.nil))
      · go_simp
        refine (HSJ.out _ hHeld).mono ?_
        rintro _ o1 ⟨v4, x4, hxs, rfl, hH, hb⟩
        have HXS := hid hxs
        have HXL := hid (show x4.length = 40 by rw [← hxs]; exact Dl.len HY32.out)
        have HXO := hid (show ∀ x ∈ x4, x.oneCell' = true by rw [← hxs]; exact Dl.one (one9 hH))
        have HH := hid hH
        have hbo : ∀ k, blkOf v4 = some k → wq.heap.size ≤ k ∧ k < o1.heap.size := fun k hk => ⟨HH.out.ge9 hk, HasK.blk HH.out hk⟩
        refine hK.out _ _ (hHeld.trans (hb.mono (Nat.le_trans (Nat.le_of_eq HM.out.symm) hHeld.size))) (fun hHeld => ?_)
        clear hK K hxs hH hb
        try simp only [Act.put, List.setIfInBounds_toArray, List.set_cons_zero, List.set_cons_succ, List.getElem_toArray, List.getElem_cons_zero, List.getElem_cons_succ]
        refine wpAnyH_take (i := 6) (v := .tuple #[.agg x4.toArray, .int .i64 f]) rfl (by kernel_rfl) (by kernel_rfl) (by kernel_rfl) (fun _ _ _ h => h) (Or.inl ⟨by rfl, by intro w hSw; go_simp⟩) hHeld ?_
        try simp only [Act.put, List.setIfInBounds_toArray, List.set_cons_zero, List.set_cons_succ, List.getElem_toArray, List.getElem_cons_zero, List.getElem_cons_succ]
        refine wpAnyH_take (i := 7) (v := .agg x4.toArray) rfl (by kernel_rfl) (by kernel_rfl) (by kernel_rfl) (fun _ _ _ h => h) (Or.inl ⟨by rfl, by intro w hSw; go_simp⟩) hHeld ?_
        try simp only [Act.put, List.setIfInBounds_toArray, List.set_cons_zero, List.set_cons_succ, List.getElem_toArray, List.getElem_cons_zero, List.getElem_cons_succ]
        refine wpAnyH_take (i := 8) (v := .int .i64 f) rfl (by kernel_rfl) (by kernel_rfl) (by kernel_rfl) (fun _ _ _ h => h) (Or.inl ⟨by rfl, by intro w hSw; go_simp⟩) hHeld ?_
        try simp only [Act.put, List.setIfInBounds_toArray, List.set_cons_zero, List.set_cons_succ, List.getElem_toArray, List.getElem_cons_zero, List.getElem_cons_succ]
        refine wpAnyH_ready (rs := [9]) (by kernel_rfl) (by simp) ?_
        refine AllReadyH.cons rfl (fun K hK => ?_) (AllReadyH.nil)
        obtain ⟨X4, hX⟩ : ∃ g, o1.heap.size = g := ⟨_, rfl⟩
        refine Eq.mpr (if_pos (by rfl)) ?_
        refine wp_alloc_blk 30 rfl _ HZ.out X4 hX ?_
        intro o2 hB hb hs
        have hNX : M ≤ X4 := by have := Nat.le_trans (Nat.le_of_eq HM.out.symm) hHeld.size; omega
        have hbl : Below o1.heap.size o1 o2 := by rw [hX]; exact hb
        have HX0 := hid hB
        clear hs
        have HH := hid (HH.out.later hbl)
        have hne : ∀ k, blkOf v4 = some k → k ≠ X4 := fun k hk => by have := hbo k hk; omega
        refine hK.out _ _ (hHeld.trans (hbl.mono (Nat.le_trans (Nat.le_of_eq HM.out.symm) hHeld.size))) (fun hHeld => ?_)
        clear hK K hB hb hbl
        try simp only [Act.put, List.setIfInBounds_toArray, List.set_cons_zero, List.set_cons_succ, List.getElem_toArray, List.getElem_cons_zero, List.getElem_cons_succ]
        refine wpAnyH_ready (rs := [10]) (by kernel_rfl) (by simp) ?_
        refine AllReadyH.cons rfl (fun K hK => ?_) AllReadyH.nil
        refine Eq.mpr (if_pos (by rfl)) ?_
        refine wp_store_list 30 _ _ rfl X4 0 x4 rfl rfl (HX0.out.there (by rw [HXL.out, HZL.out]; omega)) (by rw [HXL.out]; exact HI.out) HXO.out ?_
        intro yy hyy
        have HX := hid (show Blk yy 30 X4 x4 ∧ Below M o2 yy ∧ RC yy v4 oy from by
          rw [hyy]
          exact ⟨by have h3 := Blk.setCells x4 [] zs [] (o := 0) (by simpa using HX0.out) (by rw [HXL.out, HZL.out]) rfl; simpa using h3, below_setCells hNX _ _ (Below.refl _ _), (HH.out.kept9 fun k hk => setCells_heap (hne k hk) x4 0 _).reads⟩)
        clear hyy
        refine hK.out _ _ (hHeld.trans HX.out.2.1) (fun hHeld => ?_)
        clear hK K
        try simp only [Act.put, List.setIfInBounds_toArray, List.set_cons_zero, List.set_cons_succ, List.getElem_toArray, List.getElem_cons_zero, List.getElem_cons_succ]
        refine wpAnyH_ready (rs := [11]) (by kernel_rfl) (by simp) ?_
        refine AllReadyH.cons rfl (fun K hK => ?_) AllReadyH.nil
        go_simp
        refine hK.out _ _ (hHeld) (fun hHeld => ?_)
        clear hK K
        try simp only [Act.put, List.setIfInBounds_toArray, List.set_cons_zero, List.set_cons_succ, List.getElem_toArray, List.getElem_cons_zero, List.getElem_cons_succ]
        refine wpAnyH_done (by kernel_rfl) ?_ _
        go_wp2_with fail
        go_meet
        exact ⟨X4, x4, v4, rfl, rfl, HXS.out, HX.out.1, HX.out.2.2, hHeld⟩
      · obtain ⟨X4, hX⟩ : ∃ g, wq.heap.size = g := ⟨_, rfl⟩
        refine Eq.mpr (if_pos (by rfl)) ?_
        refine wp_alloc_blk 30 rfl _ HZ.out X4 hX ?_
        intro o1 hB hb hs
        have hNX : M ≤ X4 := by have := Nat.le_trans (Nat.le_of_eq HM.out.symm) hHeld.size; omega
        have hbl : Below wq.heap.size wq o1 := by rw [hX]; exact hb
        have HX0 := hid hB
        clear hs
        refine hK.out _ _ (hHeld.trans (hbl.mono (Nat.le_trans (Nat.le_of_eq HM.out.symm) hHeld.size))) (fun hHeld => ?_)
        clear hK K hB hb hbl
        try simp only [Act.put, List.setIfInBounds_toArray, List.set_cons_zero, List.set_cons_succ, List.getElem_toArray, List.getElem_cons_zero, List.getElem_cons_succ]
        refine wpAnyH_ready (rs := [5]) (by kernel_rfl) (by simp) ?_
        refine AllReadyH.cons rfl (fun K hK => ?_) (AllReadyH.nil)
        go_simp
        refine (HSJ.out _ hHeld).mono ?_
        rintro _ o2 ⟨v4, x4, hxs, rfl, hH, hb⟩
        have HXS := hid hxs
        have HXL := hid (show x4.length = 40 by rw [← hxs]; exact Dl.len HY32.out)
        have HXO := hid (show ∀ x ∈ x4, x.oneCell' = true by rw [← hxs]; exact Dl.one (one9 hH))
        have HH := hid hH
        have hbo : ∀ k, blkOf v4 = some k → o1.heap.size ≤ k ∧ k < o2.heap.size := fun k hk => ⟨HH.out.ge9 hk, HasK.blk HH.out hk⟩
        have hXl : X4 < o1.heap.size := HX0.out.lt
        have HX0 := hid (HX0.out.later hb)
        refine hK.out _ _ (hHeld.trans (hb.mono (Nat.le_trans (Nat.le_of_eq HM.out.symm) hHeld.size))) (fun hHeld => ?_)
        clear hK K hxs hH hb
        try simp only [Act.put, List.setIfInBounds_toArray, List.set_cons_zero, List.set_cons_succ, List.getElem_toArray, List.getElem_cons_zero, List.getElem_cons_succ]
        refine wpAnyH_take (i := 6) (v := .tuple #[.agg x4.toArray, .int .i64 f]) rfl (by kernel_rfl) (by kernel_rfl) (by kernel_rfl) (fun _ _ _ h => h) (Or.inl ⟨by rfl, by intro w hSw; go_simp⟩) hHeld ?_
        try simp only [Act.put, List.setIfInBounds_toArray, List.set_cons_zero, List.set_cons_succ, List.getElem_toArray, List.getElem_cons_zero, List.getElem_cons_succ]
        refine wpAnyH_take (i := 7) (v := .agg x4.toArray) rfl (by kernel_rfl) (by kernel_rfl) (by kernel_rfl) (fun _ _ _ h => h) (Or.inl ⟨by rfl, by intro w hSw; go_simp⟩) hHeld ?_
        try simp only [Act.put, List.setIfInBounds_toArray, List.set_cons_zero, List.set_cons_succ, List.getElem_toArray, List.getElem_cons_zero, List.getElem_cons_succ]
        refine wpAnyH_take (i := 8) (v := .int .i64 f) rfl (by kernel_rfl) (by kernel_rfl) (by kernel_rfl) (fun _ _ _ h => h) (Or.inl ⟨by rfl, by intro w hSw; go_simp⟩) hHeld ?_
        try simp only [Act.put, List.setIfInBounds_toArray, List.set_cons_zero, List.set_cons_succ, List.getElem_toArray, List.getElem_cons_zero, List.getElem_cons_succ]
        have hne : ∀ k, blkOf v4 = some k → k ≠ X4 := fun k hk => by have := (hbo k hk).1; omega
        refine wpAnyH_ready (rs := [10]) (by kernel_rfl) (by simp) ?_
        refine AllReadyH.cons rfl (fun K hK => ?_) AllReadyH.nil
        refine Eq.mpr (if_pos (by rfl)) ?_
        refine wp_store_list 30 _ _ rfl X4 0 x4 rfl rfl (HX0.out.there (by rw [HXL.out, HZL.out]; omega)) (by rw [HXL.out]; exact HI.out) HXO.out ?_
        intro yy hyy
        have HX := hid (show Blk yy 30 X4 x4 ∧ Below M o2 yy ∧ RC yy v4 oy from by
          rw [hyy]
          exact ⟨by have h3 := Blk.setCells x4 [] zs [] (o := 0) (by simpa using HX0.out) (by rw [HXL.out, HZL.out]) rfl; simpa using h3, below_setCells hNX _ _ (Below.refl _ _), (HH.out.kept9 fun k hk => setCells_heap (hne k hk) x4 0 _).reads⟩)
        clear hyy
        refine hK.out _ _ (hHeld.trans HX.out.2.1) (fun hHeld => ?_)
        clear hK K
        try simp only [Act.put, List.setIfInBounds_toArray, List.set_cons_zero, List.set_cons_succ, List.getElem_toArray, List.getElem_cons_zero, List.getElem_cons_succ]
        refine wpAnyH_ready (rs := [11]) (by kernel_rfl) (by simp) ?_
        refine AllReadyH.cons rfl (fun K hK => ?_) AllReadyH.nil
        go_simp
        refine hK.out _ _ (hHeld) (fun hHeld => ?_)
        clear hK K
        try simp only [Act.put, List.setIfInBounds_toArray, List.set_cons_zero, List.set_cons_succ, List.getElem_toArray, List.getElem_cons_zero, List.getElem_cons_succ]
        refine wpAnyH_done (by kernel_rfl) ?_ _
        go_wp2_with fail
        go_meet
        exact ⟨X4, x4, v4, rfl, rfl, HXS.out, HX.out.1, HX.out.2.2, hHeld⟩
    case rest =>
    -- REGION24
    obtain ⟨X4, x4, v4, rfl, rfl, hx4, hX4, hC4, hb4⟩ := hcut
    have hb4' : Below wq.heap.size wq wc := by rw [HM.out]; exact hb4
    have HX4L := hid (show x4.length = 40 by rw [← hx4]; exact Dl.len HY32.out)
    have HX4 := hid hX4
    have HX3 := hid (HX3q.out.later hb4')
    have HC4 := hid hC4
    have HC3 := hid (HC3q.out.later hb4')
    have HB4 := hid (HBM.out _ hb4)
    have HMS := hid (show ∀ wx, RC wx v3 oy → RC wx v4 oy → Calls Tryd.prog 17 #[.agg x3.toArray, .agg x4.toArray] wx (fun e w' => e = .returned (.bool true) ∧ Below wx.heap.size wx w') from fun wx h1 h2 => by
      rw [← HX3S.out, ← hx4]
      exact mSame_eq y HY32.out v3 v4 oy (by have := HYF.out; omega) wx h1 h2)
    clear hx4 hX4 hC4 hb4 hb4' HSJ HRJ HTJ HBM HM hNM HX3q HC3q
    go_wp2_with (first
      | (show wpList _ _ _ (⟨some 131, Op.load _ _, _, _, _, _⟩ :: _) _ _; go_must (refine wpList_load_asked (by first | rfl | go_simp) 30 _ rfl X3 0 rfl x3 _ (HX3.out.range fun j v hv => by rw [Nat.zero_add]; exact hv) Tryd.underlying30 rfl (by rw [HX3L.out]; exact HI.out) ?_))
      | (show wpList _ _ _ (⟨some 132, Op.load _ _, _, _, _, _⟩ :: _) _ _; go_must (refine wpList_load_asked (by first | rfl | go_simp) 30 _ rfl X4 0 rfl x4 _ (HX4.out.range fun j v hv => by rw [Nat.zero_add]; exact hv) Tryd.underlying30 rfl (by rw [HX4L.out]; exact HI.out) ?_)))
    -- CALL6
    refine (HMS.out _ HC3.out HC4.out).mono ?_
    rintro _ w9 ⟨rfl, hb9⟩
    have HB9 := hid (show Below N0 A w9 from HB4.out.trans (hb9.mono (by have := HB4.out.size; rw [HNA.out] at this; exact this)))
    clear hb9 HX3 HX4 HC3 HC4 HMS HB4
    go_wp2_with fail
    go_roundw
    case rel => exact ⟨j + 1, by omega, by go_num, HB9.out⟩
    case measure => simp [intOf]; omega
theorem sdeltas_row (w : World) (a0 : Option Addr) (l0 c0 : Nat) (z0 : List Int) (h0 : IsRow .u8 w a0 l0 c0 z0) (d : Dl) (v : Value) (o : List Cp) (hd : d.h.length = 32) (hv : InOp w v o) (_wf : d.Wf) (a2 : Int) (_w2 : (Lit.int .i64 a2).wf = true) (a3 : Option Addr) (l3 c3 : Nat) (z3 : List Int) (h3 : IsRow .i64 w a3 l3 c3 z3) (a4 : Int) (_w4 : (Lit.int .i64 a4).wf = true) (a5 : Int) (w5 : (Lit.int .u8 a5).wf = true) (a6 : Option Addr) (l6 c6 : Nat) (z6 : List Int) (h6 : IsRow .u8 w a6 l6 c6 z6) (ht : Tabs w) :
    Calls Tryd.prog 3 #[.slice a0 l0 c0, .agg (d.cells v).toArray, .int .i64 a2, .slice a3 l3 c3, .int .i64 a4, .int .u8 a5, .slice a6 l6 c6] w fun e w' => e = .returned (.bool true) ∧ Below w.heap.size w w' := by
  obtain ⟨key, k1, k2, k3⟩ := bytes_of_row h0
  obtain ⟨other, b1, b2, b3⟩ := bytes_of_row h6
  obtain ⟨by_, hby⟩ : ∃ y : UInt8, (y.toNat : Int) = a5 := ⟨UInt8.ofNat a5.toNat, by have := wf_u8 w5; rw [UInt8.toNat_ofNat']; omega⟩
  subst k1
  subst b1
  subst hby
  exact sdeltas_any key a0 _ c0 rfl (row_cap9 h0) (cap_row9 h0) d v o hd a2 a3 l3 c3 a4 by_ other a6 _ c6 rfl (row_cap9 h6) (cap_row9 h6) w ht k3 hv (ns_of_row h3) (row_cap9 h3) (len_of_row h3) b3
end Go.Proofs.YtinifnpajkldbaaDoor

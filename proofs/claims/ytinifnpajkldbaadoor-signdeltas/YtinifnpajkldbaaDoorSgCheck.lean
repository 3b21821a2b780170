/- The contract of package sign's Check. -/
import Derived.Test.YtinifnpajkldbaaDoorSgCore
import Derived.Test.YtinifnpajkldbaaDoorSgMac
import Derived.Test.YtinifnpajkldbaaDoorPk24
import Derived.Test.YtinifnpajkldbaaDoorPk12
import Derived.Deep.RegionHeld3
namespace Go.Proofs.YtinifnpajkldbaaDoor
open Go.RowKit
set_option linter.unusedSimpArgs false
set_option linter.unusedVariables false

set_option maxRecDepth 100000 in
set_option maxHeartbeats 4000000 in
theorem sCheck_any (ks : List Value) (KY : Nat → List UInt8) (host : Int) (e : En) (he : e.Ok) (bv ov : Value) (body : List UInt8) (o : List Cp) (w : World) (ht : Tabs w) (hk : KW w ks KY) (hb : Reads w bv (B body)) (hbl : body.length ≤ 400) (hv : RC w ov o) (hf : FewS o) :
    Calls Tryd.prog 27 #[.agg ks.toArray, .int .i64 host, .agg (e.cells bv ov).toArray] w fun x w' => x = .returned (.bool (chkE KY host e body o)) ∧ Below w.heap.size w w' := by
  obtain ⟨cs, hcs⟩ : ∃ cs, e.cells bv ov = cs := ⟨_, rfl⟩
  have HCS := hid hcs
  have HCL := hid (show cs.length = 99 by rw [← hcs]; exact En.len he)
  obtain ⟨L, hL⟩ : ∃ L, w.heap.size = L := ⟨_, rfl⟩
  have hL2 : 2 ≤ L := by rw [← hL]; exact ht.two
  have HTB := hid (show ∀ wx, Below L w wx → Tabs wx from fun wx h => ht.below h hL2)
  obtain ⟨N, hN⟩ : ∃ N, coreN body.length o = N := ⟨_, rfl⟩
  obtain ⟨core, hcore⟩ : ∃ core, coreB e body o = core := ⟨_, rfl⟩
  have HNL := hid (show core.length = N by rw [← hcore, ← hN]; exact coreB_len he body o)
  have hN2 : N ≤ 8600 := by rw [← hN, coreN]; have := hf.le; omega
  have GC := hid (show ∀ wx, Below L w wx → Calls Tryd.prog 25 #[.agg cs.toArray] wx (fun x w' => ∃ g cap, x = .returned (.slice (some ⟨g, 0, none⟩) N cap) ∧ wx.heap.size ≤ g ∧ Owns w' 5 g cap N (B core) ∧ Below wx.heap.size wx w') from fun wx h => by
    have := sCore_own e he bv ov body o wx (hb.later (by rw [hL]; exact h)) hbl (hv.later (by rw [hL]; exact h)) hf
    rw [hcs, hN, hcore] at this
    exact this)
  have HCH := hid (show chkE KY host e body o = if host < 0 ∨ 3 ≤ host then false else e.mac == macS (KY host.toNat) (core ++ e.hash) by rw [chkE, hcore])
  have HE := hid he
  have HIE := hid (show (Tryd.prog.info? 56).map (·.size) = some 99 by kernel_rfl)
  have HIH := hid (show (Tryd.prog.info? 26).map (·.size) = some 32 by kernel_rfl)
  have HIK := hid (show (Tryd.prog.info? 35).map (·.size) = some 3 by kernel_rfl)
  have HCW := hid (show ∀ wx, Blk wx 56 (L + 1) cs → wx.rangeAt (L + 1) 0 cs from fun wx h => h.range fun j v hv => by rw [Nat.zero_add]; exact hv)
  obtain ⟨ms, hms⟩ : ∃ ms, B e.mac = ms := ⟨_, rfl⟩
  have HML := hid (show ms.length = 32 by rw [← hms, B_length, he.h3])
  have HEW := hid (show ∀ wx, Blk wx 56 (L + 1) cs → wx.rangeAt (L + 1) 67 ms from fun wx h => by rw [← hms]; exact (EnW.mk he (by rw [hcs]; exact h) : EnW wx 56 (L + 1) e bv ov).mac)
  have HEH := hid (show ∀ wx, Blk wx 56 (L + 1) cs → wx.rangeAt (L + 1) 35 (B e.hash) from fun wx h => (EnW.mk he (by rw [hcs]; exact h) : EnW wx 56 (L + 1) e bv ov).hash)
  have HKW := hid hk
  have HKL := hid hk.len
  generalize hr : chkE KY host e body o = r at *
  rw [hcs]
  have HMS := hid hms
  clear hcs hb hv hf he hN hcore hk hms hr ht
  go_enter Tryd.func27, Tryd.ntmps27
  go_upto_region 1 with (first
    | (show wpList _ _ _ (⟨some 3, Op.box _ _, _, _, _, _⟩ :: _) _ _; go_must (refine wpList_box_blk rfl 35 _ rfl ks rfl L hL ?_); intro w1 hB1 hb1 hs1; have HB1 := hid hB1; have Hb1 := hid hb1; clear hB1 hb1)
    | (show wpList _ _ _ (⟨some 5, Op.box _ _, _, _, _, _⟩ :: _) _ _; go_must (refine wpList_box_blk rfl 56 _ rfl cs rfl (L + 1) hs1 ?_); intro w2 hB2 hb2 hs2; have HB2 := hid hB2; have Hb2 := hid hb2; clear hB2 hb2))
  -- REGION1
  have HB := hid (show Below L w w2 from Hb1.out.trans (Hb2.out.mono (by omega)))
  have HS := hid (show HK L (L + 2) w [(56, L + 1, cs), (35, L, ks)] w2.drew from by
    refine HK.drew (HK.cons (HK.cons (HK.nil (by omega) HB.out (by omega)) ?_ (by omega)) ?_ (by omega))
    · exact HB1.out.kept (Hb2.out.block L (by omega))
    · exact HB2.out)
  clear hs1 hs2 HB1 HB2 Hb1 Hb2 HB
  by_cases hd : host < 0 ∨ 3 ≤ host
  · have HR := hid (show r = false by rw [HCH.out, if_pos hd])
    have HDOM := hid (show domS host = false from by rcases hd with h | h; exact domS_low h; exact domS_high h)
    clear hd
    refine wp_region_held_drew (S := fun w' => HK L (L + 2) w [(56, L + 1, cs), (35, L, ks)] w') (by kernel_rfl) (HS.out) (fun hHeld => ?_)
    generalize w2.drew = wd at *
    refine wpAnyH_take (i := 0) (v := .int .i64 host) rfl (by kernel_rfl) (by kernel_rfl) (by kernel_rfl) (fun _ _ _ h => h) (Or.inl ⟨by rfl, by intro w hSw; go_simp⟩) hHeld ?_
    try simp only [Act.put, List.setIfInBounds_toArray, List.set_cons_zero, List.set_cons_succ, List.getElem_toArray, List.getElem_cons_zero, List.getElem_cons_succ]
    refine wpAnyH_ready (rs := [1]) (by kernel_rfl) (by simp) ?_
    refine AllReadyH.cons rfl (fun K hK => ?_) AllReadyH.nil
    go_simp
    refine (sIs_any _ _).mono ?_
    rintro _ wz ⟨rfl, hwz⟩
    subst hwz
    rw [HDOM.out]
    refine hK.out _ _ (hHeld) (fun hHeld => ?_)
    clear hK K
    try simp only [Act.put, List.setIfInBounds_toArray, List.set_cons_zero, List.set_cons_succ, List.getElem_toArray, List.getElem_cons_zero, List.getElem_cons_succ]
    refine wpAnyH_take (i := 2) (v := .bool false) rfl (by kernel_rfl) (by kernel_rfl) (by kernel_rfl) (fun _ _ _ h => h) (Or.inl ⟨by rfl, by intro w hSw; go_simp⟩) hHeld ?_
    try simp only [Act.put, List.setIfInBounds_toArray, List.set_cons_zero, List.set_cons_succ, List.getElem_toArray, List.getElem_cons_zero, List.getElem_cons_succ]
    refine wpAnyH_take (i := 3) (v := undef) rfl (by kernel_rfl) (by kernel_rfl) (by kernel_rfl) (fun _ _ _ h => h) (Or.inr ⟨by rfl, rfl⟩) hHeld ?_
    try simp only [Act.put, List.setIfInBounds_toArray, List.set_cons_zero, List.set_cons_succ, List.getElem_toArray, List.getElem_cons_zero, List.getElem_cons_succ]
    refine wpAnyH_take (i := 4) (v := undef) rfl (by kernel_rfl) (by kernel_rfl) (by kernel_rfl) (fun _ _ _ h => h) (Or.inr ⟨by rfl, rfl⟩) hHeld ?_
    try simp only [Act.put, List.setIfInBounds_toArray, List.set_cons_zero, List.set_cons_succ, List.getElem_toArray, List.getElem_cons_zero, List.getElem_cons_succ]
    refine wpAnyH_take (i := 5) (v := undef) rfl (by kernel_rfl) (by kernel_rfl) (by kernel_rfl) (fun _ _ _ h => h) (Or.inr ⟨by rfl, rfl⟩) hHeld ?_
    try simp only [Act.put, List.setIfInBounds_toArray, List.set_cons_zero, List.set_cons_succ, List.getElem_toArray, List.getElem_cons_zero, List.getElem_cons_succ]
    refine wpAnyH_take (i := 6) (v := undef) rfl (by kernel_rfl) (by kernel_rfl) (by kernel_rfl) (fun _ _ _ h => h) (Or.inr ⟨by rfl, rfl⟩) hHeld ?_
    try simp only [Act.put, List.setIfInBounds_toArray, List.set_cons_zero, List.set_cons_succ, List.getElem_toArray, List.getElem_cons_zero, List.getElem_cons_succ]
    refine wpAnyH_take (i := 7) (v := undef) rfl (by kernel_rfl) (by kernel_rfl) (by kernel_rfl) (fun _ _ _ h => h) (Or.inr ⟨by rfl, rfl⟩) hHeld ?_
    try simp only [Act.put, List.setIfInBounds_toArray, List.set_cons_zero, List.set_cons_succ, List.getElem_toArray, List.getElem_cons_zero, List.getElem_cons_succ]
    refine wpAnyH_take (i := 8) (v := undef) rfl (by kernel_rfl) (by kernel_rfl) (by kernel_rfl) (fun _ _ _ h => h) (Or.inr ⟨by rfl, rfl⟩) hHeld ?_
    try simp only [Act.put, List.setIfInBounds_toArray, List.set_cons_zero, List.set_cons_succ, List.getElem_toArray, List.getElem_cons_zero, List.getElem_cons_succ]
    refine wpAnyH_take (i := 9) (v := undef) rfl (by kernel_rfl) (by kernel_rfl) (by kernel_rfl) (fun _ _ _ h => h) (Or.inr ⟨by rfl, rfl⟩) hHeld ?_
    try simp only [Act.put, List.setIfInBounds_toArray, List.set_cons_zero, List.set_cons_succ, List.getElem_toArray, List.getElem_cons_zero, List.getElem_cons_succ]
    refine wpAnyH_take (i := 10) (v := undef) rfl (by kernel_rfl) (by kernel_rfl) (by kernel_rfl) (fun _ _ _ h => h) (Or.inr ⟨by rfl, rfl⟩) hHeld ?_
    try simp only [Act.put, List.setIfInBounds_toArray, List.set_cons_zero, List.set_cons_succ, List.getElem_toArray, List.getElem_cons_zero, List.getElem_cons_succ]
    refine wpAnyH_take (i := 11) (v := undef) rfl (by kernel_rfl) (by kernel_rfl) (by kernel_rfl) (fun _ _ _ h => h) (Or.inr ⟨by rfl, rfl⟩) hHeld ?_
    try simp only [Act.put, List.setIfInBounds_toArray, List.set_cons_zero, List.set_cons_succ, List.getElem_toArray, List.getElem_cons_zero, List.getElem_cons_succ]
    refine wpAnyH_take (i := 12) (v := undef) rfl (by kernel_rfl) (by kernel_rfl) (by kernel_rfl) (fun _ _ _ h => h) (Or.inr ⟨by rfl, rfl⟩) hHeld ?_
    try simp only [Act.put, List.setIfInBounds_toArray, List.set_cons_zero, List.set_cons_succ, List.getElem_toArray, List.getElem_cons_zero, List.getElem_cons_succ]
    refine wpAnyH_take (i := 13) (v := undef) rfl (by kernel_rfl) (by kernel_rfl) (by kernel_rfl) (fun _ _ _ h => h) (Or.inr ⟨by rfl, rfl⟩) hHeld ?_
    try simp only [Act.put, List.setIfInBounds_toArray, List.set_cons_zero, List.set_cons_succ, List.getElem_toArray, List.getElem_cons_zero, List.getElem_cons_succ]
    refine wpAnyH_take (i := 14) (v := .bool false) rfl (by kernel_rfl) (by kernel_rfl) (by kernel_rfl) (fun _ _ _ h => h) (Or.inl ⟨by rfl, by intro w hSw; go_simp⟩) hHeld ?_
    try simp only [Act.put, List.setIfInBounds_toArray, List.set_cons_zero, List.set_cons_succ, List.getElem_toArray, List.getElem_cons_zero, List.getElem_cons_succ]
    refine wpAnyH_ready (rs := [15]) (by kernel_rfl) (by simp) ?_
    refine AllReadyH.cons rfl (fun K hK => ?_) AllReadyH.nil
    go_simp
    refine hK.out _ _ (hHeld) (fun hHeld => ?_)
    clear hK K
    try simp only [Act.put, List.setIfInBounds_toArray, List.set_cons_zero, List.set_cons_succ, List.getElem_toArray, List.getElem_cons_zero, List.getElem_cons_succ]
    refine wpAnyH_done (by kernel_rfl) ?_ _
    go_wp2_with fail
    go_ret
    exact ⟨by rw [HR.out]; rfl, by first | exact hHeld.bel | (rw [hL]; exact hHeld.bel)⟩
  obtain ⟨j, hj⟩ : ∃ j : Nat, host = (j : Int) := ⟨host.toNat, by omega⟩
  subst hj
  have hj3 : j < 3 := by omega
  have HDOM := hid (show domS (j : Int) = true from domS_in (by omega) (by omega))
  obtain ⟨mc, hmc⟩ : ∃ mc, macS (KY j) (core ++ e.hash) = mc := ⟨_, rfl⟩
  have HMC := hid hmc
  have HEQ := hid (show ∀ wx, (Op.equalIn 10000 26 (.agg ms.toArray) (.agg (B mc).toArray)).run Tryd.prog wx = .ok (e.mac == mc) wx from fun wx => by rw [← HMS.out]; exact equal_hash9 wx e.mac mc HE.out.h3 (by rw [← hmc]; exact macS_len _ _))
  have HR := hid (show r = (e.mac == mc) by rw [HCH.out, if_neg (by omega), Int.toNat_natCast, hmc])
  clear hmc hd HCH
  refine wp_region_held_drew (S := fun w' => HK L (L + 2) w [(56, L + 1, cs), (35, L, ks)] w') (by kernel_rfl) (HS.out) (fun hHeld => ?_)
  generalize w2.drew = wd at *
  refine wpAnyH_take (i := 0) (v := .int .i64 (j : Int)) rfl (by kernel_rfl) (by kernel_rfl) (by kernel_rfl) (fun _ _ _ h => h) (Or.inl ⟨by rfl, by intro w hSw; go_simp⟩) hHeld ?_
  try simp only [Act.put, List.setIfInBounds_toArray, List.set_cons_zero, List.set_cons_succ, List.getElem_toArray, List.getElem_cons_zero, List.getElem_cons_succ]
  refine wpAnyH_ready (rs := [1]) (by kernel_rfl) (by simp) ?_
  refine AllReadyH.cons rfl (fun K hK => ?_) AllReadyH.nil
  go_simp
  refine (sIs_any _ _).mono ?_
  rintro _ wz ⟨rfl, hwz⟩
  subst hwz
  rw [HDOM.out]
  refine hK.out _ _ (hHeld) (fun hHeld => ?_)
  clear hK K
  try simp only [Act.put, List.setIfInBounds_toArray, List.set_cons_zero, List.set_cons_succ, List.getElem_toArray, List.getElem_cons_zero, List.getElem_cons_succ]
  refine wpAnyH_take (i := 2) (v := .bool true) rfl (by kernel_rfl) (by kernel_rfl) (by kernel_rfl) (fun _ _ _ h => h) (Or.inl ⟨by rfl, by intro w hSw; go_simp⟩) hHeld ?_
  try simp only [Act.put, List.setIfInBounds_toArray, List.set_cons_zero, List.set_cons_succ, List.getElem_toArray, List.getElem_cons_zero, List.getElem_cons_succ]
  refine wpAnyH_take (i := 3) (v := .pointer (some ⟨L + 1, 67, none⟩)) rfl (by kernel_rfl) (by kernel_rfl) (by kernel_rfl) (fun _ _ _ h => h) (Or.inl ⟨by rfl, by intro w hSw; go_simp⟩) hHeld ?_
  try simp only [Act.put, List.setIfInBounds_toArray, List.set_cons_zero, List.set_cons_succ, List.getElem_toArray, List.getElem_cons_zero, List.getElem_cons_succ]
  refine wpAnyH_take (i := 4) (v := _) rfl (by kernel_rfl) (by kernel_rfl) (by kernel_rfl) (fun _ _ _ h => h) (yieldsIf_load_mid (by rfl) _ _ rfl _ _ rfl ms _ (fun w hSw => ((HEW.out _ hSw.fst))) Tryd.underlying26 rfl (by rw [HML.out]; exact HIH.out)) hHeld ?_
  try simp only [Act.put, List.setIfInBounds_toArray, List.set_cons_zero, List.set_cons_succ, List.getElem_toArray, List.getElem_cons_zero, List.getElem_cons_succ]
  refine wpAnyH_take (i := 5) (v := _) rfl (by kernel_rfl) (by kernel_rfl) (by kernel_rfl) (fun _ _ _ h => h) (yieldsIf_load_mid (by rfl) _ _ rfl _ _ rfl ks _ (fun w hSw => (hSw.tl.fst.range fun j v hv => by rw [Nat.zero_add]; exact hv)) Tryd.underlying35 rfl (by rw [HKL.out]; exact HIK.out)) hHeld ?_
  try simp only [Act.put, List.setIfInBounds_toArray, List.set_cons_zero, List.set_cons_succ, List.getElem_toArray, List.getElem_cons_zero, List.getElem_cons_succ]
  refine wpAnyH_take (i := 6) (v := .int .i64 (j : Int)) rfl (by kernel_rfl) (by kernel_rfl) (by kernel_rfl) (fun _ _ _ h => h) (Or.inl ⟨by rfl, by intro w hSw; go_simp⟩) hHeld ?_
  try simp only [Act.put, List.setIfInBounds_toArray, List.set_cons_zero, List.set_cons_succ, List.getElem_toArray, List.getElem_cons_zero, List.getElem_cons_succ]
  refine wpAnyH_take (i := 7) (v := _) rfl (by kernel_rfl) (by kernel_rfl) (by kernel_rfl) (fun _ _ _ h => h) (yieldsIf_load_mid (by rfl) _ _ rfl _ _ rfl cs _ (fun w hSw => (HCW.out _ hSw.fst)) Tryd.underlying56 rfl (by rw [HCL.out]; exact HIE.out)) hHeld ?_
  try simp only [Act.put, List.setIfInBounds_toArray, List.set_cons_zero, List.set_cons_succ, List.getElem_toArray, List.getElem_cons_zero, List.getElem_cons_succ]
  refine wpAnyH_take (i := 9) (v := .pointer (some ⟨L + 1, 35, none⟩)) rfl (by kernel_rfl) (by kernel_rfl) (by kernel_rfl) (fun _ _ _ h => h) (Or.inl ⟨by rfl, by intro w hSw; go_simp⟩) hHeld ?_
  try simp only [Act.put, List.setIfInBounds_toArray, List.set_cons_zero, List.set_cons_succ, List.getElem_toArray, List.getElem_cons_zero, List.getElem_cons_succ]
  refine wpAnyH_take (i := 10) (v := .slice (some ⟨L + 1, 35, none⟩) 32 32) rfl (by kernel_rfl) (by kernel_rfl) (by kernel_rfl) (fun _ _ _ h => h) (Or.inl ⟨by rfl, by intro w hSw; go_simp⟩) hHeld ?_
  try simp only [Act.put, List.setIfInBounds_toArray, List.set_cons_zero, List.set_cons_succ, List.getElem_toArray, List.getElem_cons_zero, List.getElem_cons_succ]
  refine wpAnyH_ready (rs := [8]) (by kernel_rfl) (by simp) ?_
  refine AllReadyH.cons rfl (fun K hK => ?_) AllReadyH.nil
  go_simp
  refine (GC.out _ hHeld.bel).mono ?_
  have HSZ := hid hHeld.size
  rintro _ w5 ⟨g2, c2, rfl, hg2, hO2, hb2⟩
  refine hK.out _ _ (hHeld.later hb2) (fun hHeld => ?_)
  clear hK K
  try simp only [Act.put, List.setIfInBounds_toArray, List.set_cons_zero, List.set_cons_succ, List.getElem_toArray, List.getElem_cons_zero, List.getElem_cons_succ]
  have hc2 : c2 ≤ maxLen := hO2.2.2.1
  have HO2 := hid hO2
  clear hO2 hb2
  refine wpAnyH_ready (rs := [11]) (by kernel_rfl) (by simp) ?_
  refine AllReadyH.cons rfl (fun K hK => ?_) AllReadyH.nil
  go_simp
  refine hK.out _ _ (hHeld.alloc _) (fun hHeld => ?_)
  clear hK K
  try simp only [Act.put, List.setIfInBounds_toArray, List.set_cons_zero, List.set_cons_succ, List.getElem_toArray, List.getElem_cons_zero, List.getElem_cons_succ]
  have hbA : Below w5.heap.size w5 (w5.alloc (.cells #[.slice (some ⟨g2, 0, none⟩) N c2, .slice (some ⟨L + 1, 35, none⟩) 32 32] 22)) := (Below.refl _ _).alloc (Nat.le_refl _) _
  have HPA := hid (show Parts (w5.alloc (.cells #[.slice (some ⟨g2, 0, none⟩) N c2, .slice (some ⟨L + 1, 35, none⟩) 32 32] 22)) (.slice (some ⟨w5.heap.size, 0, none⟩) 2 2) [core, e.hash] from Parts.pair (t := 22) (fr := (0, 0)) (by rw [heap_of_alloc]; exact if_pos rfl) (HO2.out.reads.later hbA) HNL.out hc2 (reads_range HE.out.h2 (HEH.out _ hHeld.fst)) HE.out.h2 (by unfold maxLen; omega))
  clear hbA
  refine wpAnyH_ready (rs := [12]) (by kernel_rfl) (by simp) ?_
  refine AllReadyH.cons rfl (fun K hK => ?_) AllReadyH.nil
  go_simp
  refine (sMac_any ks KY j hj3 _ 2 2 [core, e.hash] rfl _ (HTB.out _ hHeld.bel) (HKW.out.later (by rw [hL]; exact hHeld.bel)) HPA.out (by omega) (by have := HNL.out; have := HE.out.h2; simp; omega)).mono ?_
  rintro _ w7 ⟨rfl, hb7⟩
  rw [show [core, e.hash].flatten = core ++ e.hash by simp, HMC.out]
  refine hK.out _ _ (hHeld.later hb7) (fun hHeld => ?_)
  clear hK K
  try simp only [Act.put, List.setIfInBounds_toArray, List.set_cons_zero, List.set_cons_succ, List.getElem_toArray, List.getElem_cons_zero, List.getElem_cons_succ]
  clear hb7 HPA HO2
  refine wpAnyH_take (i := 13) (v := .bool (e.mac == mc)) rfl (by kernel_rfl) (by kernel_rfl) (by kernel_rfl) (fun _ _ _ h => h) (Or.inl ⟨by rfl, by intro w hSw; have q := HEQ.out w; go_simp⟩) hHeld ?_
  try simp only [Act.put, List.setIfInBounds_toArray, List.set_cons_zero, List.set_cons_succ, List.getElem_toArray, List.getElem_cons_zero, List.getElem_cons_succ]
  refine wpAnyH_take (i := 14) (v := .bool (e.mac == mc)) rfl (by kernel_rfl) (by kernel_rfl) (by kernel_rfl) (fun _ _ _ h => h) (Or.inl ⟨by rfl, by intro w hSw; go_simp⟩) hHeld ?_
  try simp only [Act.put, List.setIfInBounds_toArray, List.set_cons_zero, List.set_cons_succ, List.getElem_toArray, List.getElem_cons_zero, List.getElem_cons_succ]
  refine wpAnyH_ready (rs := [15]) (by kernel_rfl) (by simp) ?_
  refine AllReadyH.cons rfl (fun K hK => ?_) AllReadyH.nil
  go_simp
  refine hK.out _ _ (hHeld) (fun hHeld => ?_)
  clear hK K
  try simp only [Act.put, List.setIfInBounds_toArray, List.set_cons_zero, List.set_cons_succ, List.getElem_toArray, List.getElem_cons_zero, List.getElem_cons_succ]
  refine wpAnyH_done (by kernel_rfl) ?_ _
  go_wp2_with fail
  go_ret
  exact ⟨by rw [HR.out]; rfl, by first | exact hHeld.bel | (rw [hL]; exact hHeld.bel)⟩
end Go.Proofs.YtinifnpajkldbaaDoor

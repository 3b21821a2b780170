/- The contract of package sign's Delta. -/
import Derived.Test.YtinifnpajkldbaaDoorSgMac
import Derived.Test.YtinifnpajkldbaaDoorPk26
import Derived.Test.YtinifnpajkldbaaDoorDBytes2
import Derived.Test.YtinifnpajkldbaaDoorPk12
namespace Go.Proofs.YtinifnpajkldbaaDoor
open Go.RowKit
set_option linter.unusedSimpArgs false
set_option linter.unusedVariables false

set_option maxRecDepth 100000 in
set_option maxHeartbeats 4000000 in
theorem sDelta_own (ks : List Value) (KY : Nat → List UInt8) (d : Dl) (hd : d.h.length = 32) (j : Nat) (hD : d.aD = (j : Int)) (hj : j < 3) (v : Value) (o : List Cp) (w : World) (ht : Tabs w) (hk : KW w ks KY) (hv : RC w v o) (hf : FewS o) :
    Calls Tryd.prog 13 #[.agg ks.toArray, .agg (d.cells v).toArray] w fun x w' => ∃ g cap, x = .returned (.agg (sgC (.slice (some ⟨g, 0, none⟩) (84 + partsN o) cap) (macS (KY j) (dB d o))).toArray) ∧ w.heap.size ≤ g ∧ Owns w' 5 g cap (84 + partsN o) (B (dB d o)) ∧ Below w.heap.size w w' := by
  obtain ⟨ds, hds⟩ : ∃ ds, d.cells v = ds := ⟨_, rfl⟩
  have HDS := hid hds
  have HDL := hid (show ds.length = 40 by rw [← hds]; exact Dl.len hd)
  obtain ⟨L, hL⟩ : ∃ L, w.heap.size = L := ⟨_, rfl⟩
  have hL2 : 2 ≤ L := by rw [← hL]; exact ht.two
  have HTB := hid (show ∀ wx, Below L w wx → Tabs wx from fun wx h => ht.below h hL2)
  obtain ⟨N, hN⟩ : ∃ N, 84 + partsN o = N := ⟨_, rfl⟩
  have HNL := hid (show (dB d o).length = N by rw [dB_len d o hd, hN])
  have hN2 : N ≤ 8200 := by rw [← hN]; have := hf.le; omega
  have HRB := hid (show ∀ wx, Below L w wx → Calls Tryd.prog 33 #[.agg ds.toArray] wx (fun x w' => ∃ g cap, x = .returned (.slice (some ⟨g, 0, none⟩) N cap) ∧ wx.heap.size ≤ g ∧ Owns w' 5 g cap N (B (dB d o)) ∧ Below wx.heap.size wx w') from fun wx h => by
    have := dBytes_any d hd v o wx (hv.later (by rw [hL]; exact h)) hf
    rw [hds, hN] at this
    exact this)
  obtain ⟨dc, hdc⟩ : ∃ dc, dB d o = dc := ⟨_, rfl⟩
  rw [hdc] at HNL HRB
  obtain ⟨mc, hmc⟩ : ∃ mc, macS (KY j) dc = mc := ⟨_, rfl⟩
  have HMC := hid hmc
  have HMC32 := hid (show mc.length = 32 by rw [← hmc]; exact macS_len _ _)
  have HKW := hid hk
  have HKL := hid hk.len
  have hj3' : (j : Int) < 3 := by omega
  have HI := hid (show (Tryd.prog.info? 30).map (·.size) = some 40 by kernel_rfl)
  have HIK := hid (show (Tryd.prog.info? 35).map (·.size) = some 3 by kernel_rfl)
  have HIS := hid (show (Tryd.prog.info? 40).map (·.size) = some 33 by kernel_rfl)
  have HZ := hid (show (Tryd.prog.info? 40).bind (fun i => i.zero.map fun z => z.cells.toList) = some (sgC (.slice none 0 0) (List.replicate 32 0)) by kernel_rfl)
  have HDW := hid (show ∀ wx, Blk wx 30 (L + 1) ds → wx.rangeAt (L + 1) 0 ds ∧ wx.cell? ⟨L + 1, 0, none⟩ = some (.int .i64 (j : Int)) from fun wx h => ⟨h.range fun j v hv => by rw [Nat.zero_add]; exact hv, by
    rw [← hds] at h
    rw [← hD]
    exact h.cell (j := 0) rfl⟩)
  rw [hN, hdc, hmc, hds]
  clear hds hN hdc hmc hk hv hf hd hD ht
  go_enter Tryd.func13, Tryd.ntmps13
  go_upto_region 1 with (first
    | (show wpList _ _ _ (⟨some 2, Op.box _ _, _, _, _, _⟩ :: _) _ _; go_must (refine wpList_box_blk rfl 35 _ rfl ks rfl L hL ?_); intro w1 hB1 hb1 hs1; have HB1 := hid hB1; have Hb1 := hid hb1; clear hB1 hb1)
    | (show wpList _ _ _ (⟨some 3, Op.box _ _, _, _, _, _⟩ :: _) _ _; go_must (refine wpList_box_blk rfl 30 _ rfl ds rfl (L + 1) hs1 ?_); intro w2 hB2 hb2 hs2; have HB2 := hid hB2; have Hb2 := hid hb2; clear hB2 hb2)
    | (show wpList _ _ _ (⟨some 4, Op.alloc _, _, _, _, _⟩ :: _) _ _; go_must (refine wpList_alloc_blk rfl 40 rfl _ HZ.out (L + 2) hs2 ?_); intro w3 hB3 hb3 hs3; have HB3 := hid hB3; have Hb3 := hid hb3; clear hB3 hb3))
  -- REGION1
  have HS := hid (show HB L (L + 3) w [(30, L + 1, ds), (35, L, ks)] (L + 2) 40 33 w3 from by
    refine HB.cons (HB.cons (HB.nil (by omega) HB3.out (sgC_len (by simp)) (Hb1.out.trans ((Hb2.out.mono (by omega)).trans (Hb3.out.mono (by omega)))) (by omega) (by omega)) ?_ (by omega) (by omega)) ?_ (by omega) (by omega)
    · exact (HB1.out.kept (Hb2.out.block L (by omega))).kept (Hb3.out.block L (by omega))
    · exact HB2.out.kept (Hb3.out.block (L + 1) (by omega)))
  clear hs1 hs2 hs3 HB1 HB2 HB3 Hb1 Hb2 Hb3
  go_wp2_with (show wpList _ _ _ (⟨some 6, Op.load _ _, _, _, _, _⟩ :: _) _ _; go_must (refine wpList_load_mid rfl 30 _ rfl (L + 1) 0 rfl ds _ (HDW.out _ HS.out.fst).1 Tryd.underlying30 rfl (by rw [HDL.out]; exact HI.out) ?_))
  refine (HRB.out _ HS.out.bel).mono ?_
  rintro _ w4 ⟨g4, c4, rfl, hg4, hO4, hb4⟩
  have HO4 := hid hO4
  have hg4' : L + 3 ≤ g4 := Nat.le_trans HS.out.size hg4
  have HS4 := hid (HS.out.later hb4)
  have cD := (HDW.out _ HS4.out.fst).2
  have hc4 : c4 ≤ maxLen := hO4.2.2.1
  clear hg4 hO4 hb4 HS
  have hbB : ∀ o, Below w4.heap.size w4 (w4.alloc o) := fun o => (Below.refl _ _).alloc (Nat.le_refl _) o
  have HBB := hid hbB
  have HP4 := hid (show Parts (w4.alloc (.cells #[.slice (some ⟨g4, 0, none⟩) N c4] 22)) (.slice (some ⟨w4.heap.size, 0, none⟩) 1 1) [dc] from
    Parts.one (t := 22) (fr := (0, 0)) (by rw [heap_of_alloc]; exact if_pos rfl) (HO4.out.reads.later (hbB _)) HNL.out hc4)
  clear hbB
  go_wp2_with (show wpList _ _ _ (⟨some 9, Op.load _ _, _, _, _, _⟩ :: _) _ _; go_must (refine wpList_load_mid rfl 35 _ rfl L 0 rfl ks _ (HS4.out.tl.fst.range fun j v hv => by rw [Nat.zero_add]; exact hv) Tryd.underlying35 rfl (by rw [HKL.out]; exact HIK.out) ?_))
  -- CALL
  have HS5 := hid (HS4.out.later (HBB.out (.cells #[.slice (some ⟨g4, 0, none⟩) N c4] 22)))
  refine (sMac_any ks KY j hj _ 1 1 [dc] rfl _ (HTB.out _ HS5.out.bel) (HKW.out.later (by rw [hL]; exact HS5.out.bel)) HP4.out (by omega) (by have := HNL.out; simp; omega)).mono ?_
  rintro _ w5 ⟨rfl, hb5⟩
  rw [show [dc].flatten = dc by simp, HMC.out]
  have HO5 := hid ((HO4.out.later (HBB.out (.cells #[.slice (some ⟨g4, 0, none⟩) N c4] 22))).later hb5)
  have HS6 := hid (HS5.out.later hb5)
  obtain ⟨gs, hgs⟩ : ∃ gs, sgC (.slice (some ⟨g4, 0, none⟩) N c4) mc = gs := ⟨_, rfl⟩
  have HGL := hid (show gs.length = 33 by rw [← hgs]; exact sgC_len HMC32.out)
  have HGO := hid (show ∀ v ∈ gs, v.oneCell' = true by rw [← hgs]; exact sgC_one rfl)
  have HGS := hid hgs
  obtain ⟨mcs, hmcs⟩ : ∃ mcs, B mc = mcs := ⟨_, rfl⟩
  have HBD := hid (show ∀ wx, (Instr.build 40 #[(0, .slice (some ⟨g4, 0, none⟩) N c4), (1, .agg mcs.toArray)]).run Tryd.prog wx = .ok (.agg gs.toArray) wx from fun wx => by rw [← hmcs, ← hgs]; exact run_signed wx _ N c4 mc HMC32.out)
  rw [hmcs]
  clear hb5 cD hgs hmcs HS4 HS5 HO4 HP4 HBB hc4
  go_wp2_with (first
    | (show wpList _ _ _ (⟨some 16, Op.build _ _, _, _, _, _⟩ :: _) _ _; go_must (refine wpList_build9 rfl 40 _ rfl #[(0, .slice (some ⟨g4, 0, none⟩) N c4), (1, .agg mcs.toArray)] (by first | rfl | simp [Act.eval] | go_simp) gs.toArray HBD.out ?_))
    | (show wpList _ _ _ (⟨none, Op.store _ (Operand.tmp 4) (Operand.tmp 16), _, _, _, _⟩ :: _) _ _; go_must (refine wpList_store_list rfl 40 _ _ rfl (L + 2) 0 gs rfl rfl (HS6.out.there (by rw [HGL.out]; omega)) (by rw [HGL.out]; exact HIS.out) HGO.out ?_); intro w6 hw6; have HX := hid (show Blk w6 40 (L + 2) gs ∧ HB L (L + 3) w [(30, L + 1, ds), (35, L, ks)] (L + 2) 40 33 w6 ∧ Owns w6 5 g4 c4 N (B dc) by rw [hw6]; exact ⟨HS6.out.whole HGL.out, HS6.out.store gs 0 (by rw [HGL.out]; omega), HO5.out.kept (setCells_heap (by omega) gs 0 _)⟩); clear hw6))
  -- RET
  refine ret_cell 4 40 rfl (L + 2) rfl gs _ (HX.out.1.range fun j v hv => by rw [Nat.zero_add]; exact hv) Tryd.underlying40 rfl (by rw [HGL.out]; exact HIS.out) rfl ⟨g4, c4, by rw [HGS.out], by omega, HX.out.2.2, by rw [hL]; exact HX.out.2.1.bel⟩

theorem sDelta_any (ks : List Value) (KY : Nat → List UInt8) (d : Dl) (hd : d.h.length = 32) (j : Nat) (hD : d.aD = (j : Int)) (hj : j < 3) (v : Value) (o : List Cp) (w : World) (ht : Tabs w) (hk : KW w ks KY) (hv : RC w v o) (hf : FewS o) (hc : chkD d o = 0) :
    Calls Tryd.prog 13 #[.agg ks.toArray, .agg (d.cells v).toArray] w fun x w' => ∃ a n c, x = .returned (.agg (sgC (.slice a n c) (macS (KY j) (dB d o))).toArray) ∧ (dB d o).length = n ∧ c ≤ maxLen ∧ Reads w' (.slice a n c) (B (dB d o)) ∧ Below w.heap.size w w' := by
  refine (sDelta_own ks KY d hd j hD hj v o w ht hk hv hf).mono ?_
  rintro _ w' ⟨g, c, rfl, h1, h2, h3⟩
  exact ⟨some ⟨g, 0, none⟩, _, c, rfl, dB_len d o hd, h2.2.2.1, h2.reads, h3⟩
end Go.Proofs.YtinifnpajkldbaaDoor

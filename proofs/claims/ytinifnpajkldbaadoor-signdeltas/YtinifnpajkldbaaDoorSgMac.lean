/- The contracts of package sign's isDomain and mac. -/
import Derived.Test.YtinifnpajkldbaaDoorPk2
import Derived.Test.YtinifnpajkldbaaDoorPk6
import Derived.Test.YtinifnpajkldbaaDoorMacSign
namespace Go.Proofs.YtinifnpajkldbaaDoor
open Go.RowKit
set_option linter.unusedSimpArgs false
set_option linter.unusedVariables false

def domS (d : Int) : Bool := decide (0 ≤ d) && decide (d < 3)
theorem domS_in {d : Int} (h : 0 ≤ d) (h2 : d < 3) : domS d = true := by unfold domS; simp; omega
theorem domS_low {d : Int} (h : d < 0) : domS d = false := by unfold domS; simp; omega
theorem domS_high {d : Int} (h : 3 ≤ d) : domS d = false := by unfold domS; simp; omega

set_option maxHeartbeats 1000000 in
theorem sIs_any (d : Int) (w : World) : Calls Tryd.prog 57 #[.int .i64 d] w fun e w' => e = .returned (.bool (domS d)) ∧ w' = w := by
  by_cases h : d < 0
  · have HR := hid (domS_low h)
    have h1 : ¬ (0 : Int) ≤ d := by omega
    go_enter Tryd.func57, Tryd.ntmps57
    go_wp2
    go_ret
    exact ⟨by rw [HR.out]; rfl, rfl⟩
  have h1 : (0 : Int) ≤ d := by omega
  by_cases h2 : d < 3
  · have HR := hid (domS_in h1 h2)
    go_enter Tryd.func57, Tryd.ntmps57
    go_wp2
    go_ret
    exact ⟨by rw [HR.out]; rfl, rfl⟩
  · have HR := hid (domS_high (d := d) (by omega))
    go_enter Tryd.func57, Tryd.ntmps57
    go_wp2
    go_ret
    exact ⟨by rw [HR.out]; rfl, rfl⟩

set_option maxRecDepth 100000 in
set_option maxHeartbeats 4000000 in
theorem sMac_any (ks : List Value) (KY : Nat → List UInt8) (j : Nat) (hj : j < 3) (pa : Option Addr) (pn pc : Nat) (ls : List (List UInt8)) (hpn : ls.length = pn) (w : World) (ht : Tabs w) (hk : KW w ks KY) (hp : Parts w (.slice pa pn pc) ls) (hpb : pn ≤ 1000) (htot : ls.flatten.length ≤ 100000) :
    Calls Tryd.prog 34 #[.agg ks.toArray, .int .i64 (j : Int), .slice pa pn pc] w fun x w' => x = .returned (.agg (B (macS (KY j) ls.flatten)).toArray) ∧ Below w.heap.size w w' := by
  obtain ⟨L, hL⟩ : ∃ L, w.heap.size = L := ⟨_, rfl⟩
  have hL2 : 2 ≤ L := by rw [← hL]; exact ht.two
  have HTB := hid (show ∀ wx, Below L w wx → Tabs wx from fun wx h => ht.below h hL2)
  have HPT := hid hp
  have HPN := hid hpn
  obtain ⟨text, htx⟩ : ∃ text, ls.flatten = text := ⟨_, rfl⟩
  have HTX := hid htx
  obtain ⟨mc, hmc⟩ : ∃ mc, macS (KY j) text = mc := ⟨_, rfl⟩
  have HMC := hid hmc
  have HMC32 := hid (show mc.length = 32 by rw [← hmc]; exact macS_len _ _)
  obtain ⟨ms, hms⟩ : ∃ ms, B mc = ms := ⟨_, rfl⟩
  have HMS := hid hms
  have HML := hid (show ms.length = 32 by rw [← hms, B_length, HMC32.out])
  have HMO := hid (show ∀ v ∈ ms, v.oneCell' = true by rw [← hms]; exact B_one _)
  obtain ⟨ka, kn, kc, k1, k2, k3, k4, k5⟩ := hk.get j hj
  have HKJ := hid k1
  have HKN := hid k2
  have HK2 := hid k3
  have HKC := hid k4
  have HKR := hid k5
  have hj3' : (j : Int) < 3 := by omega
  have HIH := hid (show (Tryd.prog.info? 26).map (·.size) = some 32 by kernel_rfl)
  have HZ := hid (show (Tryd.prog.info? 26).bind (fun i => i.zero.map fun z => z.cells.toList) = some (B (List.replicate 32 0)) by kernel_rfl)
  have hkl := hk.len
  rw [htx] at htot
  rw [htx, hmc, hms]
  have HKL := hid hkl
  clear ht hp hpn htx hmc hms k1 k2 k3 k4 k5 hk hkl
  go_enter Tryd.func34, Tryd.ntmps34
  go_upto_region 1 with (first
    | (show wpList _ _ _ (⟨some 3, Op.box _ _, _, _, _, _⟩ :: _) _ _; go_must (refine wpList_box_blk rfl 35 _ rfl ks rfl L hL ?_); intro w1 hB1 hb1 hs1; have HB1 := hid hB1; have Hb1 := hid hb1; clear hB1 hb1)
    | (show wpList _ _ _ (⟨some 6, Op.alloc _, _, _, _, _⟩ :: _) _ _; go_must (refine wpList_alloc_blk rfl 26 rfl _ HZ.out (L + 1) hs1 ?_); intro w2 hB2 hb2 hs2; have HB2 := hid hB2; have Hb2 := hid hb2; clear hB2 hb2))
  -- REGION1
  have HS := hid (show HB L (L + 2) w [(35, L, ks)] (L + 1) 26 32 w2 from by
    refine HB.cons (HB.nil (by omega) HB2.out (by simp [B]) (Hb1.out.trans (Hb2.out.mono (by omega))) (by omega) (by omega)) ?_ (by omega) (by omega)
    exact HB1.out.kept (Hb2.out.block L (by omega)))
  have cK := HS.out.fst.cell HKJ.out
  clear hs1 hs2 HB1 HB2 Hb1 Hb2
  go_wp2_with fail
  refine (sIs_any _ _).mono ?_
  rintro _ w3 ⟨rfl, hw3⟩
  subst hw3
  rw [domS_in (d := (j : Int)) (by omega) hj3']
  go_wp2_with fail
  -- CALL
  refine (Mac_any (KY j) ka kn kc HKN.out pa pn pc ls HPN.out _ (HTB.out _ HS.out.bel) (HKR.out.later (by rw [hL]; exact HS.out.bel)) HKC.out (by have := HK2.out; omega) (HPT.out.later (by rw [hL]; exact HS.out.bel)) hpb (by rw [HTX.out]; exact htot)).mono ?_
  rintro _ w4 ⟨rfl, hb4⟩
  rw [HTX.out, HMC.out, HMS.out]
  have HS4 := hid (HS.out.later hb4)
  clear hb4 cK HS
  go_wp2_with (show wpList _ _ _ (⟨none, Op.store _ (Operand.tmp 6) (Operand.tmp 15), _, _, _, _⟩ :: _) _ _; go_must (refine wpList_store_list rfl 26 _ _ rfl (L + 1) 0 ms rfl rfl (HS4.out.there (by rw [HML.out]; omega)) (by rw [HML.out]; exact HIH.out) HMO.out ?_); intro w5 hw5; have HX := hid (show Blk w5 26 (L + 1) ms ∧ Below L w w5 by rw [hw5]; exact ⟨HS4.out.whole HML.out, (HS4.out.store ms 0 (by rw [HML.out]; omega)).bel⟩); clear hw5)
  -- RET
  refine ret_cell 6 26 rfl (L + 1) rfl ms _ (HX.out.1.range fun j v hv => by rw [Nat.zero_add]; exact hv) Tryd.underlying26 rfl (by rw [HML.out]; exact HIH.out) rfl ⟨rfl, by rw [hL]; exact HX.out.2⟩
end Go.Proofs.YtinifnpajkldbaaDoor

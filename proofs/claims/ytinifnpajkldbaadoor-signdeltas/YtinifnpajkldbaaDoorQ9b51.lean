/- Texts laid together: GOpen, Within8, Good8. -/
import Derived.Test.YtinifnpajkldbaaDoorQ9b40
import Derived.Test.YtinifnpajkldbaaDoorRRead3
import Derived.Deep.RegionHeld3
import Derived.Test.YtinifnpajkldbaaDoorProg
import Derived.Test.YtinifnpajkldbaaDoorPk0
import Derived.Test.YtinifnpajkldbaaDoorPk25
import Derived.Test.YtinifnpajkldbaaDoorPk26
import Derived.Test.YtinifnpajkldbaaDoorPk2
import Derived.Test.YtinifnpajkldbaaDoorQ9b45

/- The contract of the second say's Open (chapter 9). -/
namespace Go.Proofs.YtinifnpajkldbaaDoor
open Go.RowKit
set_option linter.unusedSimpArgs false
set_option linter.unusedVariables false

theorem rparse9 (b : List UInt8) (x : Dl) (o : List Cp) (e : Int) (hp : delP b = (x, o, e)) (v : Value) (w : World) (hr : Reads w v (B b)) (hbl : b.length ≤ 140737488355328) :
    Calls Tryd.prog 19 #[v] w fun en w' => ∃ v' es, x.cells v' = es ∧ en = .returned (.tuple #[.agg es.toArray, .int .i64 e]) ∧ HasC w' w.heap.size v' o ∧ Below w.heap.size w w' := by
  refine (rParse_any v b w hr hbl).mono ?_
  rintro _ w' ⟨v', rfl, h1, h2⟩
  rw [hp] at h1
  rw [hp]
  exact ⟨v', _, rfl, rfl, h1, h2⟩
set_option maxRecDepth 100000 in
set_option maxHeartbeats 4000000 in
theorem gOpen_any (ks : List Value) (KY : Nat → List UInt8) (m : List UInt8) (hm : m.length = 32) (ao : Option Addr) (n cap : Nat) (body : List UInt8) (hn : body.length = n) (hn2 : n ≤ 9000) (w : World) (hk : KW w ks KY) (hb : Reads w (.slice ao n cap) (B body)) :
    Calls Tryd.prog 18 #[.agg ks.toArray, .agg (sgC (.slice ao n cap) m).toArray] w (OpenR KY m body w) := by
  obtain ⟨cs, hcs⟩ : ∃ cs, sgC (.slice ao n cap) m = cs := ⟨_, rfl⟩
  have HCL := hid (show cs.length = 33 by rw [← hcs]; exact sgC_len hm)
  obtain ⟨L, hL⟩ : ∃ L, w.heap.size = L := ⟨_, rfl⟩
  have HRD := hid hb
  have HN := hid hn
  have HBIG := hid (show body.length ≤ 140737488355328 by omega)
  have HKW := hid hk
  have HI := hid (show (Tryd.prog.info? 30).map (·.size) = some 40 by kernel_rfl)
  have HIH := hid (show (Tryd.prog.info? 26).map (·.size) = some 32 by kernel_rfl)
  obtain ⟨zs, hzs⟩ : ∃ zs, Dl.zero.cells (.slice none 0 0) = zs := ⟨_, rfl⟩
  have HZS := hid hzs
  have HZ := hid (show (Tryd.prog.info? 30).bind (fun i => i.zero.map fun z => z.cells.toList) = some zs by rw [← hzs]; kernel_rfl)
  have HZL := hid (show zs.length = 40 by rw [← hzs]; exact Dl.len Dl.zero_len)
  have HZO := hid (show ∀ v ∈ zs, v.oneCell' = true by rw [← hzs]; exact Dl.one rfl)
  have HZN := hid (show ∀ wx, (Instr.build 30 #[]).run Tryd.prog wx = .ok (.agg zs.toArray) wx from fun wx => by rw [← hzs]; exact run_build wx _ _ _ built_none)
  obtain ⟨ms, hms⟩ : ∃ ms, B m = ms := ⟨_, rfl⟩
  have HML := hid (show ms.length = 32 by rw [← hms, B_length, hm])
  have HMW := hid (show ∀ wx, Blk wx 40 (L + 1) cs → wx.rangeAt (L + 1) 1 ms from fun wx h => by rw [← hms]; exact h.range fun j v hv => by rw [← hcs]; exact sgC_mac hv)
  have HBW := hid (show ∀ wx, Blk wx 40 (L + 1) cs → wx.cell? ⟨L + 1, 0, none⟩ = some (.slice ao n cap) from fun wx h => h.cell (by rw [← hcs]; rfl))
  have HMM := hid hms
  have HM := hid hm
  obtain ⟨x, ox, e, hp⟩ : ∃ x ox e, delP body = (x, ox, e) := by
    rcases delP body with ⟨a, b, c⟩
    exact ⟨a, b, c, rfl⟩
  have HX32 := hid (show x.h.length = 32 by have := delP_len body; rwa [hp] at this)
  have HXJ := hid (show e = 0 → ∃ j : Nat, j < 3 ∧ x.aD = (j : Int) from fun h => by have := delP_dom (b := body) (by rw [hp]; exact h); rwa [hp] at this)
  have HOS := hid (show openS KY m body = if e ≠ 0 then (Dl.zero, [], e) else if m ≠ macS (KY x.aD.toNat) body then (Dl.zero, [], 14) else (x, ox, e) by rw [openS, hp])
  have HP := hid hp
  have HD := hid (show ∀ (y : Ending) (w' : World) (d : Dl) (o : List Cp) (e : Int) (v' : Value), openS KY m body = (d, o, e) → y = .returned (.tuple #[.agg (d.cells v').toArray, .int .i64 e]) → HasC w' L v' o → Below L w w' → OpenR KY m body w y w' by
    intro y w' d o e v' h1 h2 h3 h4
    exact ⟨v', by rw [h1]; exact h2, by rw [h1, hL]; exact h3, by rw [hL]; exact h4⟩)
  rw [hcs]
  clear hcs hb hn hk hzs hms hp hm
  go_enter Tryd.func18, Tryd.ntmps18
  go_upto_region 1 with (first
    | (show wpList _ _ _ (⟨some 2, Op.box _ _, _, _, _, _⟩ :: _) _ _; go_must (refine wpList_box_blk rfl 35 _ rfl ks rfl L hL ?_); intro w1 hB1 hb1 hs1; have HB1 := hid hB1; have Hb1 := hid hb1; clear hB1 hb1)
    | (show wpList _ _ _ (⟨some 3, Op.box _ _, _, _, _, _⟩ :: _) _ _; go_must (refine wpList_box_blk rfl 40 _ rfl cs rfl (L + 1) hs1 ?_); intro w2 hB2 hb2 hs2; have HB2 := hid hB2; have Hb2 := hid hb2; clear hB2 hb2)
    | (show wpList _ _ _ (⟨some 4, Op.alloc _, _, _, _, _⟩ :: _) _ _; go_must (refine wpList_alloc_blk rfl 30 rfl _ HZ.out (L + 2) hs2 ?_); intro w3 hB3 hb3 hs3; have HB3 := hid hB3; have Hb3 := hid hb3; clear hB3 hb3))
  -- REGION1
  have HS3 := hid (show HK L (L + 3) w [(30, L + 2, zs), (40, L + 1, cs), (35, L, ks)] w3 from by
    refine HK.cons (HK.cons (HK.cons (HK.nil (by omega) (Hb1.out.trans ((Hb2.out.mono (by omega)).trans (Hb3.out.mono (by omega)))) (by omega)) ?_ (by omega)) ?_ (by omega)) HB3.out (by omega)
    · exact (HB1.out.kept (Hb2.out.block L (by omega))).kept (Hb3.out.block L (by omega))
    · exact HB2.out.kept (Hb3.out.block (L + 1) (by omega)))
  have cB := HBW.out _ HS3.out.tl.fst
  clear hs1 hs2 hs3 HB1 HB2 HB3 Hb1 Hb2 Hb3
  go_wp2_with fail
  -- CALL1
  refine (rparse9 body x ox e HP.out _ _ (HRD.out.later (by rw [hL]; exact HS3.out.bel)) HBIG.out).mono ?_
  rintro _ w4 ⟨v4, xs, hxs, rfl, hH4, hb4⟩
  have HS4 := hid (HS3.out.later hb4)
  have HH4 := hid hH4
  have hz3 : L + 3 ≤ w3.heap.size := HS3.out.size
  have HXS := hid hxs
  have HXL := hid (show xs.length = 40 by rw [← hxs]; exact Dl.len HX32.out)
  have HXO := hid (show ∀ x ∈ xs, x.oneCell' = true by rw [← hxs]; exact Dl.one (one9 hH4))
  obtain ⟨X, hX⟩ : ∃ X, w4.heap.size = X := ⟨_, rfl⟩
  have HX := hid hX
  have hXL : L + 3 ≤ X := by rw [← hX]; exact HS4.out.size
  clear hxs hH4 hb4 cB HS3
  go_upto_region 2 with (first
    | (show wpList _ _ _ (⟨some 6, Op.alloc _, _, _, _, _⟩ :: _) _ _; go_must (refine wpList_alloc_blk rfl 30 rfl _ HZ.out X hX ?_); intro w5 hB5 hb5 hs5; have HB5 := hid hB5; have Hb5 := hid hb5; clear hB5 hb5)
    | (show wpList _ _ _ (⟨none, Op.store _ (Operand.tmp 6) (Operand.tmp 12), _, _, _, _⟩ :: _) _ _; go_must (refine wpList_store_list rfl 30 _ _ rfl X 0 xs rfl rfl (HB5.out.there (by rw [HXL.out, HZL.out]; omega)) (by rw [HXL.out]; exact HI.out) HXO.out ?_); intro w6 hw6; have HX6 := hid (show Blk w6 30 X xs ∧ Below X w4 w6 by rw [hw6]; exact ⟨by have h3 := Blk.setCells xs [] zs [] (o := 0) (by simpa using HB5.out) (by rw [HZL.out, HXL.out]) rfl; simpa using h3, below_setCells (by omega) _ _ Hb5.out⟩); clear hw6 HB5 Hb5))
  -- REGION2
  have HS6 := hid (show HK L (L + 3) w [(30, L + 2, zs), (40, L + 1, cs), (35, L, ks)] w6 from HS4.out.later (by rw [HX.out]; exact HX6.out.2))
  have HH6 := hid (show HasC w6 w3.heap.size v4 ox from HH4.out.later (by rw [HX.out]; exact HX6.out.2))
  clear HS4 HH4 hs5 hX
  by_cases he : e = 0
  case neg =>
    have hne : (e == 0) = false := by simpa using he
    have HE := hid (show openS KY m body = (Dl.zero, [], e) by rw [HOS.out, if_pos he])
    go_wp2_with (first
      | (show wpList _ _ _ (⟨some 16, Op.build _ _, _, _, _, _⟩ :: _) _ _; go_must (refine wpList_build9 rfl 30 _ rfl #[] (by simp) zs.toArray HZN.out ?_))
      | (show wpList _ _ _ (⟨none, Op.store _ (Operand.tmp 4) (Operand.tmp 16), _, _, _, _⟩ :: _) _ _; go_must (refine wpList_store_list rfl 30 _ _ rfl (L + 2) 0 zs rfl rfl (HS6.out.fst.there (by rw [HZL.out]; omega)) (by rw [HZL.out]; exact HI.out) HZO.out ?_); intro w7 hw7; have HX7 := hid (show Blk w7 30 (L + 2) zs ∧ Below L w w7 by rw [hw7]; exact ⟨by have h3 := Blk.setCells zs [] zs [] (o := 0) (by simpa using HS6.out.fst) rfl rfl; simpa using h3, below_setCells (by omega) _ _ HS6.out.bel⟩); clear hw7))
    -- RET1
    refine ret_cell_tmp 4 5 30 rfl (L + 2) rfl _ rfl zs _ (HX7.out.1.range fun j v hv => by rw [Nat.zero_add]; exact hv) Tryd.underlying30 rfl (by rw [HZL.out]; exact HI.out) rfl (HD.out _ _ Dl.zero [] e (.slice none 0 0) HE.out (by rw [HZS.out]; rfl) (HasC.nil _ _) HX7.out.2)
  case pos =>
  subst he
  obtain ⟨j, hj3, hjx⟩ := HXJ.out rfl
  have HJX := hid hjx
  have hj3' : (j : Int) < 3 := by omega
  obtain ⟨ka, kn, kc, k1, k2, k3, k4, k5⟩ := HKW.out.get j hj3
  have HKJ := hid k1
  have HKN := hid k2
  have HK2 := hid k3
  have HKR := hid k5
  obtain ⟨mc, hmc⟩ : ∃ mc, macS (KY j) body = mc := ⟨_, rfl⟩
  have HMC := hid hmc
  obtain ⟨r, hr⟩ : ∃ r, (m == mc) = r := ⟨_, rfl⟩
  have HRQ := hid hr
  have HEQ := hid (show ∀ wx, (Op.equalIn 10000 26 (.agg ms.toArray) (.agg (B mc).toArray)).run Tryd.prog wx = .ok r wx from fun wx => by rw [← HMM.out, ← hr]; exact equal_hash9o wx m mc HM.out (by rw [← hmc]; exact macS_len _ _))
  have HXD := hid (show ∀ wx, Blk wx 30 X xs → wx.cell? ⟨X, 0, none⟩ = some (.int .i64 (j : Int)) from fun wx h => by
    rw [← HXS.out] at h
    rw [← HJX.out]
    exact h.cell (j := 0) rfl)
  have HOR := hid (show openS KY m body = if m ≠ mc then (Dl.zero, [], 14) else (x, ox, 0) by rw [HOS.out, if_neg (fun h => h rfl), HJX.out, Int.toNat_natCast, hmc])
  clear k1 k2 k3 k4 k5 hmc hjx hr
  go_upto_region 4 with fail
  -- REGION4
  have HS := hid (show HK L (X + 1) w [(30, X, xs), (40, L + 1, cs), (35, L, ks)] w6.drew from by
    have hx := HX6.out.1.lt
    refine HK.drew (HK.cons (HK.cons (HK.cons (HK.nil (by omega) HS6.out.bel (by omega)) ?_ (by omega)) ?_ (by omega)) HX6.out.1 (by omega))
    · exact HS6.out.tl.tl.fst
    · exact HS6.out.tl.fst)
  have HZB := hid (show Blk w6.drew 30 (L + 2) zs from HS6.out.fst.drewN 1)
  have HHd := hid (show HasC w6.drew w3.heap.size v4 ox from HH6.out.later ((Below.refl _ _).drew))
  clear HX6 HS6 HH6
  refine wp_region_held_drew (S := fun w' => HK L (X + 1) w [(30, X, xs), (40, L + 1, cs), (35, L, ks)] w') (by kernel_rfl) (HS.out) (fun hHeld => ?_)
  generalize w6.drew = wd at *
  refine wpAnyH_take (i := 0) (v := .pointer (some ⟨L + 1, 1, none⟩)) rfl (by kernel_rfl) (by kernel_rfl) (by kernel_rfl) (fun _ _ _ h => h) (Or.inl ⟨by rfl, by intro w hSw; go_simp⟩) hHeld ?_
  try simp only [Act.put, List.setIfInBounds_toArray, List.set_cons_zero, List.set_cons_succ, List.getElem_toArray, List.getElem_cons_zero, List.getElem_cons_succ]
  refine wpAnyH_take (i := 1) (v := _) rfl (by kernel_rfl) (by kernel_rfl) (by kernel_rfl) (fun _ _ _ h => h) (yieldsIf_load_mid (by rfl) _ _ rfl _ _ rfl ms _ (fun w hSw => (HMW.out _ hSw.tl.fst)) Tryd.underlying26 rfl (by rw [HML.out]; exact HIH.out)) hHeld ?_
  try simp only [Act.put, List.setIfInBounds_toArray, List.set_cons_zero, List.set_cons_succ, List.getElem_toArray, List.getElem_cons_zero, List.getElem_cons_succ]
  refine wpAnyH_take (i := 2) (v := .pointer (some ⟨X, 0, none⟩)) rfl (by kernel_rfl) (by kernel_rfl) (by kernel_rfl) (fun _ _ _ h => h) (Or.inl ⟨by rfl, by intro w hSw; go_simp⟩) hHeld ?_
  try simp only [Act.put, List.setIfInBounds_toArray, List.set_cons_zero, List.set_cons_succ, List.getElem_toArray, List.getElem_cons_zero, List.getElem_cons_succ]
  refine wpAnyH_take (i := 3) (v := .pointer (some ⟨X, 0, none⟩)) rfl (by kernel_rfl) (by kernel_rfl) (by kernel_rfl) (fun _ _ _ h => h) (Or.inl ⟨by rfl, by intro w hSw; go_simp⟩) hHeld ?_
  try simp only [Act.put, List.setIfInBounds_toArray, List.set_cons_zero, List.set_cons_succ, List.getElem_toArray, List.getElem_cons_zero, List.getElem_cons_succ]
  refine wpAnyH_take (i := 4) (v := .int .i64 (j : Int)) rfl (by kernel_rfl) (by kernel_rfl) (by kernel_rfl) (fun _ _ _ h => h) (Or.inl ⟨by rfl, by intro w hSw; have q := HXD.out _ hSw.fst; go_simp⟩) hHeld ?_
  try simp only [Act.put, List.setIfInBounds_toArray, List.set_cons_zero, List.set_cons_succ, List.getElem_toArray, List.getElem_cons_zero, List.getElem_cons_succ]
  refine wpAnyH_take (i := 5) (v := .pointer (some ⟨L, j, none⟩)) rfl (by kernel_rfl) (by kernel_rfl) (by kernel_rfl) (fun _ _ _ h => h) (Or.inl ⟨by rfl, by intro w hSw; go_simp⟩) hHeld ?_
  try simp only [Act.put, List.setIfInBounds_toArray, List.set_cons_zero, List.set_cons_succ, List.getElem_toArray, List.getElem_cons_zero, List.getElem_cons_succ]
  refine wpAnyH_take (i := 6) (v := .slice ka kn kc) rfl (by kernel_rfl) (by kernel_rfl) (by kernel_rfl) (fun _ _ _ h => h) (Or.inl ⟨by rfl, by intro w hSw; have q := hSw.tl.tl.fst.cell HKJ.out; go_simp⟩) hHeld ?_
  try simp only [Act.put, List.setIfInBounds_toArray, List.set_cons_zero, List.set_cons_succ, List.getElem_toArray, List.getElem_cons_zero, List.getElem_cons_succ]
  refine wpAnyH_take (i := 7) (v := .pointer (some ⟨L + 1, 0, none⟩)) rfl (by kernel_rfl) (by kernel_rfl) (by kernel_rfl) (fun _ _ _ h => h) (Or.inl ⟨by rfl, by intro w hSw; go_simp⟩) hHeld ?_
  try simp only [Act.put, List.setIfInBounds_toArray, List.set_cons_zero, List.set_cons_succ, List.getElem_toArray, List.getElem_cons_zero, List.getElem_cons_succ]
  refine wpAnyH_take (i := 8) (v := .slice ao n cap) rfl (by kernel_rfl) (by kernel_rfl) (by kernel_rfl) (fun _ _ _ h => h) (Or.inl ⟨by rfl, by intro w hSw; have q := HBW.out _ hSw.tl.fst; go_simp⟩) hHeld ?_
  try simp only [Act.put, List.setIfInBounds_toArray, List.set_cons_zero, List.set_cons_succ, List.getElem_toArray, List.getElem_cons_zero, List.getElem_cons_succ]
  refine wpAnyH_ready (rs := [9]) (by kernel_rfl) (by simp) ?_
  refine AllReadyH.cons rfl (fun K hK => ?_) AllReadyH.nil
  go_simp
  refine (refMac_any (KY j) ka kn kc HKN.out body _ n cap HN.out _ (HKR.out.later (by rw [hL]; exact hHeld.bel)) (HRD.out.later (by rw [hL]; exact hHeld.bel)) (by have := HK2.out; omega) (by omega)).mono ?_
  rintro _ w8 ⟨rfl, hb8⟩
  rw [HMC.out]
  refine hK.out _ _ (hHeld.later hb8) (fun hHeld => ?_)
  clear hK K
  try simp only [Act.put, List.setIfInBounds_toArray, List.set_cons_zero, List.set_cons_succ, List.getElem_toArray, List.getElem_cons_zero, List.getElem_cons_succ]
  have HZ8 := hid (HZB.out.later hb8)
  have HC8 := hid (HHd.out.later hb8)
  clear hb8
  refine wpAnyH_take (i := 10) (v := .bool (!r)) rfl (by kernel_rfl) (by kernel_rfl) (by kernel_rfl) (fun _ _ _ h => h) (Or.inl ⟨by rfl, by intro w hSw; have q := HEQ.out w; go_simp⟩) hHeld ?_
  try simp only [Act.put, List.setIfInBounds_toArray, List.set_cons_zero, List.set_cons_succ, List.getElem_toArray, List.getElem_cons_zero, List.getElem_cons_succ]
  refine wpAnyH_done (by kernel_rfl) ?_ _
  have HS8 := hid hHeld
  cases r
  case false =>
    have hmm : m ≠ mc := by have := HRQ.out; simpa using this
    have HE := hid (show openS KY m body = (Dl.zero, [], 14) by rw [HOR.out, if_pos hmm])
    clear hmm
    go_wp2_with (first
      | (show wpList _ _ _ (⟨some 29, Op.build _ _, _, _, _, _⟩ :: _) _ _; go_must (refine wpList_build9 rfl 30 _ rfl #[] (by simp) zs.toArray HZN.out ?_))
      | (show wpList _ _ _ (⟨none, Op.store _ (Operand.tmp 4) (Operand.tmp 29), _, _, _, _⟩ :: _) _ _; go_must (refine wpList_store_list rfl 30 _ _ rfl (L + 2) 0 zs rfl rfl (HZ8.out.there (by rw [HZL.out]; omega)) (by rw [HZL.out]; exact HI.out) HZO.out ?_); intro w9 hw9; have HX9 := hid (show Blk w9 30 (L + 2) zs ∧ Below L w w9 by rw [hw9]; exact ⟨by have h3 := Blk.setCells zs [] zs [] (o := 0) (by simpa using HZ8.out) rfl rfl; simpa using h3, below_setCells (by omega) _ _ HS8.out.bel⟩); clear hw9))
    -- RET2
    refine ret_cell_tmp 4 5 30 rfl (L + 2) rfl _ rfl zs _ (HX9.out.1.range fun j v hv => by rw [Nat.zero_add]; exact hv) Tryd.underlying30 rfl (by rw [HZL.out]; exact HI.out) rfl (HD.out _ _ Dl.zero [] 14 (.slice none 0 0) HE.out (by rw [HZS.out]; rfl) (HasC.nil _ _) HX9.out.2)
  case true =>
  have HE := hid (show openS KY m body = (x, ox, 0) by
    have hmm : m = mc := by have := HRQ.out; simpa using this
    rw [HOR.out, if_neg (fun h => h hmm)])
  go_wp2_with (first
    | (show wpList _ _ _ (⟨some 30, Op.load _ _, _, _, _, _⟩ :: _) _ _; go_must (refine wpList_load_mid rfl 30 _ rfl X 0 rfl xs _ (HS8.out.fst.range fun j v hv => by rw [Nat.zero_add]; exact hv) Tryd.underlying30 rfl (by rw [HXL.out]; exact HI.out) ?_))
    | (show wpList _ _ _ (⟨none, Op.store _ (Operand.tmp 4) (Operand.tmp 30), _, _, _, _⟩ :: _) _ _; go_must (refine wpList_store_list rfl 30 _ _ rfl (L + 2) 0 xs rfl rfl (HZ8.out.there (by rw [HXL.out, HZL.out]; omega)) (by rw [HXL.out]; exact HI.out) HXO.out ?_); intro w9 hw9; have HX9 := hid (show Blk w9 30 (L + 2) xs ∧ Below L w w9 ∧ HasC w9 L v4 ox by rw [hw9]; exact ⟨by have h3 := Blk.setCells xs [] zs [] (o := 0) (by simpa using HZ8.out) (by rw [HZL.out, HXL.out]) rfl; simpa using h3, below_setCells (by omega) _ _ HS8.out.bel, ((HC8.out.setCells9 (L := L + 2) (by omega) 0 xs).mono (by omega))⟩); clear hw9))
  -- RET3
  refine ret_cell_tmp 4 5 30 rfl (L + 2) rfl _ rfl xs _ (HX9.out.1.range fun j v hv => by rw [Nat.zero_add]; exact hv) Tryd.underlying30 rfl (by rw [HXL.out]; exact HI.out) rfl (HD.out _ _ x ox 0 v4 HE.out (by rw [HXS.out]; rfl) HX9.out.2.2 HX9.out.2.1)

theorem gopen_at (ks : List Value) (KY : Nat → List UInt8) (m : List UInt8) (hm : m.length = 32) (ao : Option Addr) (n cap : Nat) (body : List UInt8) (hn : body.length = n) (hn2 : n ≤ 9000) (y : Dl) (oy : List Cp) (f : Int) (hO : openS KY m body = (y, oy, f)) (w : World) (hk : KW w ks KY) (hb : Reads w (.slice ao n cap) (B body)) :
    Calls Tryd.prog 18 #[.agg ks.toArray, .agg (sgC (.slice ao n cap) m).toArray] w fun en w' => ∃ v' es, y.cells v' = es ∧ en = .returned (.tuple #[.agg es.toArray, .int .i64 f]) ∧ HasC w' w.heap.size v' oy ∧ Below w.heap.size w w' := by
  refine (gOpen_any ks KY m hm ao n cap body hn hn2 w hk hb).mono ?_
  rintro _ w' ⟨v', rfl, h1, h2⟩
  rw [hO] at h1
  rw [hO]
  exact ⟨v', _, rfl, rfl, h1, h2⟩
end Go.Proofs.YtinifnpajkldbaaDoor

/- The contract of the laws' own function within (chapter 8). -/
namespace Go.Proofs.YtinifnpajkldbaaDoor
open Go.RowKit
set_option linter.unusedSimpArgs false
set_option linter.unusedVariables false

set_option maxHeartbeats 400000 in
theorem within8_any (a n : Int) (h0 : 0 < n) (h1 : n ≤ 2147483648) (w : World) :
    Calls Tryd.prog 32 #[.int .i64 a, .int .i64 n] w fun e w' => e = .returned (.int .i64 (a % n)) ∧ w' = w := by
  have h4 := Int.lt_tmod_of_pos a h0
  have h5 := Int.tmod_lt_of_pos a h0
  have hneg := tmod_neg a n h0
  have hpos := tmod_pos a n h0
  have HN : Hid (a.tmod n < 0 → a % n = a.tmod n + n) := hneg
  have HP : Hid (0 ≤ a.tmod n → a % n = a.tmod n) := hpos
  clear hneg hpos
  go_enter Tryd.func32, Tryd.ntmps32
  go_wp2
  · go_ret
    exact ⟨by rw [HN.out (by assumption)]; rfl, rfl⟩
  · go_ret
    exact ⟨by rw [HP.out (by assumption)]; rfl, rfl⟩
end Go.Proofs.YtinifnpajkldbaaDoor

/- The contracts of the laws' own Few (chapters 4 and 8). -/
namespace Go.Proofs.YtinifnpajkldbaaDoor
open Go.RowKit
set_option linter.unusedSimpArgs false
set_option linter.unusedVariables false

def fewL : List Cp → Bool
  | [] => true
  | c :: o => decide (c.s.size ≤ 150) && fewL o
def few4S (o : List Cp) : Bool := fewL o && decide (o.length ≤ 50)
theorem fewL_iff : ∀ (o : List Cp), fewL o = true ↔ ∀ c ∈ o, c.s.size ≤ 150
  | [] => by simp [fewL]
  | c :: o => by simp [fewL, fewL_iff o]
theorem few4_iff (o : List Cp) : few4S o = true ↔ FewS o := by
  simp only [few4S, Bool.and_eq_true, fewL_iff, decide_eq_true_eq, FewS]
  exact And.comm

set_option maxRecDepth 100000 in
set_option maxHeartbeats 1000000 in
theorem few4_any (v : Value) (o : List Cp) (w : World) (hv : InOp w v o) :
    Calls Tryd.prog 31 #[v] w fun e w' => e = .returned (.bool (few4S o)) ∧ w' = w := by
  obtain ⟨ao, cap, rfl⟩ := hv.1.form
  have HV := hid hv.1
  have HS := hid (show ∀ c ∈ o, c.s.size ≤ 9223372036854775807 from fun c hc => ba_of (hv.2.1 c hc).1)
  have hln : o.length ≤ 9223372036854775807 := by have := hv.2.2; unfold maxLen at this; omega
  clear hv
  go_enter Tryd.func31, Tryd.ntmps31
  go_wp2_with fail
  go_loopw [3] (fun i wr => ∃ j : Nat, j ≤ o.length ∧ i = .int .i64 j ∧ fewL (o.drop j) = fewL o ∧ wr = w) (fun i _ => o.length - (intOf i).toNat)
  case atStart => exact ⟨0, Nat.zero_le _, rfl, rfl, rfl⟩
  case round =>
    obtain ⟨j, hj, rfl, hx, hw⟩ := hrel
    subst wr
    have HX := hid hx
    clear hx
    by_cases hlt : j < o.length
    · have hlt' : (j : Int) < (o.length : Int) := by omega
      obtain ⟨c, hc⟩ : ∃ c, o[j]? = some c := ⟨_, List.getElem?_eq_getElem hlt⟩
      obtain ⟨g, off, cap', e, hcap, hr, hg⟩ := HV.out.place (by omega)
      injection e with e1 e2 e3
      subst e1 e3
      obtain ⟨c0, c1, c2⟩ := RC.cells hr hc
      have hsz := HS.out c (List.mem_of_getElem? hc)
      have HD := hid (show fewL (o.drop j) = (decide (c.s.size ≤ 150) && fewL (o.drop (j + 1))) by rw [drop_cons' o j c hc]; rfl)
      clear hr hc e2 c0 c1
      by_cases h150 : 150 < c.s.size
      · have HR := hid (show few4S o = false by rw [few4S, ← HX.out, HD.out, decide_eq_false (by omega)]; rfl)
        have h150' : (150 : Int) < (c.s.size : Int) := by omega
        go_wp2_with fail
        go_ret
        exact ⟨by rw [HR.out]; rfl, rfl⟩
      · have HN := hid (show fewL (o.drop (j + 1)) = fewL o by rw [← HX.out, HD.out, decide_eq_true (by omega)]; rfl)
        have h150' : ¬ (150 : Int) < (c.s.size : Int) := by omega
        go_wp2_with fail
        go_roundw
        case rel => exact ⟨j + 1, by omega, by go_num, HN.out, trivial⟩
        case measure => simp [intOf]; omega
    · have hj2 : j = o.length := by omega
      subst hj2
      have HR := hid (show few4S o = decide (o.length ≤ 50) by rw [few4S, ← HX.out, List.drop_length]; rfl)
      by_cases h50 : o.length ≤ 50
      · have h50' : (o.length : Int) ≤ 50 := by omega
        have HR2 := hid (show few4S o = true by rw [HR.out, decide_eq_true h50])
        go_wp2_with fail
        go_ret
        exact ⟨by rw [HR2.out]; rfl, rfl⟩
      · have h50' : ¬ (o.length : Int) ≤ 50 := by omega
        have HR2 := hid (show few4S o = false by rw [HR.out, decide_eq_false h50])
        go_wp2_with fail
        go_ret
        exact ⟨by rw [HR2.out]; rfl, rfl⟩

theorem InOp.later {w w' : World} {v : Value} {o : List Cp} (h : InOp w v o) (hb : Below w.heap.size w w') : InOp w' v o := ⟨h.1.later hb, h.2⟩

set_option maxRecDepth 100000 in
set_option maxHeartbeats 1000000 in
theorem few8_any (d : Dl) (hd : d.h.length = 32) (v : Value) (o : List Cp) (w : World) (hv : InOp w v o) :
    Calls Tryd.prog 9 #[.agg (d.cells v).toArray] w fun e w' => e = .returned (.bool (few4S o)) ∧ Below w.heap.size w w' := by
  obtain ⟨ao, cap, rfl⟩ := hv.1.form
  obtain ⟨cs, hcs⟩ : ∃ cs, d.cells (.slice ao o.length cap) = cs := ⟨_, rfl⟩
  rw [hcs]
  have HCS := hid hcs
  have HV := hid hv
  have HD := hid hd
  obtain ⟨L, hL⟩ : ∃ L, w.heap.size = L := ⟨_, rfl⟩
  clear hcs hv hd
  go_enter Tryd.func9, Tryd.ntmps9
  go_wp2_with ((show wpList _ _ _ (⟨some 1, Op.box _ _, _, _, _, _⟩ :: _) _ _; go_must (refine wpList_box_blk rfl 30 _ rfl cs rfl L hL ?_); intro w1 hB1 hb1 hs1; rw [← HCS.out] at hB1; have HW := hid (DW.mk HD.out hB1); obtain ⟨c0, c1, c2, c3, c36, c37, c38, c39⟩ := HW.out.cells; clear c0 c1 c2 c3 c36 c38 c39 hB1; replace hb1 := hid hb1))
  subst hL
  refine (few4_any _ o _ (HV.out.later hb1.out)).mono ?_
  rintro _ w2 ⟨rfl, hw2⟩
  rw [hw2]
  clear hw2
  obtain ⟨r, hr⟩ : ∃ r, few4S o = r := ⟨_, rfl⟩
  rw [hr]
  have HR := hid hr
  clear hr
  go_wp2_with fail
  go_ret
  exact ⟨by rw [HR.out]; rfl, hb1.out⟩
end Go.Proofs.YtinifnpajkldbaaDoor

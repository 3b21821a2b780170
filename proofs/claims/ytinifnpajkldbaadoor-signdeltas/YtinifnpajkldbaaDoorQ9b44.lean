/- Texts laid together: Known9, Strong. -/
import Derived.Test.YtinifnpajkldbaaDoorSgDelta
import Derived.Test.YtinifnpajkldbaaDoorSgOpen
import Derived.Test.YtinifnpajkldbaaDoorSgCheck
import Derived.Test.YtinifnpajkldbaaDoorPk25
import Derived.Deep.RegionHeld3
import Derived.Test.YtinifnpajkldbaaDoorPk0

/- The laws' own known (chapter 9): the chapter's example. -/
namespace Go.Proofs.YtinifnpajkldbaaDoor
open Go.RowKit
set_option linter.unusedSimpArgs false
set_option linter.unusedVariables false

theorem HK.above9 {L T : Nat} {w w' w'' : World} {bs : List (TypeId × Nat × List Value)} (h : HK L T w bs w') (hb : Below T w' w'') : HK L T w bs w'' :=
  ⟨Nat.le_trans h.size hb.size, fun b hm => ⟨(h.blks b hm).1, (h.blks b hm).2.kept (hb.block _ (h.blks b hm).1)⟩, h.bel.trans (hb.mono (by have := h.le; omega)), h.le⟩
theorem setCells_sz9 {g : Nat} : ∀ (vs : List Value) (o : Nat) (w : World), (w.setCells g o vs).heap.size = w.heap.size
  | [], _, _ => rfl
  | v :: vs, o, w => by rw [World.setCells, setCells_sz9 vs (o + 1)]; simp [World.setCell]
/-- The example's delta. -/
def dAdd : Dl := ⟨0, 0, 0, 0, List.replicate 32 0, 2, 0, 0⟩
theorem dAdd_len : dAdd.h.length = 32 := by simp [dAdd]
theorem few0 : FewS [] := ⟨by simp, by simp⟩
theorem dAdd_chk : chkD dAdd [] = 0 := by decide +kernel
theorem dAdd_n : (dB dAdd []).length = 84 := by rw [dB_len _ _ dAdd_len]; rfl
theorem del_dAdd : delP (dB dAdd []) = (dAdd, [], 0) := by
  refine delP_dB dAdd [] ⟨?_, by decide, by decide, dAdd_len⟩ (by rw [opB_len]; decide) ?_ dAdd_chk
  · intro x hx
    simp [dAdd] at hx
    omega
  · rw [opP_opB [] (by simp) (by simp), show chkS [] = 0 by decide +kernel, if_neg (fun h => h rfl)]
theorem open_dAdd : openS (keyS []) (macS (keyS [] 0) (dB dAdd [])) (dB dAdd []) = (dAdd, [], 0) := by
  rw [openS, del_dAdd, if_neg (by simp), if_neg (by simp [dAdd])]
theorem zero_chkE : chkE (keyS []) 0 En.zero [] [] = false := by decide +kernel

theorem sdelta_ds (ks ds : List Value) (hds : dAdd.cells (.slice none 0 0) = ds) (w : World) (ht : Tabs w) (hk : KW w ks (keyS [])) :
    Calls Tryd.prog 13 #[.agg ks.toArray, .agg ds.toArray] w fun x w' => ∃ a n c, x = .returned (.agg (sgC (.slice a n c) (macS (keyS [] 0) (dB dAdd []))).toArray) ∧ (dB dAdd []).length = n ∧ c ≤ maxLen ∧ Reads w' (.slice a n c) (B (dB dAdd [])) ∧ Below w.heap.size w w' := by
  rw [← hds]
  exact sDelta_any ks (keyS []) dAdd dAdd_len 0 rfl (by omega) (.slice none 0 0) [] w ht hk (RC.nil _) few0 dAdd_chk
set_option maxRecDepth 100000 in
theorem built_dAdd : Tryd.prog.built 30 [(4, .int .i64 2)] = some (dAdd.cells (.slice none 0 0)).toArray := by kernel_rfl
set_option maxRecDepth 100000 in
theorem built_en0 : Tryd.prog.built 56 [] = some (En.zero.cells (.slice none 0 0) (.slice none 0 0)).toArray := by kernel_rfl
/-- A value built of parts, that a guard asks for. -/
theorem wpList_build_want9 {P : Program} {ops : Array Oper} {rest : List Oper} {op : Oper} {a : Act} {w : World} {Q : Exit → Act → World → Prop} (hw : Region.wanted op (yielded ops a.tmps) = true) (ty : TypeId) (ps : Array (Nat × Operand)) (ho : op.op = .build ty ps)
    (vs : Array (Nat × Value)) (hv : (ps.map fun (i, x) => (i, a.eval x)) = vs) (cells : Array Value) (h : ∀ w, (Instr.build ty vs).run P w = .ok (.agg cells) w) (hk : wpList P ops Q rest (a.put op.dst (.agg cells)) w) : wpList P ops Q (op :: rest) a w := by
  refine wpList_step fun K hK => ?_
  rw [if_pos hw]
  unfold Oper.wp execOp
  simp only [ho, hv, Sem.run_bind, Sem.run_pure, h, Result.andThen_ok]
  exact hK _ _ hk

set_option maxRecDepth 100000 in
set_option maxHeartbeats 16000000 in
theorem known9_any (w : World) (ht : Tabs w) : Calls Tryd.prog 8 #[] w fun e w' => e = .returned (.bool true) ∧ Below w.heap.size w w' := by
  obtain ⟨L, hL⟩ : ∃ L, w.heap.size = L := ⟨_, rfl⟩
  have hL2 : 2 ≤ L := by rw [← hL]; exact ht.two
  have HTB := hid (show ∀ wx, Below L w wx → Tabs wx from fun wx h => ht.below h hL2)
  have HI := hid (show (Tryd.prog.info? 30).map (·.size) = some 40 by kernel_rfl)
  have HIK := hid (show (Tryd.prog.info? 35).map (·.size) = some 3 by kernel_rfl)
  obtain ⟨zs, hzs⟩ : ∃ zs, Dl.zero.cells (.slice none 0 0) = zs := ⟨_, rfl⟩
  have HZ := hid (show (Tryd.prog.info? 30).bind (fun i => i.zero.map fun z => z.cells.toList) = some zs by rw [← hzs]; kernel_rfl)
  have HZL := hid (show zs.length = 40 by rw [← hzs]; exact Dl.len Dl.zero_len)
  have HZK := hid (show (Tryd.prog.info? 35).bind (fun i => i.zero.map fun z => z.cells.toList) = some [.slice none 0 0, .slice none 0 0, .slice none 0 0] by kernel_rfl)
  obtain ⟨ds, hds⟩ : ∃ ds, dAdd.cells (.slice none 0 0) = ds := ⟨_, rfl⟩
  have HDS := hid hds
  have HDL := hid (show ds.length = 40 by rw [← hds]; exact Dl.len dAdd_len)
  have HDO := hid (show ∀ v ∈ ds, v.oneCell' = true by rw [← hds]; exact Dl.one rfl)
  have HBD := hid (show ∀ wx, (Instr.build 30 #[(4, .int .i64 2)]).run Tryd.prog wx = .ok (.agg ds.toArray) wx from fun wx => by rw [← hds]; exact run_build wx _ _ _ built_dAdd)
  obtain ⟨es, hes⟩ : ∃ es, En.zero.cells (.slice none 0 0) (.slice none 0 0) = es := ⟨_, rfl⟩
  have HES := hid hes
  have HBE := hid (show ∀ wx, (Instr.build 56 #[]).run Tryd.prog wx = .ok (.agg es.toArray) wx from fun wx => by rw [← hes]; exact run_build wx _ _ _ built_en0)
  have HRN := hid (show Reads w (.slice none 0 0) (B []) from ⟨none, 0, rfl, Nat.le_refl _, fun _ => rfl, fun _ h => by cases h⟩)
  clear ht hzs hds hes
  go_enter Tryd.func8, Tryd.ntmps8
  go_wp2_with fail
  -- CALL0
  refine (keys9_any [] none 0 0 rfl (Nat.le_refl _) (Nat.zero_le _) _ HRN.out).mono ?_
  rintro _ w1 ⟨ks, rfl, hKW, hK1, hKB, hb1⟩
  have HKW1 := hid hKW
  have HK1 := hid hK1
  have HKL := hid hKW.len
  have Hb1 := hid (show Below L w w1 by rw [← hL]; exact hb1)
  have hz1 : L ≤ w1.heap.size := by rw [← hL]; exact hb1.size
  obtain ⟨G, hG⟩ : ∃ G, w1.heap.size = G := ⟨_, rfl⟩
  have HG := hid hG
  rw [hG] at hz1
  clear hKW hK1 hKB hb1
  go_upto_region 3 with (first
    | (show wpList _ _ _ (⟨some 1, Op.alloc _, _, _, _, _⟩ :: _) _ _; go_must (refine wpList_alloc_blk rfl 35 rfl _ HZK.out G hG ?_); intro w2 hB2 hb2 hs2; have HB2 := hid hB2; have Hb2 := hid hb2; clear hB2 hb2)
    | (show wpList _ _ _ (⟨none, Op.store _ (Operand.tmp 1) (Operand.tmp 5), _, _, _, _⟩ :: _) _ _; go_must (refine wpList_store_list rfl 35 _ _ rfl G 0 ks rfl rfl (HB2.out.there (by rw [HKL.out]; simp)) (by rw [HKL.out]; exact HIK.out) HK1.out ?_); intro w3 hw3; have hs3 : w3.heap.size = G + 1 := (congrArg (fun u => u.heap.size) hw3).trans ((setCells_sz9 _ _ _).trans hs2); have HX3 := hid (show Blk w3 35 G ks ∧ Below G w1 w3 by rw [hw3]; exact ⟨by have h3 := Blk.setCells ks [] [.slice none 0 0, .slice none 0 0, .slice none 0 0] [] (o := 0) (by simpa using HB2.out) (by rw [HKL.out]; rfl) rfl; simpa using h3, below_setCells (by omega) _ _ Hb2.out⟩); clear hw3 HB2 Hb2 hs2)
    | (show wpList _ _ _ (⟨some 6, Op.build _ _, _, _, _, _⟩ :: _) _ _; go_must (refine wpList_build9 rfl 30 _ rfl #[(4, .int .i64 2)] (by first | rfl | simp [Act.eval]) ds.toArray HBD.out ?_))
    | (show wpList _ _ _ (⟨some 2, Op.alloc _, _, _, _, _⟩ :: _) _ _; go_must (refine wpList_alloc_blk rfl 30 rfl _ HZ.out (G + 1) hs3 ?_); intro w4 hB4 hb4 hs4; have HB4 := hid hB4; have Hb4 := hid hb4; clear hB4 hb4)
    | (show wpList _ _ _ (⟨none, Op.store _ (Operand.tmp 2) (Operand.tmp 6), _, _, _, _⟩ :: _) _ _; go_must (refine wpList_store_list rfl 30 _ _ rfl (G + 1) 0 ds rfl rfl (HB4.out.there (by rw [HDL.out, HZL.out]; omega)) (by rw [HDL.out]; exact HI.out) HDO.out ?_); intro w5 hw5; have hs5 : w5.heap.size = G + 2 := (congrArg (fun u => u.heap.size) hw5).trans ((setCells_sz9 _ _ _).trans hs4); have HX5 := hid (show Blk w5 30 (G + 1) ds ∧ Below (G + 1) w3 w5 by rw [hw5]; exact ⟨by have h3 := Blk.setCells ds [] zs [] (o := 0) (by simpa using HB4.out) (by rw [HZL.out, HDL.out]) rfl; simpa using h3, below_setCells (by omega) _ _ Hb4.out⟩); clear hw5 HB4 Hb4 hs4))
  -- REGION3
  obtain ⟨D, hD⟩ : ∃ D, G + 1 = D := ⟨_, rfl⟩
  rw [hD] at HX5 ⊢
  obtain ⟨T, hT⟩ : ∃ T, w5.drew.heap.size = T := ⟨_, rfl⟩
  have hTD : T = D + 1 := by rw [← hT, ← hD]; exact hs5
  have HTS := hid hT
  have HBW := hid (show Below G w1 w5.drew from (HX3.out.2.trans (HX5.out.2.mono (by omega))).drew)
  have HS := hid (show HK L T w [(30, D, ds), (35, G, ks)] w5.drew ∧ Below T w5.drew w5.drew from
    ⟨HK.cons (HK.cons (HK.nil (by omega) (Hb1.out.trans (HBW.out.mono (by omega))) (by omega)) (HX3.out.1.kept (HX5.out.2.block G (by omega))) (by omega)) (HX5.out.1.drewN 1) (by omega), Below.refl _ _⟩)
  have HKW := hid (show KW w5.drew ks (keyS []) from HKW1.out.later (by rw [HG.out]; exact HBW.out))
  clear hG hs3 hs5 hD hT HX3 HX5 HBW HKW1 HG hz1
  try simp only [Act.put, List.setIfInBounds_toArray, List.set_cons_zero, List.set_cons_succ, List.getElem_toArray, List.getElem_cons_zero, List.getElem_cons_succ]
  go_cut [3, 4] (fun s3 s4 w' => ∃ X xs v4, s3 = .pointer (some ⟨X, 0, none⟩) ∧ s4 = .int .i64 0 ∧ dAdd.cells v4 = xs ∧ Blk w' 30 X xs ∧ HK L T w [(30, D, ds), (35, G, ks)] w' ∧ KW w' ks (keyS []))
  case first =>
    refine wp_region_held_drew (S := fun w' => HK L T w [(30, D, ds), (35, G, ks)] w' ∧ Below T w5.drew w') (by kernel_rfl) (HS.out) (fun hHeld => ?_)
    refine wpAnyH_take (i := 0) (v := _) rfl (by kernel_rfl) (by kernel_rfl) (by kernel_rfl) (fun _ _ _ h => h) (yieldsIf_load_mid (by rfl) _ _ rfl _ _ rfl ks _ (fun w hSw => (hSw.1.tl.fst.range fun j v hv => by rw [Nat.zero_add]; exact hv)) Tryd.underlying35 rfl (by rw [HKL.out]; exact HIK.out)) hHeld ?_
    try simp only [Act.put, List.setIfInBounds_toArray, List.set_cons_zero, List.set_cons_succ, List.getElem_toArray, List.getElem_cons_zero, List.getElem_cons_succ]
    refine wpAnyH_take (i := 1) (v := _) rfl (by kernel_rfl) (by kernel_rfl) (by kernel_rfl) (fun _ _ _ h => h) (yieldsIf_load_mid (by rfl) _ _ rfl _ _ rfl ks _ (fun w hSw => (hSw.1.tl.fst.range fun j v hv => by rw [Nat.zero_add]; exact hv)) Tryd.underlying35 rfl (by rw [HKL.out]; exact HIK.out)) hHeld ?_
    try simp only [Act.put, List.setIfInBounds_toArray, List.set_cons_zero, List.set_cons_succ, List.getElem_toArray, List.getElem_cons_zero, List.getElem_cons_succ]
    refine wpAnyH_take (i := 2) (v := _) rfl (by kernel_rfl) (by kernel_rfl) (by kernel_rfl) (fun _ _ _ h => h) (yieldsIf_load_mid (by rfl) _ _ rfl _ _ rfl ds _ (fun w hSw => (hSw.1.fst.range fun j v hv => by rw [Nat.zero_add]; exact hv)) Tryd.underlying30 rfl (by rw [HDL.out]; exact HI.out)) hHeld ?_
    try simp only [Act.put, List.setIfInBounds_toArray, List.set_cons_zero, List.set_cons_succ, List.getElem_toArray, List.getElem_cons_zero, List.getElem_cons_succ]
    refine wpAnyH_ready (rs := [3, 8]) (by kernel_rfl) (by simp) ?_
    refine AllReadyH.cons rfl (fun K hK => ?_) (AllReadyH.cons rfl (fun K hK => ?_) (AllReadyH.nil))
    · go_simp
      refine (sdelta_ds ks ds HDS.out _ (HTB.out _ hHeld.1.bel) (HKW.out.later (by rw [HTS.out]; exact hHeld.2))).mono ?_
      rintro _ y1 ⟨a3, n3, c3, rfl, hn3, hc3, hR3, hb3⟩
      have HN3 := hid hn3
      have HC3 := hid hc3
      have HR3 := hid hR3
      refine hK.out _ _ (⟨hHeld.1.later hb3, hHeld.2.trans (hb3.mono hHeld.1.size)⟩) (fun hHeld => ?_)
      clear hK K hn3 hc3 hR3 hb3
      try simp only [Act.put, List.setIfInBounds_toArray, List.set_cons_zero, List.set_cons_succ, List.getElem_toArray, List.getElem_cons_zero, List.getElem_cons_succ]
      refine wpAnyH_ready (rs := [4, 8]) (by kernel_rfl) (by simp) ?_
      refine AllReadyH.cons rfl (fun K hK => ?_) (AllReadyH.cons rfl (fun K hK => ?_) (AllReadyH.nil))
      · go_simp
        refine (sopen_at ks (keyS []) _ (macS_len _ _) a3 n3 c3 (dB dAdd []) HN3.out (by rw [← HN3.out, dAdd_n]; omega) HC3.out dAdd [] 0 open_dAdd _ (HTB.out _ hHeld.1.bel) (HKW.out.later (by rw [HTS.out]; exact hHeld.2)) HR3.out).mono ?_
        rintro _ y2 ⟨v4, xs, hxs, rfl, hH4, hb4⟩
        have HXS := hid hxs
        have HXL := hid (show xs.length = 40 by rw [← hxs]; exact Dl.len dAdd_len)
        have HXO := hid (show ∀ x ∈ xs, x.oneCell' = true by rw [← hxs]; exact Dl.one (one9 hH4))
        refine hK.out _ _ (⟨hHeld.1.later hb4, hHeld.2.trans (hb4.mono hHeld.1.size)⟩) (fun hHeld => ?_)
        clear hK K hxs hH4 hb4 HR3
        try simp only [Act.put, List.setIfInBounds_toArray, List.set_cons_zero, List.set_cons_succ, List.getElem_toArray, List.getElem_cons_zero, List.getElem_cons_succ]
        refine wpAnyH_take (i := 5) (v := .tuple #[.agg xs.toArray, .int .i64 0]) rfl (by kernel_rfl) (by kernel_rfl) (by kernel_rfl) (fun _ _ _ h => h) (Or.inl ⟨by rfl, by intro w hSw; go_simp⟩) hHeld ?_
        try simp only [Act.put, List.setIfInBounds_toArray, List.set_cons_zero, List.set_cons_succ, List.getElem_toArray, List.getElem_cons_zero, List.getElem_cons_succ]
        refine wpAnyH_take (i := 6) (v := .agg xs.toArray) rfl (by kernel_rfl) (by kernel_rfl) (by kernel_rfl) (fun _ _ _ h => h) (Or.inl ⟨by rfl, by intro w hSw; go_simp⟩) hHeld ?_
        try simp only [Act.put, List.setIfInBounds_toArray, List.set_cons_zero, List.set_cons_succ, List.getElem_toArray, List.getElem_cons_zero, List.getElem_cons_succ]
        refine wpAnyH_take (i := 7) (v := .int .i64 0) rfl (by kernel_rfl) (by kernel_rfl) (by kernel_rfl) (fun _ _ _ h => h) (Or.inl ⟨by rfl, by intro w hSw; go_simp⟩) hHeld ?_
        try simp only [Act.put, List.setIfInBounds_toArray, List.set_cons_zero, List.set_cons_succ, List.getElem_toArray, List.getElem_cons_zero, List.getElem_cons_succ]
        refine wpAnyH_ready (rs := [8]) (by kernel_rfl) (by simp) ?_
        refine AllReadyH.cons rfl (fun K hK => ?_) (AllReadyH.nil)
        obtain ⟨X, hX⟩ : ∃ g, y2.heap.size = g := ⟨_, rfl⟩
        refine Eq.mpr (if_pos (by rfl)) ?_
        refine wp_alloc_blk 30 rfl _ HZ.out X hX ?_
        intro y3 hB8 hb8 hs8
        have hXT : T ≤ X := by have := hHeld.1.size; omega
        have hbl : Below y2.heap.size y2 y3 := by rw [hX]; exact hb8
        have HZX := hid hB8
        refine hK.out _ _ (⟨hHeld.1.later hbl, hHeld.2.trans (hbl.mono hHeld.1.size)⟩) (fun hHeld => ?_)
        clear hK K hB8 hb8 hs8 hbl hX
        try simp only [Act.put, List.setIfInBounds_toArray, List.set_cons_zero, List.set_cons_succ, List.getElem_toArray, List.getElem_cons_zero, List.getElem_cons_succ]
        refine wpAnyH_ready (rs := [9]) (by kernel_rfl) (by simp) ?_
        refine AllReadyH.cons rfl (fun K hK => ?_) AllReadyH.nil
        refine Eq.mpr (if_pos (by rfl)) ?_
        refine wp_store_list 30 _ _ rfl X 0 xs rfl rfl (HZX.out.there (by rw [HXL.out, HZL.out]; omega)) (by rw [HXL.out]; exact HI.out) HXO.out ?_
        intro yy hyy
        have HBX := hid (show Blk yy 30 X xs by rw [hyy]; have h3 := Blk.setCells xs [] zs [] (o := 0) (by simpa using HZX.out) (by rw [HZL.out, HXL.out]) rfl; simpa using h3)
        have hbT : Below T y3 yy := by rw [hyy]; exact below_setCells hXT _ _ (Below.refl _ _)
        clear hyy
        refine hK.out _ _ (⟨hHeld.1.above9 hbT, hHeld.2.trans hbT⟩) (fun hHeld => ?_)
        clear hK K
        try simp only [Act.put, List.setIfInBounds_toArray, List.set_cons_zero, List.set_cons_succ, List.getElem_toArray, List.getElem_cons_zero, List.getElem_cons_succ]
        clear hbT
        refine wpAnyH_ready (rs := [10]) (by kernel_rfl) (by simp) ?_
        refine AllReadyH.cons rfl (fun K hK => ?_) AllReadyH.nil
        go_simp
        refine hK.out _ _ (hHeld) (fun hHeld => ?_)
        clear hK K
        try simp only [Act.put, List.setIfInBounds_toArray, List.set_cons_zero, List.set_cons_succ, List.getElem_toArray, List.getElem_cons_zero, List.getElem_cons_succ]
        refine wpAnyH_done (by kernel_rfl) ?_ _
        go_wp2_with fail
        go_meet
        exact ⟨X, xs, v4, rfl, rfl, HXS.out, HBX.out, hHeld.1, HKW.out.later (by rw [HTS.out]; exact hHeld.2)⟩
      · obtain ⟨X, hX⟩ : ∃ g, y1.heap.size = g := ⟨_, rfl⟩
        refine Eq.mpr (if_pos (by rfl)) ?_
        refine wp_alloc_blk 30 rfl _ HZ.out X hX ?_
        intro y2 hB8 hb8 hs8
        have hXT : T ≤ X := by have := hHeld.1.size; omega
        have hbl : Below y1.heap.size y1 y2 := by rw [hX]; exact hb8
        have HZX := hid hB8
        have HR3 := hid (HR3.out.later hbl)
        refine hK.out _ _ (⟨hHeld.1.later hbl, hHeld.2.trans (hbl.mono hHeld.1.size)⟩) (fun hHeld => ?_)
        clear hK K hB8 hb8 hs8 hbl hX
        try simp only [Act.put, List.setIfInBounds_toArray, List.set_cons_zero, List.set_cons_succ, List.getElem_toArray, List.getElem_cons_zero, List.getElem_cons_succ]
        refine wpAnyH_ready (rs := [4]) (by kernel_rfl) (by simp) ?_
        refine AllReadyH.cons rfl (fun K hK => ?_) (AllReadyH.nil)
        go_simp
        refine (sopen_at ks (keyS []) _ (macS_len _ _) a3 n3 c3 (dB dAdd []) HN3.out (by rw [← HN3.out, dAdd_n]; omega) HC3.out dAdd [] 0 open_dAdd _ (HTB.out _ hHeld.1.bel) (HKW.out.later (by rw [HTS.out]; exact hHeld.2)) HR3.out).mono ?_
        rintro _ y3 ⟨v4, xs, hxs, rfl, hH4, hb4⟩
        have HXS := hid hxs
        have HXL := hid (show xs.length = 40 by rw [← hxs]; exact Dl.len dAdd_len)
        have HXO := hid (show ∀ x ∈ xs, x.oneCell' = true by rw [← hxs]; exact Dl.one (one9 hH4))
        have HZX := hid (HZX.out.later hb4)
        refine hK.out _ _ (⟨hHeld.1.later hb4, hHeld.2.trans (hb4.mono hHeld.1.size)⟩) (fun hHeld => ?_)
        clear hK K hxs hH4 hb4 HR3
        try simp only [Act.put, List.setIfInBounds_toArray, List.set_cons_zero, List.set_cons_succ, List.getElem_toArray, List.getElem_cons_zero, List.getElem_cons_succ]
        refine wpAnyH_take (i := 5) (v := .tuple #[.agg xs.toArray, .int .i64 0]) rfl (by kernel_rfl) (by kernel_rfl) (by kernel_rfl) (fun _ _ _ h => h) (Or.inl ⟨by rfl, by intro w hSw; go_simp⟩) hHeld ?_
        try simp only [Act.put, List.setIfInBounds_toArray, List.set_cons_zero, List.set_cons_succ, List.getElem_toArray, List.getElem_cons_zero, List.getElem_cons_succ]
        refine wpAnyH_take (i := 6) (v := .agg xs.toArray) rfl (by kernel_rfl) (by kernel_rfl) (by kernel_rfl) (fun _ _ _ h => h) (Or.inl ⟨by rfl, by intro w hSw; go_simp⟩) hHeld ?_
        try simp only [Act.put, List.setIfInBounds_toArray, List.set_cons_zero, List.set_cons_succ, List.getElem_toArray, List.getElem_cons_zero, List.getElem_cons_succ]
        refine wpAnyH_take (i := 7) (v := .int .i64 0) rfl (by kernel_rfl) (by kernel_rfl) (by kernel_rfl) (fun _ _ _ h => h) (Or.inl ⟨by rfl, by intro w hSw; go_simp⟩) hHeld ?_
        try simp only [Act.put, List.setIfInBounds_toArray, List.set_cons_zero, List.set_cons_succ, List.getElem_toArray, List.getElem_cons_zero, List.getElem_cons_succ]
        refine wpAnyH_ready (rs := [9]) (by kernel_rfl) (by simp) ?_
        refine AllReadyH.cons rfl (fun K hK => ?_) AllReadyH.nil
        refine Eq.mpr (if_pos (by rfl)) ?_
        refine wp_store_list 30 _ _ rfl X 0 xs rfl rfl (HZX.out.there (by rw [HXL.out, HZL.out]; omega)) (by rw [HXL.out]; exact HI.out) HXO.out ?_
        intro yy hyy
        have HBX := hid (show Blk yy 30 X xs by rw [hyy]; have h3 := Blk.setCells xs [] zs [] (o := 0) (by simpa using HZX.out) (by rw [HZL.out, HXL.out]) rfl; simpa using h3)
        have hbT : Below T y3 yy := by rw [hyy]; exact below_setCells hXT _ _ (Below.refl _ _)
        clear hyy
        refine hK.out _ _ (⟨hHeld.1.above9 hbT, hHeld.2.trans hbT⟩) (fun hHeld => ?_)
        clear hK K
        try simp only [Act.put, List.setIfInBounds_toArray, List.set_cons_zero, List.set_cons_succ, List.getElem_toArray, List.getElem_cons_zero, List.getElem_cons_succ]
        clear hbT
        refine wpAnyH_ready (rs := [10]) (by kernel_rfl) (by simp) ?_
        refine AllReadyH.cons rfl (fun K hK => ?_) AllReadyH.nil
        go_simp
        refine hK.out _ _ (hHeld) (fun hHeld => ?_)
        clear hK K
        try simp only [Act.put, List.setIfInBounds_toArray, List.set_cons_zero, List.set_cons_succ, List.getElem_toArray, List.getElem_cons_zero, List.getElem_cons_succ]
        refine wpAnyH_done (by kernel_rfl) ?_ _
        go_wp2_with fail
        go_meet
        exact ⟨X, xs, v4, rfl, rfl, HXS.out, HBX.out, hHeld.1, HKW.out.later (by rw [HTS.out]; exact hHeld.2)⟩
    · obtain ⟨X, hX⟩ : ∃ g, w5.drew.heap.size = g := ⟨_, rfl⟩
      refine Eq.mpr (if_pos (by rfl)) ?_
      refine wp_alloc_blk 30 rfl _ HZ.out X hX ?_
      intro y1 hB8 hb8 hs8
      have hXT : T ≤ X := by have := hHeld.1.size; omega
      have hbl : Below w5.drew.heap.size w5.drew y1 := by rw [hX]; exact hb8
      have HZX := hid hB8
      refine hK.out _ _ (⟨hHeld.1.later hbl, hHeld.2.trans (hbl.mono hHeld.1.size)⟩) (fun hHeld => ?_)
      clear hK K hB8 hb8 hs8 hbl hX
      try simp only [Act.put, List.setIfInBounds_toArray, List.set_cons_zero, List.set_cons_succ, List.getElem_toArray, List.getElem_cons_zero, List.getElem_cons_succ]
      refine wpAnyH_ready (rs := [3]) (by kernel_rfl) (by simp) ?_
      refine AllReadyH.cons rfl (fun K hK => ?_) (AllReadyH.nil)
      go_simp
      refine (sdelta_ds ks ds HDS.out _ (HTB.out _ hHeld.1.bel) (HKW.out.later (by rw [HTS.out]; exact hHeld.2))).mono ?_
      rintro _ y2 ⟨a3, n3, c3, rfl, hn3, hc3, hR3, hb3⟩
      have HN3 := hid hn3
      have HC3 := hid hc3
      have HR3 := hid hR3
      have HZX := hid (HZX.out.later hb3)
      refine hK.out _ _ (⟨hHeld.1.later hb3, hHeld.2.trans (hb3.mono hHeld.1.size)⟩) (fun hHeld => ?_)
      clear hK K hn3 hc3 hR3 hb3
      try simp only [Act.put, List.setIfInBounds_toArray, List.set_cons_zero, List.set_cons_succ, List.getElem_toArray, List.getElem_cons_zero, List.getElem_cons_succ]
      refine wpAnyH_ready (rs := [4]) (by kernel_rfl) (by simp) ?_
      refine AllReadyH.cons rfl (fun K hK => ?_) (AllReadyH.nil)
      go_simp
      refine (sopen_at ks (keyS []) _ (macS_len _ _) a3 n3 c3 (dB dAdd []) HN3.out (by rw [← HN3.out, dAdd_n]; omega) HC3.out dAdd [] 0 open_dAdd _ (HTB.out _ hHeld.1.bel) (HKW.out.later (by rw [HTS.out]; exact hHeld.2)) HR3.out).mono ?_
      rintro _ y3 ⟨v4, xs, hxs, rfl, hH4, hb4⟩
      have HXS := hid hxs
      have HXL := hid (show xs.length = 40 by rw [← hxs]; exact Dl.len dAdd_len)
      have HXO := hid (show ∀ x ∈ xs, x.oneCell' = true by rw [← hxs]; exact Dl.one (one9 hH4))
      have HZX := hid (HZX.out.later hb4)
      refine hK.out _ _ (⟨hHeld.1.later hb4, hHeld.2.trans (hb4.mono hHeld.1.size)⟩) (fun hHeld => ?_)
      clear hK K hxs hH4 hb4 HR3
      try simp only [Act.put, List.setIfInBounds_toArray, List.set_cons_zero, List.set_cons_succ, List.getElem_toArray, List.getElem_cons_zero, List.getElem_cons_succ]
      refine wpAnyH_take (i := 5) (v := .tuple #[.agg xs.toArray, .int .i64 0]) rfl (by kernel_rfl) (by kernel_rfl) (by kernel_rfl) (fun _ _ _ h => h) (Or.inl ⟨by rfl, by intro w hSw; go_simp⟩) hHeld ?_
      try simp only [Act.put, List.setIfInBounds_toArray, List.set_cons_zero, List.set_cons_succ, List.getElem_toArray, List.getElem_cons_zero, List.getElem_cons_succ]
      refine wpAnyH_take (i := 6) (v := .agg xs.toArray) rfl (by kernel_rfl) (by kernel_rfl) (by kernel_rfl) (fun _ _ _ h => h) (Or.inl ⟨by rfl, by intro w hSw; go_simp⟩) hHeld ?_
      try simp only [Act.put, List.setIfInBounds_toArray, List.set_cons_zero, List.set_cons_succ, List.getElem_toArray, List.getElem_cons_zero, List.getElem_cons_succ]
      refine wpAnyH_take (i := 7) (v := .int .i64 0) rfl (by kernel_rfl) (by kernel_rfl) (by kernel_rfl) (fun _ _ _ h => h) (Or.inl ⟨by rfl, by intro w hSw; go_simp⟩) hHeld ?_
      try simp only [Act.put, List.setIfInBounds_toArray, List.set_cons_zero, List.set_cons_succ, List.getElem_toArray, List.getElem_cons_zero, List.getElem_cons_succ]
      refine wpAnyH_ready (rs := [9]) (by kernel_rfl) (by simp) ?_
      refine AllReadyH.cons rfl (fun K hK => ?_) AllReadyH.nil
      refine Eq.mpr (if_pos (by rfl)) ?_
      refine wp_store_list 30 _ _ rfl X 0 xs rfl rfl (HZX.out.there (by rw [HXL.out, HZL.out]; omega)) (by rw [HXL.out]; exact HI.out) HXO.out ?_
      intro yy hyy
      have HBX := hid (show Blk yy 30 X xs by rw [hyy]; have h3 := Blk.setCells xs [] zs [] (o := 0) (by simpa using HZX.out) (by rw [HZL.out, HXL.out]) rfl; simpa using h3)
      have hbT : Below T y3 yy := by rw [hyy]; exact below_setCells hXT _ _ (Below.refl _ _)
      clear hyy
      refine hK.out _ _ (⟨hHeld.1.above9 hbT, hHeld.2.trans hbT⟩) (fun hHeld => ?_)
      clear hK K
      try simp only [Act.put, List.setIfInBounds_toArray, List.set_cons_zero, List.set_cons_succ, List.getElem_toArray, List.getElem_cons_zero, List.getElem_cons_succ]
      clear hbT
      refine wpAnyH_ready (rs := [10]) (by kernel_rfl) (by simp) ?_
      refine AllReadyH.cons rfl (fun K hK => ?_) AllReadyH.nil
      go_simp
      refine hK.out _ _ (hHeld) (fun hHeld => ?_)
      clear hK K
      try simp only [Act.put, List.setIfInBounds_toArray, List.set_cons_zero, List.set_cons_succ, List.getElem_toArray, List.getElem_cons_zero, List.getElem_cons_succ]
      refine wpAnyH_done (by kernel_rfl) ?_ _
      go_wp2_with fail
      go_meet
      exact ⟨X, xs, v4, rfl, rfl, HXS.out, HBX.out, hHeld.1, HKW.out.later (by rw [HTS.out]; exact hHeld.2)⟩
  case rest =>
  -- REGION4
  obtain ⟨X, xs, v4, rfl, rfl, hxs, hX, hH, hW⟩ := hcut
  have c36 : wc.cell? ⟨X, 36, none⟩ = some (.int .i64 2) := hX.cell (by rw [← hxs, Dl.tail dAdd_len 0]; rfl)
  have HH := hid hH
  have HW := hid hW
  clear hX hH hW HS HKW
  go_wp2_with (first
    | (show wpList _ _ _ (⟨some 23, Op.load _ _, _, _, _, _⟩ :: _) _ _; go_must (refine wpList_load_want9 (by first | rfl | go_simp) 35 _ rfl G 0 rfl ks _ (HH.out.tl.fst.range fun j v hv => by rw [Nat.zero_add]; exact hv) Tryd.underlying35 rfl (by rw [HKL.out]; exact HIK.out) ?_))
    | (show wpList _ _ _ (⟨some 24, Op.build _ _, _, _, _, _⟩ :: _) _ _; go_must (refine wpList_build_want9 (by first | rfl | go_simp) 56 _ rfl #[] (by simp) es.toArray HBE.out ?_)))
  -- CALL4
  rw [← HES.out]
  refine (sCheck_any ks (keyS []) 0 En.zero En.zero_ok (.slice none 0 0) (.slice none 0 0) [] [] _ (HTB.out _ HH.out.bel) HW.out ⟨none, 0, rfl, Nat.le_refl _, fun _ => rfl, fun _ h => by cases h⟩ (by simp) (RC.nil _) few0).mono ?_
  rintro _ w9 ⟨rfl, hb9⟩
  rw [zero_chkE]
  have Hb9 := hid (show Below L w w9 from HH.out.bel.trans (hb9.mono (by have := HH.out.low; omega)))
  clear hb9
  go_wp2_with fail
  go_ret
  exact ⟨rfl, by first | exact Hb9.out | (rw [hL]; exact Hb9.out)⟩
end Go.Proofs.YtinifnpajkldbaaDoor

/- What a drawn region keeps may be made stronger in its midst; of no program. -/
namespace Go.Proofs.YtinifnpajkldbaaDoor
open Go.RowKit

theorem wpAnyH_strong {P : Program} {ops : Array Oper} {Q : Exit → Act → World → Prop} {md : Region.Mode} {S S' : World → Prop} (hs : ∀ w, S' w → S w) : ∀ (fuel : Nat) (listed : Array Bool) (a : Act) (w : World), wpAnyH P md ops Q S' fuel listed a w → wpAnyH P md ops Q S fuel listed a w
  | 0, _, _, _, h => h
  | fuel + 1, _, _, _, h => ⟨h.1, fun i hi => wpOp_mono (fun a' w' h' => ⟨hs _ h'.1, wpAnyH_strong hs fuel _ a' w' h'.2⟩) (h.2 i hi)⟩
end Go.Proofs.YtinifnpajkldbaaDoor

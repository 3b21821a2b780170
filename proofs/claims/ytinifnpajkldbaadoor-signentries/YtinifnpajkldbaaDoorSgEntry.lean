/- The contract of package sign's Entry. -/
import Derived.Test.YtinifnpajkldbaaDoorSgCore
import Derived.Test.YtinifnpajkldbaaDoorSgMac
import Derived.Test.YtinifnpajkldbaaDoorQ9b46
import Derived.Test.YtinifnpajkldbaaDoorPk3
import Derived.Test.YtinifnpajkldbaaDoorPk12
import Derived.Test.YtinifnpajkldbaaDoorPk6
import Derived.Deep.RegionHeld3
namespace Go.Proofs.YtinifnpajkldbaaDoor
open Go.RowKit
set_option linter.unusedSimpArgs false
set_option linter.unusedVariables false

/-- The entry, as Entry's second row lays it. -/
def EntryOf (L T : Nat) (w wd : World) (bs : List (TypeId × Nat × List Value)) (e : En) (bv : Value) (o : List Cp) (s : Value) (w' : World) : Prop :=
  ∃ E v', s = .pointer (some ⟨E, 0, none⟩) ∧ HB L T w bs (L + 3) 56 99 w' ∧ Below T wd w' ∧ EnW w' 56 E e bv v' ∧ HasC w' T v' o ∧ T ≤ E ∧ ∀ k, blkOf v' = some k → k ≠ E

set_option maxRecDepth 100000 in
set_option maxHeartbeats 16000000 in
theorem sEntry_any (ks : List Value) (KY : Nat → List UInt8) (j : Nat) (hj : j < 3) (ph : List UInt8) (hph : ph.length = 32) (m : List UInt8) (hm : m.length = 32) (ao : Option Addr) (n cap : Nat) (body : List UInt8) (hn : body.length = n) (hn2 : n ≤ 400) (hcap : cap ≤ maxLen) (at_ : Int) (ov : Value) (o : List Cp) (w : World) (ht : Tabs w)
    (hk : KW w ks KY) (hb : Reads w (.slice ao n cap) (B body)) (hv : RC w ov o) (hf : FewS o) :
    Calls Tryd.prog 22 #[.agg ks.toArray, .int .i64 (j : Int), .agg (B ph).toArray, .agg (sgC (.slice ao n cap) m).toArray, .int .i64 at_, ov] w fun x w' => ∃ a c v', x = .returned (.agg ((madeE (KY j) ph m at_ body o).cells (.slice a n c) v').toArray) ∧ Reads w' (.slice a n c) (B body) ∧ HasC w' w.heap.size v' o ∧ Below w.heap.size w w' := by
  obtain ⟨cs, hcs⟩ : ∃ cs, sgC (.slice ao n cap) m = cs := ⟨_, rfl⟩
  obtain ⟨L, hL⟩ : ∃ L, w.heap.size = L := ⟨_, rfl⟩
  have hL2 : 2 ≤ L := by rw [← hL]; exact ht.two
  have HTB := hid (show ∀ wx, Below L w wx → Tabs wx from fun wx h => ht.below h hL2)
  have HRD := hid hb
  have HN := hid hn
  have HV := hid hv
  have HF := hid hf
  have HM := hid hm
  have HKW := hid hk
  have HKL := hid hk.len
  have HOK := hid (show (⟨m, at_, List.replicate 32 0, List.replicate 32 0⟩ : En).Ok from ⟨hm, by simp, by simp⟩)
  have HIH := hid (show (Tryd.prog.info? 26).map (·.size) = some 32 by kernel_rfl)
  have HIE := hid (show (Tryd.prog.info? 56).map (·.size) = some 99 by kernel_rfl)
  have HIS := hid (show (Tryd.prog.info? 40).map (·.size) = some 33 by kernel_rfl)
  have HIK := hid (show (Tryd.prog.info? 35).map (·.size) = some 3 by kernel_rfl)
  obtain ⟨zs, hzs⟩ : ∃ zs, En.zero.cells (.slice none 0 0) (.slice none 0 0) = zs := ⟨_, rfl⟩
  have HZ := hid (show (Tryd.prog.info? 56).bind (fun i => i.zero.map fun z => z.cells.toList) = some zs by rw [← hzs]; kernel_rfl)
  have HZL := hid (show zs.length = 99 by rw [← hzs]; exact En.len En.zero_ok)
  obtain ⟨ps, hps⟩ : ∃ ps, B ph = ps := ⟨_, rfl⟩
  have HPS := hid hps
  have HPH := hid hph
  have HCS := hid hcs
  rw [hps, hcs]
  have hbl : body.length ≤ 400 := by omega
  have HBL := hid hbl
  clear hps hcs hzs hph hm hn hb hv hf hk ht hbl
  go_enter Tryd.func22, Tryd.ntmps22
  go_upto_region 1 with (first
    | (show wpList _ _ _ (⟨some 6, Op.box _ _, _, _, _, _⟩ :: _) _ _; go_must (refine wpList_box_blk rfl 35 _ rfl ks rfl L hL ?_); intro w1 hB1 hb1 hs1; have HB1 := hid hB1; have Hb1 := hid hb1; clear hB1 hb1)
    | (show wpList _ _ _ (⟨some 8, Op.box _ _, _, _, _, _⟩ :: _) _ _; go_must (refine wpList_box_blk rfl 26 _ rfl ps rfl (L + 1) hs1 ?_); intro w2 hB2 hb2 hs2; have HB2 := hid hB2; have Hb2 := hid hb2; clear hB2 hb2)
    | (show wpList _ _ _ (⟨some 9, Op.box _ _, _, _, _, _⟩ :: _) _ _; go_must (refine wpList_box_blk rfl 40 _ rfl cs rfl (L + 2) hs2 ?_); intro w3 hB3 hb3 hs3; have HB3 := hid hB3; have Hb3 := hid hb3; clear hB3 hb3)
    | (show wpList _ _ _ (⟨some 12, Op.alloc _, _, _, _, _⟩ :: _) _ _; go_must (refine wpList_alloc_blk rfl 56 rfl _ HZ.out (L + 3) hs3 ?_); intro w4 hB4 hb4 hs4; have HB4 := hid hB4; have Hb4 := hid hb4; clear hB4 hb4))
  -- REGION1
  have HS1 := hid (show HB L (L + 4) w [(40, L + 2, cs), (26, L + 1, ps), (35, L, ks)] (L + 3) 56 99 w4 from by
    refine HB.cons (HB.cons (HB.cons (HB.nil (by omega) HB4.out HZL.out (Hb1.out.trans ((Hb2.out.mono (by omega)).trans ((Hb3.out.mono (by omega)).trans (Hb4.out.mono (by omega))))) (by omega) (by omega)) ?_ (by omega) (by omega)) ?_ (by omega) (by omega)) ?_ (by omega) (by omega)
    · exact ((HB1.out.kept (Hb2.out.block L (by omega))).kept (Hb3.out.block L (by omega))).kept (Hb4.out.block L (by omega))
    · exact (HB2.out.kept (Hb3.out.block (L + 1) (by omega))).kept (Hb4.out.block (L + 1) (by omega))
    · exact HB3.out.kept (Hb4.out.block (L + 2) (by omega)))
  have c0 : w4.cell? ⟨L + 2, 0, none⟩ = some (.slice ao n cap) := HS1.out.fst.cell (by rw [← HCS.out]; rfl)
  have HZ4 := hid HS1.out.size
  clear hs1 hs2 hs3 hs4 HB1 HB2 HB3 HB4 Hb1 Hb2 Hb3 Hb4
  go_wp2_with fail
  -- CLONE
  refine (clone_new (.slice ao n cap) body _ (HRD.out.later (by rw [hL]; exact HS1.out.bel)) (by have := HBL.out; omega)).mono ?_
  rintro _ w5 ⟨ba, bc, rfl, hR5, hb5⟩
  rw [HN.out] at hR5 ⊢
  have HR5 := hid hR5
  have HS5 := hid (HS1.out.later hb5)
  have c1 : w5.cell? ⟨L + 2, 0, none⟩ = some (.slice ao n cap) := HS5.out.fst.cell (by rw [← HCS.out]; rfl)
  have fr : w5.frozen? ⟨L + 2, 0, none⟩ = false := HS5.out.fst.frozen 0
  have hz5 : L + 4 ≤ w5.heap.size := HS5.out.size
  clear hR5 hb5 c0 HS1
  obtain ⟨c2s, hc2⟩ : ∃ cs, sgC (.slice ba n bc) m = cs := ⟨_, rfl⟩
  have HC2S := hid hc2
  have HC2L := hid (show c2s.length = 33 by rw [← hc2]; exact sgC_len HM.out)
  clear hc2
  go_upto_region 2 with fail
  -- REGION2
  have hz4 : L + 4 ≤ w4.heap.size := HZ4.out
  have HX := hid (show Blk (w5.setCell ⟨L + 2, 0, none⟩ (.slice ba n bc)) 40 (L + 2) c2s ∧ (∀ k, k ≠ L + 2 → (w5.setCell ⟨L + 2, 0, none⟩ (.slice ba n bc)).heap[k]? = w5.heap[k]?) ∧ Below L w (w5.setCell ⟨L + 2, 0, none⟩ (.slice ba n bc)) ∧ (w5.setCell ⟨L + 2, 0, none⟩ (.slice ba n bc)).heap.size = w5.heap.size from
    ⟨by
      have h := HS5.out.fst.setCell 0 (.slice ba n bc)
      rw [← HCS.out] at h
      rw [← HC2S.out]
      exact h, fun k hk => heap_setCell_other _ _ _ _ hk, HS5.out.bel.setCell (show L ≤ L + 2 by omega) _, by simp⟩)
  clear c1 fr
  generalize w5.setCell ⟨L + 2, 0, none⟩ (.slice ba n bc) = w6 at *
  obtain ⟨T, hT⟩ : ∃ T, w6.drew.heap.size = T := ⟨_, rfl⟩
  have hTL : L + 4 ≤ T := by rw [← hT]; show L + 4 ≤ w6.heap.size; rw [HX.out.2.2.2]; exact hz5
  have HS2 := hid (show HB L T w [(40, L + 2, c2s), (26, L + 1, ps), (35, L, ks)] (L + 3) 56 99 w6.drew from by
    obtain ⟨zz, hzl, hzb⟩ := HS5.out.own
    refine HB.cons (HB.cons (HB.cons (HB.nil (by rw [hT]; omega) ((hzb.kept (HX.out.2.1 (L + 3) (by omega))).drewN 1) hzl HX.out.2.2.1.drew (by omega) (by omega)) ?_ (by omega) (by omega)) ?_ (by omega) (by omega)) (HX.out.1.drewN 1) (by omega) (by omega)
    · exact (HS5.out.tl.tl.fst.kept (HX.out.2.1 L (by omega))).drewN 1
    · exact (HS5.out.tl.fst.kept (HX.out.2.1 (L + 1) (by omega))).drewN 1)
  have HR6 := hid (show Has w6.drew 5 w4.heap.size (.slice ba n bc) n (B body) from HR5.out.kept9 fun k hk => HX.out.2.1 k (by omega))
  clear HX HS5 HR5
  generalize hwd : w6.drew = wd at *
  have HTS := hid hT
  clear hT
  go_cut [13] (fun s w' => EntryOf L T w wd [(40, L + 2, c2s), (26, L + 1, ps), (35, L, ks)] ⟨m, at_, List.replicate 32 0, List.replicate 32 0⟩ (.slice ba n bc) o s w')
  case first =>
    refine wp_region_held_drew (S := fun w' => HB L T w [(40, L + 2, c2s), (26, L + 1, ps), (35, L, ks)] (L + 3) 56 99 w' ∧ Below T wd w') (by kernel_rfl) ((by rw [hwd]; exact ⟨HS2.out, Below.refl _ _⟩)) (fun hHeld => ?_)
    rw [hwd] at hHeld ⊢
    clear hwd
    refine wpAnyH_take (i := 0) (v := _) rfl (by kernel_rfl) (by kernel_rfl) (by kernel_rfl) (fun _ _ _ h => h) (yieldsIf_load_mid (by rfl) _ _ rfl _ _ rfl c2s _ (fun w hSw => (hSw.1.fst.range fun j v hv => by rw [Nat.zero_add]; exact hv)) Tryd.underlying40 rfl (by rw [HC2L.out]; exact HIS.out)) hHeld ?_
    try simp only [Act.put, List.setIfInBounds_toArray, List.set_cons_zero, List.set_cons_succ, List.getElem_toArray, List.getElem_cons_zero, List.getElem_cons_succ]
    refine wpAnyH_take (i := 1) (v := .int .i64 at_) rfl (by kernel_rfl) (by kernel_rfl) (by kernel_rfl) (fun _ _ _ h => h) (Or.inl ⟨by rfl, by intro w hSw; go_simp⟩) hHeld ?_
    try simp only [Act.put, List.setIfInBounds_toArray, List.set_cons_zero, List.set_cons_succ, List.getElem_toArray, List.getElem_cons_zero, List.getElem_cons_succ]
    refine wpAnyH_take (i := 2) (v := ov) rfl (by kernel_rfl) (by kernel_rfl) (by kernel_rfl) (fun _ _ _ h => h) (Or.inl ⟨by rfl, by intro w hSw; go_simp⟩) hHeld ?_
    try simp only [Act.put, List.setIfInBounds_toArray, List.set_cons_zero, List.set_cons_succ, List.getElem_toArray, List.getElem_cons_zero, List.getElem_cons_succ]
    refine wpAnyH_ready (rs := [3, 5]) (by kernel_rfl) (by simp) ?_
    refine AllReadyH.cons rfl (fun K hK => ?_) (AllReadyH.cons rfl (fun K hK => ?_) AllReadyH.nil)
    · go_simp
      refine (cloneOp_any ov o _ (HV.out.later (by rw [hL]; exact hHeld.1.bel)) (by have := HF.out.1; omega)).mono ?_
      rintro _ y1 ⟨v10, rfl, hH10, hb10⟩
      have HH10 := hid hH10
      have hge : T ≤ wd.heap.size := hHeld.1.size
      refine hK.out _ _ (⟨hHeld.1.later hb10, hHeld.2.trans (hb10.mono hHeld.1.size)⟩) (fun hHeld => ?_)
      clear hK K hb10 hH10
      try simp only [Act.put, List.setIfInBounds_toArray, List.set_cons_zero, List.set_cons_succ, List.getElem_toArray, List.getElem_cons_zero, List.getElem_cons_succ]
      obtain ⟨a10, p10, hv10⟩ := HH10.out.form
      have hbo : ∀ k, blkOf v10 = some k → wd.heap.size ≤ k ∧ k < y1.heap.size := fun k hk => ⟨HH10.out.ge9 hk, HasK.blk HH10.out hk⟩
      subst hv10
      obtain ⟨es, hes⟩ : ∃ es, (⟨m, at_, List.replicate 32 0, List.replicate 32 0⟩ : En).cells (.slice ba n bc) (.slice a10 o.length p10) = es := ⟨_, rfl⟩
      have HES := hid hes
      have HESL := hid (show es.length = 99 by rw [← hes]; exact En.len HOK.out)
      have HESO := hid (show ∀ v ∈ es, v.oneCell' = true by rw [← hes]; exact En.one rfl rfl)
      have HEB := hid (show ∀ wx, (Instr.build 56 #[(0, .agg c2s.toArray), (1, .int .i64 at_), (2, .slice a10 o.length p10)]).run Tryd.prog wx = .ok (.agg es.toArray) wx from fun wx => by rw [← hes, ← HC2S.out]; exact run_entry9 wx ba n bc m HM.out at_ a10 o.length p10)
      clear hes
      refine wpAnyH_take (i := 4) (v := .agg es.toArray) rfl (by kernel_rfl) (by kernel_rfl) (by kernel_rfl) (fun _ _ _ h => h) (yields_build9 (by rfl) 56 #[(0, .tmp 19), (1, .tmp 20), (2, .tmp 22)] rfl #[(0, .agg c2s.toArray), (1, .int .i64 at_), (2, .slice a10 o.length p10)] (by first | rfl | simp [Act.eval]) _ HEB.out) hHeld ?_
      try simp only [Act.put, List.setIfInBounds_toArray, List.set_cons_zero, List.set_cons_succ, List.getElem_toArray, List.getElem_cons_zero, List.getElem_cons_succ]
      refine wpAnyH_ready (rs := [5]) (by kernel_rfl) (by simp) ?_
      refine AllReadyH.cons rfl (fun K hK => ?_) AllReadyH.nil
      obtain ⟨E, hE⟩ : ∃ g, y1.heap.size = g := ⟨_, rfl⟩
      refine Eq.mpr (if_pos (by rfl)) ?_
      refine wp_alloc_blk 56 rfl _ HZ.out E hE ?_
      intro y2 hB12 hb12 hs12
      have hTE : T ≤ E := by have := hHeld.1.size; omega
      have hbl : Below y1.heap.size y1 y2 := by rw [hE]; exact hb12
      have HE0 := hid hB12
      have HH10 := hid (HH10.out.later hbl)
      refine hK.out _ _ (⟨hHeld.1.later hbl, hHeld.2.trans (hbl.mono hHeld.1.size)⟩) (fun hHeld => ?_)
      clear hK K hB12 hb12 hbl
      try simp only [Act.put, List.setIfInBounds_toArray, List.set_cons_zero, List.set_cons_succ, List.getElem_toArray, List.getElem_cons_zero, List.getElem_cons_succ]
      refine wpAnyH_ready (rs := [6]) (by kernel_rfl) (by simp) ?_
      refine AllReadyH.cons rfl (fun K hK => ?_) AllReadyH.nil
      refine Eq.mpr (if_pos (by rfl)) ?_
      refine wp_store_list 56 _ _ rfl E 0 es rfl rfl (HE0.out.there (by rw [HESL.out, HZL.out]; omega)) (by rw [HESL.out]; exact HIE.out) HESO.out ?_
      intro yy hyy
      have hne : ∀ k, blkOf (Value.slice a10 o.length p10) = some k → k ≠ E := fun k hk => by have := hbo k hk; omega
      have HX := hid (show Blk yy 56 E es ∧ Below T y2 yy ∧ HasC yy T (.slice a10 o.length p10) o from by
        rw [hyy]
        refine ⟨by have h3 := Blk.setCells es [] zs [] (o := 0) (by simpa using HE0.out) (by rw [HESL.out, HZL.out]) rfl; simpa using h3, below_setCells hTE _ _ (Below.refl _ _), ?_⟩
        exact (HH10.out.mono hge).kept9 fun k hk => setCells_heap (hne k hk) es 0 _)
      clear hyy
      refine hK.out _ _ (⟨hHeld.1.above HX.out.2.1, hHeld.2.trans HX.out.2.1⟩) (fun hHeld => ?_)
      clear hK K
      try simp only [Act.put, List.setIfInBounds_toArray, List.set_cons_zero, List.set_cons_succ, List.getElem_toArray, List.getElem_cons_zero, List.getElem_cons_succ]
      refine wpAnyH_done (by kernel_rfl) ?_ _
      go_wp2_with fail
      go_meet
      exact ⟨E, _, rfl, hHeld.1, hHeld.2, ⟨HOK.out, by rw [HES.out]; exact HX.out.1⟩, HX.out.2.2, hTE, hne⟩
    · obtain ⟨E, hE⟩ : ∃ g, wd.heap.size = g := ⟨_, rfl⟩
      refine Eq.mpr (if_pos (by rfl)) ?_
      refine wp_alloc_blk 56 rfl _ HZ.out E hE ?_
      intro y1 hB12 hb12 hs12
      have hTE : T ≤ E := by have := hHeld.1.size; omega
      have hbl : Below wd.heap.size wd y1 := by rw [hE]; exact hb12
      have HE0 := hid hB12
      refine hK.out _ _ (⟨hHeld.1.later hbl, hHeld.2.trans (hbl.mono hHeld.1.size)⟩) (fun hHeld => ?_)
      clear hK K hB12 hb12 hbl
      try simp only [Act.put, List.setIfInBounds_toArray, List.set_cons_zero, List.set_cons_succ, List.getElem_toArray, List.getElem_cons_zero, List.getElem_cons_succ]
      refine wpAnyH_ready (rs := [3]) (by kernel_rfl) (by simp) ?_
      refine AllReadyH.cons rfl (fun K hK => ?_) AllReadyH.nil
      go_simp
      refine (cloneOp_any ov o _ (HV.out.later (by rw [hL]; exact hHeld.1.bel)) (by have := HF.out.1; omega)).mono ?_
      rintro _ y2 ⟨v10, rfl, hH10, hb10⟩
      have HH10 := hid hH10
      have hge : T ≤ y1.heap.size := hHeld.1.size
      have HE0 := hid (HE0.out.later hb10)
      refine hK.out _ _ (⟨hHeld.1.later hb10, hHeld.2.trans (hb10.mono hHeld.1.size)⟩) (fun hHeld => ?_)
      clear hK K hb10 hH10
      try simp only [Act.put, List.setIfInBounds_toArray, List.set_cons_zero, List.set_cons_succ, List.getElem_toArray, List.getElem_cons_zero, List.getElem_cons_succ]
      obtain ⟨a10, p10, hv10⟩ := HH10.out.form
      have hbo : ∀ k, blkOf v10 = some k → y1.heap.size ≤ k ∧ k < y2.heap.size := fun k hk => ⟨HH10.out.ge9 hk, HasK.blk HH10.out hk⟩
      subst hv10
      obtain ⟨es, hes⟩ : ∃ es, (⟨m, at_, List.replicate 32 0, List.replicate 32 0⟩ : En).cells (.slice ba n bc) (.slice a10 o.length p10) = es := ⟨_, rfl⟩
      have HES := hid hes
      have HESL := hid (show es.length = 99 by rw [← hes]; exact En.len HOK.out)
      have HESO := hid (show ∀ v ∈ es, v.oneCell' = true by rw [← hes]; exact En.one rfl rfl)
      have HEB := hid (show ∀ wx, (Instr.build 56 #[(0, .agg c2s.toArray), (1, .int .i64 at_), (2, .slice a10 o.length p10)]).run Tryd.prog wx = .ok (.agg es.toArray) wx from fun wx => by rw [← hes, ← HC2S.out]; exact run_entry9 wx ba n bc m HM.out at_ a10 o.length p10)
      clear hes
      refine wpAnyH_take (i := 4) (v := .agg es.toArray) rfl (by kernel_rfl) (by kernel_rfl) (by kernel_rfl) (fun _ _ _ h => h) (yields_build9 (by rfl) 56 #[(0, .tmp 19), (1, .tmp 20), (2, .tmp 22)] rfl #[(0, .agg c2s.toArray), (1, .int .i64 at_), (2, .slice a10 o.length p10)] (by first | rfl | simp [Act.eval]) _ HEB.out) hHeld ?_
      try simp only [Act.put, List.setIfInBounds_toArray, List.set_cons_zero, List.set_cons_succ, List.getElem_toArray, List.getElem_cons_zero, List.getElem_cons_succ]
      refine wpAnyH_ready (rs := [6]) (by kernel_rfl) (by simp) ?_
      refine AllReadyH.cons rfl (fun K hK => ?_) AllReadyH.nil
      refine Eq.mpr (if_pos (by rfl)) ?_
      refine wp_store_list 56 _ _ rfl E 0 es rfl rfl (HE0.out.there (by rw [HESL.out, HZL.out]; omega)) (by rw [HESL.out]; exact HIE.out) HESO.out ?_
      intro yy hyy
      have hne : ∀ k, blkOf (Value.slice a10 o.length p10) = some k → k ≠ E := fun k hk => by have := hbo k hk; omega
      have HX := hid (show Blk yy 56 E es ∧ Below T y2 yy ∧ HasC yy T (.slice a10 o.length p10) o from by
        rw [hyy]
        refine ⟨by have h3 := Blk.setCells es [] zs [] (o := 0) (by simpa using HE0.out) (by rw [HESL.out, HZL.out]) rfl; simpa using h3, below_setCells hTE _ _ (Below.refl _ _), ?_⟩
        exact (HH10.out.mono hge).kept9 fun k hk => setCells_heap (hne k hk) es 0 _)
      clear hyy
      refine hK.out _ _ (⟨hHeld.1.above HX.out.2.1, hHeld.2.trans HX.out.2.1⟩) (fun hHeld => ?_)
      clear hK K
      try simp only [Act.put, List.setIfInBounds_toArray, List.set_cons_zero, List.set_cons_succ, List.getElem_toArray, List.getElem_cons_zero, List.getElem_cons_succ]
      refine wpAnyH_done (by kernel_rfl) ?_ _
      go_wp2_with fail
      go_meet
      exact ⟨E, _, rfl, hHeld.1, hHeld.2, ⟨HOK.out, by rw [HES.out]; exact HX.out.1⟩, HX.out.2.2, hTE, hne⟩
  case rest =>
  obtain ⟨E, v10, rfl, hHB, hbd, hEW, hH10, hTE, hne⟩ := hcut
  have HS3 := hid hHB
  have HE3 := hid hEW
  have HH3 := hid hH10
  have HBD3 := hid hbd
  have HNE := hid hne
  have HR3 := hid (show ∀ wx, Below T wd wx → Has wx 5 w4.heap.size (.slice ba n bc) n (B body) from fun wx h => HR6.out.later (by rw [HTS.out]; exact h))
  have HLE := hid hEW.lt
  clear hHB hEW hH10 hbd hne HS2 HR6
  obtain ⟨e0s, he0s⟩ : ∃ es, (⟨m, at_, List.replicate 32 0, List.replicate 32 0⟩ : En).cells (.slice ba n bc) v10 = es := ⟨_, rfl⟩
  have HE0S := hid he0s
  have HE0L := hid (show e0s.length = 99 by rw [← he0s]; exact En.len HOK.out)
  have HE3R := hid (show wc.rangeAt E 0 e0s by rw [← he0s]; exact HE3.out.whole)
  obtain ⟨core, hcore⟩ : ∃ core, tx body ++ m ++ i8 at_ ++ tx (opB o) = core := ⟨_, rfl⟩
  obtain ⟨N, hN⟩ : ∃ N, coreN body.length o = N := ⟨_, rfl⟩
  have HNL := hid (show core.length = N by rw [← hcore, ← hN]; exact coreB_len HOK.out body o)
  have hN2 : N ≤ 8600 := by rw [← hN, coreN]; have := HF.out.le; have := HBL.out; omega
  obtain ⟨hh, hhh⟩ : ∃ hh, shaS (ph ++ core) = hh := ⟨_, rfl⟩
  have HHD := hid hhh
  have HHL := hid (show hh.length = 32 by rw [← hhh]; exact shaS_len _)
  obtain ⟨mc, hmc⟩ : ∃ mc, macS (KY j) (core ++ hh) = mc := ⟨_, rfl⟩
  have HMC := hid hmc
  have HMC32 := hid (show mc.length = 32 by rw [← hmc]; exact macS_len _ _)
  have HMADE := hid (show madeE (KY j) ph m at_ body o = ⟨m, at_, hh, mc⟩ by rw [madeE, hashE, hcore, hhh, hmc])
  obtain ⟨hs, hhs⟩ : ∃ hs, B hh = hs := ⟨_, rfl⟩
  have HHS := hid hhs
  have HHSL := hid (show hs.length = 32 by rw [← hhs, B_length, HHL.out])
  have HHO := hid (show ∀ v ∈ hs, v.oneCell' = true by rw [← hhs]; exact B_one _)
  obtain ⟨mcs, hmcs⟩ : ∃ hs, B mc = hs := ⟨_, rfl⟩
  have HMCS := hid hmcs
  have HMCL := hid (show mcs.length = 32 by rw [← hmcs, B_length, HMC32.out])
  have HMCO := hid (show ∀ v ∈ mcs, v.oneCell' = true by rw [← hmcs]; exact B_one _)
  have SC := hid (show ∀ wx, Reads wx (.slice ba n bc) (B body) → RC wx v10 o → Calls Tryd.prog 25 #[.agg e0s.toArray] wx (fun x w' => ∃ g cap, x = .returned (.slice (some ⟨g, 0, none⟩) N cap) ∧ wx.heap.size ≤ g ∧ Owns w' 5 g cap N (B core) ∧ Below wx.heap.size wx w') from fun wx h1 h2 => by
    have := sCore_own ⟨m, at_, List.replicate 32 0, List.replicate 32 0⟩ HOK.out _ v10 body o wx h1 HBL.out h2 HF.out
    rw [he0s, hN, coreB, hcore] at this
    exact this)
  clear he0s hcore hN hhh hmc hhs hmcs
  go_wp2_with (show wpList _ _ _ (⟨some 24, Op.load _ _, _, _, _, _⟩ :: _) _ _; go_must (refine wpList_load_mid rfl 56 _ rfl E 0 rfl e0s _ HE3R.out Tryd.underlying56 rfl (by rw [HE0L.out]; exact HIE.out) ?_))
  -- CORE
  refine (SC.out _ (HR3.out _ HBD3.out).reads HH3.out.reads).mono ?_
  rintro _ w7 ⟨gc, cc, rfl, hgc, hOc, hbc⟩
  have hcc : cc ≤ maxLen := hOc.2.2.1
  have hTc : T ≤ wc.heap.size := HS3.out.size
  have hgE : E < gc := Nat.lt_of_lt_of_le HLE.out hgc
  have HO7 := hid hOc
  have HS7 := hid (HS3.out.later hbc)
  have HE7 := hid (HE3.out.later hbc)
  have HH7 := hid (HH3.out.later hbc)
  have HBD7 := hid (show Below T wd w7 from HBD3.out.trans (hbc.mono hTc))
  clear hOc hbc HS3 HE3 HH3 HBD3 HE3R SC hgc HLE
  obtain ⟨A, hA⟩ : ∃ A, w7.alloc (.cells #[.slice (some ⟨L + 1, 0, none⟩) 32 32, .slice (some ⟨gc, 0, none⟩) N cc] 22) = A := ⟨_, rfl⟩
  have HAE := hid hA
  have hbA : Below w7.heap.size w7 A := by rw [← hA]; exact (Below.refl _ _).alloc (Nat.le_refl _) _
  have HPA := hid (show Parts A (.slice (some ⟨w7.heap.size, 0, none⟩) 2 2) [ph, core] from Parts.pair (t := 22) (fr := (0, 0)) (by rw [← hA, heap_of_alloc]; exact if_pos rfl) ((reads_range HPH.out (by rw [HPS.out]; exact HS7.out.tl.fst.range fun j v hv => by rw [Nat.zero_add]; exact hv)).later hbA) HPH.out (by unfold maxLen; omega) (HO7.out.reads.later hbA) HNL.out hcc)
  have hT7 : T ≤ w7.heap.size := HS7.out.size
  have HSA := hid (HS7.out.later hbA)
  have HEA := hid (HE7.out.later hbA)
  have HHA := hid (HH7.out.later hbA)
  have HOA := hid (HO7.out.later hbA)
  have HBDA := hid (show Below T wd A from HBD7.out.trans (hbA.mono hT7))
  clear hA hbA HS7 HE7 HH7 HO7 HBD7
  go_wp2_with fail
  -- SUM
  rw [HAE.out]
  refine (Sum_any _ (HTB.out _ HSA.out.bel) _ [ph, core] HPA.out (by simp) (by have := HPH.out; have := HNL.out; simp; omega)).mono ?_
  rintro _ w8 ⟨rfl, hb8⟩
  rw [show [ph, core].flatten = ph ++ core by simp, HHD.out, HHS.out]
  have hTA : T ≤ A.heap.size := HSA.out.size
  have HS8 := hid (HSA.out.later hb8)
  have HE8 := hid (HEA.out.later hb8)
  have HH8 := hid (HHA.out.later hb8)
  have HO8 := hid (HOA.out.later hb8)
  have HBD8 := hid (show Below T wd w8 from HBDA.out.trans (hb8.mono hTA))
  clear hb8 HSA HEA HHA HOA HBDA HPA HAE hTA hT7
  go_upto_region 5 with (show wpList _ _ _ (⟨none, Op.store _ (Operand.tmp 30) (Operand.tmp 29), _, _, _, _⟩ :: _) _ _; go_must (refine wpList_store_list rfl 26 _ _ rfl E 35 hs rfl rfl (HE8.out.there (by rw [HHSL.out]; omega)) (by rw [HHSL.out]; exact HIH.out) HHO.out ?_); intro w9 hw9; have HX9 := hid (show EnW w9 56 E ⟨m, at_, hh, List.replicate 32 0⟩ (.slice ba n bc) v10 ∧ Below T w8 w9 ∧ (∀ k, k ≠ E → w9.heap[k]? = w8.heap[k]?) by rw [hw9, ← HHS.out]; exact ⟨HE8.out.set_hash hh HHL.out, below_setCells hTE _ _ (Below.refl _ _), fun k hk => setCells_heap hk _ _ _⟩); clear hw9)
  -- REGION5
  have HS9 := hid (show HB L T w [(40, L + 2, c2s), (26, L + 1, ps), (35, L, ks)] (L + 3) 56 99 w9.drew from (HS8.out.above HX9.out.2.1).drew)
  have HE9 := hid (show EnW w9.drew 56 E ⟨m, at_, hh, List.replicate 32 0⟩ (.slice ba n bc) v10 from HX9.out.1.kept rfl)
  have HH9 := hid (show HasC w9.drew T v10 o from HH8.out.kept9 fun k hk => HX9.out.2.2 k (HNE.out k hk))
  have HO9 := hid (show Owns w9.drew 5 gc cc N (B core) from HO8.out.kept (HX9.out.2.2 gc (by omega)))
  have HBD9 := hid (show Below T wd w9.drew from (HBD8.out.trans HX9.out.2.1).drew)
  clear HS8 HE8 HH8 HO8 HBD8 HX9
  generalize hwe : w9.drew = we at *
  have hT5 : T ≤ we.heap.size := HS9.out.size
  have hE5 : E < we.heap.size := HE9.out.lt
  obtain ⟨T5, hT5e⟩ : ∃ T5, we.heap.size = T5 := ⟨_, rfl⟩
  rw [hT5e] at hT5 hE5
  have HT5 := hid hT5e
  have HS5 := hid (show HB L T5 w [(35, L, ks)] E 56 99 we from HB.cons (HB.nil (by omega) HE9.out.blk (En.len HE9.out.ok) HS9.out.bel hE5 (by omega)) HS9.out.tl.tl.fst (by omega) (by omega))
  clear hT5e
  refine wp_region_held_drew (S := fun w' => HB L T5 w [(35, L, ks)] E 56 99 w' ∧ Below T we w') (by kernel_rfl) ((by rw [hwe]; exact ⟨HS5.out, Below.refl _ _⟩)) (fun hHeld => ?_)
  rw [hwe] at hHeld ⊢
  clear hwe
  refine wpAnyH_take (i := 0) (v := _) rfl (by kernel_rfl) (by kernel_rfl) (by kernel_rfl) (fun _ _ _ h => h) (yieldsIf_load_mid (by rfl) _ _ rfl _ _ rfl ks _ (fun w hSw => (hSw.1.fst.range fun j v hv => by rw [Nat.zero_add]; exact hv)) Tryd.underlying35 rfl (by rw [HKL.out]; exact HIK.out)) hHeld ?_
  try simp only [Act.put, List.setIfInBounds_toArray, List.set_cons_zero, List.set_cons_succ, List.getElem_toArray, List.getElem_cons_zero, List.getElem_cons_succ]
  refine wpAnyH_take (i := 1) (v := .int .i64 (j : Int)) rfl (by kernel_rfl) (by kernel_rfl) (by kernel_rfl) (fun _ _ _ h => h) (Or.inl ⟨by rfl, by intro w hSw; go_simp⟩) hHeld ?_
  try simp only [Act.put, List.setIfInBounds_toArray, List.set_cons_zero, List.set_cons_succ, List.getElem_toArray, List.getElem_cons_zero, List.getElem_cons_succ]
  refine wpAnyH_take (i := 2) (v := .slice (some ⟨gc, 0, none⟩) N cc) rfl (by kernel_rfl) (by kernel_rfl) (by kernel_rfl) (fun _ _ _ h => h) (Or.inl ⟨by rfl, by intro w hSw; go_simp⟩) hHeld ?_
  try simp only [Act.put, List.setIfInBounds_toArray, List.set_cons_zero, List.set_cons_succ, List.getElem_toArray, List.getElem_cons_zero, List.getElem_cons_succ]
  refine wpAnyH_take (i := 3) (v := .pointer (some ⟨E, 35, none⟩)) rfl (by kernel_rfl) (by kernel_rfl) (by kernel_rfl) (fun _ _ _ h => h) (Or.inl ⟨by rfl, by intro w hSw; go_simp⟩) hHeld ?_
  try simp only [Act.put, List.setIfInBounds_toArray, List.set_cons_zero, List.set_cons_succ, List.getElem_toArray, List.getElem_cons_zero, List.getElem_cons_succ]
  refine wpAnyH_take (i := 4) (v := .slice (some ⟨E, 35, none⟩) 32 32) rfl (by kernel_rfl) (by kernel_rfl) (by kernel_rfl) (fun _ _ _ h => h) (Or.inl ⟨by rfl, by intro w hSw; go_simp⟩) hHeld ?_
  try simp only [Act.put, List.setIfInBounds_toArray, List.set_cons_zero, List.set_cons_succ, List.getElem_toArray, List.getElem_cons_zero, List.getElem_cons_succ]
  obtain ⟨A, hA⟩ : ∃ A, we.alloc (.cells #[.slice (some ⟨gc, 0, none⟩) N cc, .slice (some ⟨E, 35, none⟩) 32 32] 22) = A := ⟨_, rfl⟩
  have HAE := hid hA
  have hbA : Below we.heap.size we A := by rw [← hA]; exact (Below.refl _ _).alloc (Nat.le_refl _) _
  refine wpAnyH_ready (rs := [5]) (by kernel_rfl) (by simp) ?_
  refine AllReadyH.cons rfl (fun K hK => ?_) AllReadyH.nil
  go_simp
  refine hK.out _ _ (⟨hHeld.1.later hbA, hHeld.2.trans (hbA.mono (Nat.le_trans hT5 hHeld.1.size))⟩) (fun hHeld => ?_)
  clear hK K
  try simp only [Act.put, List.setIfInBounds_toArray, List.set_cons_zero, List.set_cons_succ, List.getElem_toArray, List.getElem_cons_zero, List.getElem_cons_succ]
  have HPA := hid (show Parts A (.slice (some ⟨we.heap.size, 0, none⟩) 2 2) [core, hh] from Parts.pair (t := 22) (fr := (0, 0)) (by rw [← hA, heap_of_alloc]; exact if_pos rfl) (HO9.out.reads.later hbA) HNL.out hcc ((reads_range HHL.out HE9.out.hash).later hbA) HHL.out (by unfold maxLen; omega))
  have HEA := hid (HE9.out.later hbA)
  have HHA := hid (HH9.out.later hbA)
  clear hbA hA
  refine wpAnyH_ready (rs := [6]) (by kernel_rfl) (by simp) ?_
  refine AllReadyH.cons rfl (fun K hK => ?_) AllReadyH.nil
  go_simp
  refine (sMac_any ks KY j hj _ 2 2 [core, hh] rfl _ (HTB.out _ hHeld.1.bel) (HKW.out.later (by rw [hL]; exact hHeld.1.bel)) HPA.out (by omega) (by have := HNL.out; have := HHL.out; simp; omega)).mono ?_
  rintro _ w7 ⟨rfl, hb7⟩
  rw [show [core, hh].flatten = core ++ hh by simp, HMC.out, HMCS.out]
  refine hK.out _ _ (⟨hHeld.1.later hb7, hHeld.2.trans (hb7.mono (Nat.le_trans hT5 hHeld.1.size))⟩) (fun hHeld => ?_)
  clear hK K
  try simp only [Act.put, List.setIfInBounds_toArray, List.set_cons_zero, List.set_cons_succ, List.getElem_toArray, List.getElem_cons_zero, List.getElem_cons_succ]
  have HE7 := hid (HEA.out.later hb7)
  have HH7 := hid (HHA.out.later hb7)
  clear hb7 HPA HEA HHA
  refine wpAnyH_take (i := 7) (v := .pointer (some ⟨E, 67, none⟩)) rfl (by kernel_rfl) (by kernel_rfl) (by kernel_rfl) (fun _ _ _ h => h) (Or.inl ⟨by rfl, by intro w hSw; go_simp⟩) hHeld ?_
  try simp only [Act.put, List.setIfInBounds_toArray, List.set_cons_zero, List.set_cons_succ, List.getElem_toArray, List.getElem_cons_zero, List.getElem_cons_succ]
  refine wpAnyH_ready (rs := [8]) (by kernel_rfl) (by simp) ?_
  refine AllReadyH.cons rfl (fun K hK => ?_) AllReadyH.nil
  refine Eq.mpr (if_pos (by rfl)) ?_
  refine wp_store_list 26 _ _ rfl E 67 mcs rfl rfl (hHeld.1.there (by rw [HMCL.out]; omega)) (by rw [HMCL.out]; exact HIH.out) HMCO.out ?_
  intro w8 hw8
  have HX := hid (show EnW w8 56 E (madeE (KY j) ph m at_ body o) (.slice ba n bc) v10 ∧ HB L T5 w [(35, L, ks)] E 56 99 w8 ∧ Below T w7 w8 from by
    rw [hw8]
    refine ⟨?_, hHeld.1.store mcs 67 (by rw [HMCL.out]; omega), below_setCells hTE _ _ (Below.refl _ _)⟩
    rw [← HMCS.out, HMADE.out]
    exact HE7.out.set_mac mc HMC32.out)
  have HHX := hid (show HasC w8 T v10 o by rw [hw8]; exact HH7.out.kept9 fun k hk => setCells_heap (HNE.out k hk) _ _ _)
  clear hw8 HE7 HH7
  refine hK.out _ _ (⟨HX.out.2.1, hHeld.2.trans HX.out.2.2⟩) (fun hHeld => ?_)
  clear hK K
  try simp only [Act.put, List.setIfInBounds_toArray, List.set_cons_zero, List.set_cons_succ, List.getElem_toArray, List.getElem_cons_zero, List.getElem_cons_succ]
  refine wpAnyH_done (by kernel_rfl) ?_ _
  -- REGION6
  obtain ⟨fs, hfs⟩ : ∃ es, (madeE (KY j) ph m at_ body o).cells (.slice ba n bc) v10 = es := ⟨_, rfl⟩
  have HFS := hid hfs
  have HFR := hid (show w8.rangeAt E 0 fs by rw [← hfs]; exact HX.out.1.whole)
  have HFL := hid (show fs.length = 99 by rw [← hfs]; exact En.len HX.out.1.ok)
  have HFO := hid (show ∀ v ∈ fs, v.oneCell' = true by rw [← hfs]; exact En.one rfl (one9 HHX.out))
  have HSX := hid (show HB L T w [(40, L + 2, c2s), (26, L + 1, ps), (35, L, ks)] (L + 3) 56 99 w8 from HS9.out.above hHeld.2)
  have HRX := hid (HR3.out _ (HBD9.out.trans hHeld.2))
  clear hfs
  go_wp2_with (first
    | (show wpList _ _ _ (⟨some 39, Op.load _ _, _, _, _, _⟩ :: _) _ _; go_must (refine wpList_load_mid rfl 56 _ rfl E 0 rfl fs _ HFR.out Tryd.underlying56 rfl (by rw [HFL.out]; exact HIE.out) ?_))
    | (show wpList _ _ _ (⟨none, Op.store _ (Operand.tmp 12) (Operand.tmp 39), _, _, _, _⟩ :: _) _ _; go_must (refine wpList_store_list rfl 56 _ _ rfl (L + 3) 0 fs rfl rfl (HSX.out.there (by rw [HFL.out]; omega)) (by rw [HFL.out]; exact HIE.out) HFO.out ?_); intro wz hwz; have HXZ := hid (show Blk wz 56 (L + 3) fs ∧ Below L w wz ∧ Has wz 5 w4.heap.size (.slice ba n bc) n (B body) ∧ HasC wz T v10 o by rw [hwz]; exact ⟨HSX.out.whole HFL.out, (HSX.out.store fs 0 (by rw [HFL.out]; omega)).bel, HRX.out.kept9 fun k hk => setCells_heap (by omega) _ _ _, HHX.out.kept9 fun k hk => setCells_heap (by have := HHX.out.ge9 hk; omega) _ _ _⟩); clear hwz))
  -- RET
  refine ret_cell 12 56 rfl (L + 3) rfl fs _ (HXZ.out.1.range fun j v hv => by rw [Nat.zero_add]; exact hv) Tryd.underlying56 rfl (by rw [HFL.out]; exact HIE.out) rfl ⟨ba, bc, v10, by rw [HFS.out], HXZ.out.2.2.1.reads, HXZ.out.2.2.2.mono (by omega), by first | exact HXZ.out.2.1 | (rw [hL]; exact HXZ.out.2.1)⟩
end Go.Proofs.YtinifnpajkldbaaDoor

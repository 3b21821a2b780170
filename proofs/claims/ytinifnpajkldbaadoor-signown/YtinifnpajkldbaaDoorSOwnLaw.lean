/- The law SignOwn: a delta is signed by its author's domain, and by no other one's key, unless the document's own sign is that. -/
import Derived.Test.YtinifnpajkldbaaDoorSOpensLaw
import Derived.Test.YtinifnpajkldbaaDoorPk39
import Derived.Test.YtinifnpajkldbaaDoorPk36
namespace Go.Proofs.YtinifnpajkldbaaDoor
open Go.RowKit
set_option linter.unusedSimpArgs false
set_option linter.unusedVariables false

set_option maxRecDepth 100000 in
theorem field_signed0 (w : World) (a : Option Addr) (n c : Nat) (h0 h1 h2 h3 h4 h5 h6 h7 h8 h9 h10 h11 h12 h13 h14 h15 h16 h17 h18 h19 h20 h21 h22 h23 h24 h25 h26 h27 h28 h29 h30 h31 : UInt8) : (Instr.field 40 (.agg (sgC (.slice a n c) [h0, h1, h2, h3, h4, h5, h6, h7, h8, h9, h10, h11, h12, h13, h14, h15, h16, h17, h18, h19, h20, h21, h22, h23, h24, h25, h26, h27, h28, h29, h30, h31]).toArray) 1).run Tryd.prog w = .ok (.agg (B [h0, h1, h2, h3, h4, h5, h6, h7, h8, h9, h10, h11, h12, h13, h14, h15, h16, h17, h18, h19, h20, h21, h22, h23, h24, h25, h26, h27, h28, h29, h30, h31]).toArray) w := by kernel_rfl
theorem field_signed (w : World) (a : Option Addr) (n c : Nat) (m : List UInt8) (hm : m.length = 32) : (Instr.field 40 (.agg (sgC (.slice a n c) m).toArray) 1).run Tryd.prog w = .ok (.agg (B m).toArray) w := by
  match m, hm with
  | [h0, h1, h2, h3, h4, h5, h6, h7, h8, h9, h10, h11, h12, h13, h14, h15, h16, h17, h18, h19, h20, h21, h22, h23, h24, h25, h26, h27, h28, h29, h30, h31], _ => exact field_signed0 w a n c h0 h1 h2 h3 h4 h5 h6 h7 h8 h9 h10 h11 h12 h13 h14 h15 h16 h17 h18 h19 h20 h21 h22 h23 h24 h25 h26 h27 h28 h29 h30 h31

set_option maxRecDepth 100000 in
set_option maxHeartbeats 16000000 in
theorem sown_any (key : List UInt8) (ko : Option Addr) (kl kc0 : Nat) (hkl : key.length = kl) (hklc : kl ≤ kc0) (hkc : kc0 ≤ maxLen) (d : Dl) (v : Value) (o : List Cp) (hd : d.h.length = 32) (ao : Option Addr) (len cap : Nat) (by_ : Int) (w : World) (ht : Tabs w)
    (hkey : Reads w (.slice ko kl kc0) (B key)) (hv : InOp w v o) (hns : NS w ao len) (hcap : len ≤ cap) (hlen : len ≤ 9223372036854775807) :
    Calls Tryd.prog 6 #[.slice ko kl kc0, .agg (d.cells v).toArray, .slice ao len cap, .int .i64 by_] w fun e w' => e = .returned (.bool true) ∧ Below w.heap.size w w' := by
  obtain ⟨L, hL⟩ : ∃ L, w.heap.size = L := ⟨_, rfl⟩
  have hL2 : 2 ≤ L := by rw [← hL]; exact ht.two
  have HTB := hid (show ∀ wx, Below L w wx → Tabs wx from fun wx h => ht.below h hL2)
  have HRK := hid hkey
  have HKL := hid hkl
  have HD := hid hd
  have HV := hid hv
  have HNS := hid hns
  obtain ⟨cs, hcs⟩ : ∃ cs, d.cells v = cs := ⟨_, rfl⟩
  have HCS := hid hcs
  have HCL := hid (show cs.length = 40 by rw [← hcs]; exact Dl.len hd)
  obtain ⟨KY, hKY⟩ : ∃ KY, keyS key = KY := ⟨_, rfl⟩
  have HKY := hid hKY
  have HI := hid (show (Tryd.prog.info? 30).map (·.size) = some 40 by kernel_rfl)
  have HIK := hid (show (Tryd.prog.info? 35).map (·.size) = some 3 by kernel_rfl)
  have HIS := hid (show (Tryd.prog.info? 40).map (·.size) = some 33 by kernel_rfl)
  obtain ⟨zs, hzs⟩ : ∃ zs, Dl.zero.cells (.slice none 0 0) = zs := ⟨_, rfl⟩
  have HZ := hid (show (Tryd.prog.info? 30).bind (fun i => i.zero.map fun z => z.cells.toList) = some zs by rw [← hzs]; kernel_rfl)
  have HZL := hid (show zs.length = 40 by rw [← hzs]; exact Dl.len Dl.zero_len)
  have HZK := hid (show (Tryd.prog.info? 35).bind (fun i => i.zero.map fun z => z.cells.toList) = some [.slice none 0 0, .slice none 0 0, .slice none 0 0] by kernel_rfl)
  obtain ⟨z9, hz9⟩ : ∃ zs, sgC (.slice none 0 0) (List.replicate 32 0) = zs := ⟨_, rfl⟩
  have HZS := hid (show (Tryd.prog.info? 40).bind (fun i => i.zero.map fun z => z.cells.toList) = some z9 by rw [← hz9]; kernel_rfl)
  have HZSL := hid (show z9.length = 33 by rw [← hz9]; exact sgC_len (by simp))
  have HFC := hid (show ∀ wx, Below L w wx → Calls Tryd.prog 9 #[.agg cs.toArray] wx (fun e w' => e = .returned (.bool (few4S o)) ∧ Below wx.heap.size wx w') from fun wx h => by
    rw [← hcs]
    exact few8_any d hd v o wx (hv.later (by rw [hL]; exact h)))
  rw [hcs]
  clear ht hkey hkl hcs hKY hzs hd hv hns hz9
  go_enter Tryd.func6, Tryd.ntmps6
  go_wp2_with (show wpList _ _ _ (⟨some 5, Op.box _ _, _, _, _, _⟩ :: _) _ _; go_must (refine wpList_box_blk rfl 30 _ rfl cs rfl L hL ?_); intro w1 hB1 hb1 hs1; have HB1 := hid hB1; have Hb1 := hid hb1; clear hB1 hb1)
  -- CALL0
  refine (known9_any _ (HTB.out _ Hb1.out)).mono ?_
  rintro _ w2 ⟨rfl, hb2⟩
  have HB2 := hid (HB1.out.later hb2)
  have Hb2 := hid (show Below L w w2 from Hb1.out.trans (hb2.mono (by omega)))
  clear hb2 HB1 Hb1 hs1
  go_wp2_with (show wpList _ _ _ (⟨some 18, Op.load _ _, _, _, _, _⟩ :: _) _ _; go_must (refine wpList_load_mid rfl 30 _ rfl L 0 rfl cs _ (HB2.out.range fun j v hv => by rw [Nat.zero_add]; exact hv) Tryd.underlying30 rfl (by rw [HCL.out]; exact HI.out) ?_))
  refine (HFC.out _ Hb2.out).mono ?_
  rintro _ w3 ⟨rfl, hb3⟩
  have HB3 := hid (HB2.out.later hb3)
  have hL2s : L < w2.heap.size := HB2.out.lt
  have Hb3 := hid (show Below L w w3 from Hb2.out.trans (hb3.mono (by omega)))
  clear hb3 HB2 Hb2 hL2s HFC
  by_cases hfw : few4S o = true
  case neg =>
    rw [show few4S o = false by simpa using hfw]
    go_wp2_with fail
    go_ret
    exact ⟨rfl, by first | exact Hb3.out | (rw [hL]; exact Hb3.out)⟩
  rw [hfw]
  have HF := hid ((few4_iff o).1 hfw)
  clear hfw
  go_wp2_with fail
  -- CALL1
  refine (keys9_any key ko kl kc0 HKL.out hklc hkc _ (HRK.out.later (by rw [hL]; exact Hb3.out))).mono ?_
  rintro _ w4 ⟨ks, rfl, hKW, hK1, hKB, hb4⟩
  rw [HKY.out] at hKW
  have HKW4 := hid hKW
  have HK1 := hid hK1
  have HKL3 := hid hKW.len
  have hLs : L < w3.heap.size := HB3.out.lt
  have HB4 := hid (HB3.out.later hb4)
  have Hb4 := hid (show Below L w w4 from Hb3.out.trans (hb4.mono (by omega)))
  obtain ⟨G, hG⟩ : ∃ G, w4.heap.size = G := ⟨_, rfl⟩
  have HG := hid hG
  have hGL : L < G := by rw [← hG]; exact HB4.out.lt
  clear hKW hK1 hKB hb4 HB3 Hb3 hLs
  go_upto_region 6 with (first
    | (show wpList _ _ _ (⟨some 9, Op.alloc _, _, _, _, _⟩ :: _) _ _; go_must (refine wpList_alloc_blk rfl 35 rfl _ HZK.out G hG ?_); intro w5 hB5 hb5 hs5; have HB5 := hid hB5; have Hb5 := hid hb5; clear hB5 hb5)
    | (show wpList _ _ _ (⟨none, Op.store _ (Operand.tmp 9) (Operand.tmp 22), _, _, _, _⟩ :: _) _ _; go_must (refine wpList_store_list rfl 35 _ _ rfl G 0 ks rfl rfl (HB5.out.there (by rw [HKL3.out]; simp)) (by rw [HKL3.out]; exact HIK.out) HK1.out ?_); intro w6 hw6; have HX6 := hid (show Blk w6 35 G ks ∧ Below G w4 w6 by rw [hw6]; exact ⟨by have h3 := Blk.setCells ks [] [.slice none 0 0, .slice none 0 0, .slice none 0 0] [] (o := 0) (by simpa using HB5.out) (by rw [HKL3.out]; rfl) rfl; simpa using h3, below_setCells (by omega) _ _ Hb5.out⟩); clear hw6 HB5 Hb5))
  -- PART2
  have HK6 := hid HX6.out.1
  have HB6 := hid (show Blk w6 30 L cs from HB4.out.later (by rw [HG.out]; exact HX6.out.2))
  have HKW6 := hid (show KW w6 ks KY from HKW4.out.later (by rw [HG.out]; exact HX6.out.2))
  have Hb6 := hid (show Below L w w6 from Hb4.out.trans (HX6.out.2.mono (by omega)))
  have hG6 : G < w6.heap.size := HK6.out.lt
  clear HX6 HB4 HKW4 Hb4 hs5 hG HG
  go_wp2_with (show wpList _ _ _ (⟨some 23, Op.load _ _, _, _, _, _⟩ :: _) _ _; go_must (refine wpList_load_mid rfl 30 _ rfl L 0 rfl cs _ (HB6.out.range fun j v hv => by rw [Nat.zero_add]; exact hv) Tryd.underlying30 rfl (by rw [HCL.out]; exact HI.out) ?_))
  -- CALL2
  refine (good8_at d HD.out v cs HCS.out o _ (HV.out.later (by rw [hL]; exact Hb6.out)).1 9 (by omega) ao len cap (HNS.out.later (by rw [hL]; exact Hb6.out)) hcap hlen).mono ?_
  rintro _ w7 ⟨v7, o7, gs, hgs, rfl, hH7, hb7, hm1, hm2⟩
  have HRD := hid (good_read HD.out hm1 hm2)
  have HCHK := hid (good_chk (d := d) hm1 hm2)
  have HP := hid (good_plain hm1 hm2)
  have HGD := hid (show (goodD d).h.length = 32 from HD.out)
  obtain ⟨j, hj⟩ : ∃ j : Nat, (goodD d).aD = (j : Int) := ⟨(d.aD % 3).toNat, by show d.aD % 3 = _; omega⟩
  have hj3 : j < 3 := by have : (goodD d).aD = d.aD % 3 := rfl; omega
  have hj3' : (j : Int) < 3 := by omega
  have HJ := hid hj
  obtain ⟨gd, hgd⟩ : ∃ gd, goodD d = gd := ⟨_, rfl⟩
  rw [hgd] at HRD HCHK HGD HJ hgs
  have HGS := hid hgs
  have HGL := hid (show gs.length = 40 by rw [← hgs]; exact Dl.len HGD.out)
  have HGO := hid (show ∀ x ∈ gs, x.oneCell' = true by rw [← hgs]; exact Dl.one (one9 hH7))
  have HK7 := hid (HK6.out.later hb7)
  have HKW7 := hid (HKW6.out.later hb7)
  have HH7 := hid hH7
  have Hb7 := hid (show Below L w w7 from Hb6.out.trans (hb7.mono (by omega)))
  have hz7 : w6.heap.size ≤ w7.heap.size := hb7.size
  obtain ⟨X, hX⟩ : ∃ X, w7.heap.size = X := ⟨_, rfl⟩
  have HX := hid hX
  have hXG : G < X := by omega
  clear hgs hH7 hb7 hm1 hm2 hgd hj HK6 HB6 HKW6 Hb6 hG6 hz7
  go_upto_region 7 with (first
    | (show wpList _ _ _ (⟨some 10, Op.alloc _, _, _, _, _⟩ :: _) _ _; go_must (refine wpList_alloc_blk rfl 30 rfl _ HZ.out X hX ?_); intro w8 hB8 hb8 hs8; have HB8 := hid hB8; have Hb8 := hid hb8; clear hB8 hb8)
    | (show wpList _ _ _ (⟨none, Op.store _ (Operand.tmp 10) (Operand.tmp 25), _, _, _, _⟩ :: _) _ _; go_must (refine wpList_store_list rfl 30 _ _ rfl X 0 gs rfl rfl (HB8.out.there (by rw [HGL.out, HZL.out]; omega)) (by rw [HGL.out]; exact HI.out) HGO.out ?_); intro w8a hw8; have HX8 := hid (show Blk w8a 30 X gs ∧ Below X w7 w8a by rw [hw8]; exact ⟨by have h3 := Blk.setCells gs [] zs [] (o := 0) (by simpa using HB8.out) (by rw [HZL.out, HGL.out]) rfl; simpa using h3, below_setCells (by omega) _ _ Hb8.out⟩); clear hw8 HB8 Hb8))
  -- PART3
  have HX8a := hid HX8.out.1
  have HK8 := hid (show Blk w8a 35 G ks from HK7.out.later (by rw [HX.out]; exact HX8.out.2))
  have HKW8 := hid (show KW w8a ks KY from HKW7.out.later (by rw [HX.out]; exact HX8.out.2))
  have HH8 := hid (show RC w8a v7 o7 from (HH7.out.later (by rw [HX.out]; exact HX8.out.2)).reads)
  have Hb8 := hid (show Below L w w8a from Hb7.out.trans (HX8.out.2.mono (by omega)))
  have hX8s : X < w8a.heap.size := HX8a.out.lt
  have HXD := hid (show ∀ wx, Blk wx 30 X gs → wx.cell? ⟨X, 0, none⟩ = some (.int .i64 (j : Int)) from fun wx h => by
    rw [← HGS.out] at h
    rw [← HJ.out]
    exact h.cell (j := 0) rfl)
  have HRB := hid (show ∀ wx, RC wx v7 o7 → Calls Tryd.prog 29 #[.agg gs.toArray] wx (fun x w' => ∃ g cap, x = .returned (.slice (some ⟨g, 0, none⟩) (84 + partsN o7) cap) ∧ wx.heap.size ≤ g ∧ Owns w' 5 g cap (84 + partsN o7) (B (dB gd o7)) ∧ Below wx.heap.size wx w') from fun wx h => by
    rw [← HGS.out]
    exact rBytes_any gd HGD.out v7 o7 wx h HP.out.few)
  clear HX8 HK7 HKW7 HH7 Hb7 hs8 hX
  go_wp2_with (show wpList _ _ _ (⟨some 26, Op.load _ _, _, _, _, _⟩ :: _) _ _; go_must (refine wpList_load_mid rfl 30 _ rfl X 0 rfl gs _ (HX8a.out.range fun j v hv => by rw [Nat.zero_add]; exact hv) Tryd.underlying30 rfl (by rw [HGL.out]; exact HI.out) ?_))
  -- CALL3
  refine (HRB.out _ HH8.out).mono ?_
  rintro _ w9 ⟨gb, cb, rfl, hgb, hO9, hb9⟩
  obtain ⟨bt, hbt⟩ : ∃ bt, dB gd o7 = bt := ⟨_, rfl⟩
  obtain ⟨n, hn⟩ : ∃ n, 84 + partsN o7 = n := ⟨_, rfl⟩
  have HN := hid (show bt.length = n by rw [← hbt, ← hn]; exact dB_len _ _ HGD.out)
  have hn2 : n ≤ 8200 := by rw [← hn]; have := HP.out.few.le; omega
  rw [hbt] at hO9 HRD
  rw [hn] at hO9 ⊢
  have HBT := hid hbt
  have hcb : cb ≤ maxLen := hO9.2.2.1
  have HO9 := hid hO9.reads
  have HXg := hid (HX8a.out.later hb9)
  have HK9 := hid (HK8.out.later hb9)
  have HKW9 := hid (HKW8.out.later hb9)
  have HH9 := hid (HH8.out.later hb9)
  have Hb9 := hid (show Below L w w9 from Hb8.out.trans (hb9.mono (by omega)))
  have hz9s : w8a.heap.size ≤ w9.heap.size := hb9.size
  obtain ⟨qn, hqn⟩ : ∃ qn : Nat, by_ % 2 = (qn : Int) := ⟨(by_ % 2).toNat, by omega⟩
  have HQ := hid hqn
  have hq2 : (qn : Int) < 2 := by omega
  obtain ⟨oth, hot⟩ : ∃ oth : Nat, ((j : Int) + 1 + (qn : Int)).tmod 3 = (oth : Int) := ⟨(j + 1 + qn) % 3, by rw [Int.tmod_eq_emod_of_nonneg (by omega)]; omega⟩
  have HOT := hid hot
  have hoth : oth < 3 := by have := Int.tmod_lt_of_pos ((j : Int) + 1 + (qn : Int)) (show (0 : Int) < 3 by omega); omega
  have hoth' : (oth : Int) < 3 := by omega
  have HW1 := hid (show IntKind.i64.wrap ((j : Int) + 1) = (j : Int) + 1 by rw [IntKind.wrap_i64]; omega)
  have HW2 := hid (show IntKind.i64.wrap ((j : Int) + 1 + (qn : Int)) = (j : Int) + 1 + (qn : Int) by rw [IntKind.wrap_i64]; omega)
  clear hbt hn hgb hO9 hb9 HX8a HK8 HKW8 HH8 Hb8 hX8s hqn hot HRB
  go_upto_region 8 with fail
  -- REGION8
  go_cut [12] (fun s w' => s = .int .i64 (oth : Int) ∧ w' = w9.drew)
  case first =>
    refine wp_region_held_drew (S := fun w' => w' = w9.drew) (by kernel_rfl) (rfl) (fun hHeld => ?_)
    refine wpAnyH_take (i := 0) (v := .pointer (some ⟨X, 0, none⟩)) rfl (by kernel_rfl) (by kernel_rfl) (by kernel_rfl) (fun _ _ _ h => h) (Or.inl ⟨by rfl, by intro w hSw; go_simp⟩) hHeld ?_
    try simp only [Act.put, List.setIfInBounds_toArray, List.set_cons_zero, List.set_cons_succ, List.getElem_toArray, List.getElem_cons_zero, List.getElem_cons_succ]
    refine wpAnyH_take (i := 1) (v := .pointer (some ⟨X, 0, none⟩)) rfl (by kernel_rfl) (by kernel_rfl) (by kernel_rfl) (fun _ _ _ h => h) (Or.inl ⟨by rfl, by intro w hSw; go_simp⟩) hHeld ?_
    try simp only [Act.put, List.setIfInBounds_toArray, List.set_cons_zero, List.set_cons_succ, List.getElem_toArray, List.getElem_cons_zero, List.getElem_cons_succ]
    refine wpAnyH_take (i := 2) (v := .int .i64 (j : Int)) rfl (by kernel_rfl) (by kernel_rfl) (by kernel_rfl) (fun _ _ _ h => h) (Or.inl ⟨by rfl, by intro w hSw; rw [hSw]; have q := HXD.out _ HXg.out; go_simp⟩) hHeld ?_
    try simp only [Act.put, List.setIfInBounds_toArray, List.set_cons_zero, List.set_cons_succ, List.getElem_toArray, List.getElem_cons_zero, List.getElem_cons_succ]
    refine wpAnyH_take (i := 3) (v := .int .i64 ((j : Int) + 1)) rfl (by kernel_rfl) (by kernel_rfl) (by kernel_rfl) (fun _ _ _ h => h) (Or.inl ⟨by rfl, by intro w hSw; have q := HW1.out; go_simp⟩) hHeld ?_
    try simp only [Act.put, List.setIfInBounds_toArray, List.set_cons_zero, List.set_cons_succ, List.getElem_toArray, List.getElem_cons_zero, List.getElem_cons_succ]
    refine wpAnyH_take (i := 4) (v := .int .i64 by_) rfl (by kernel_rfl) (by kernel_rfl) (by kernel_rfl) (fun _ _ _ h => h) (Or.inl ⟨by rfl, by intro w hSw; go_simp⟩) hHeld ?_
    try simp only [Act.put, List.setIfInBounds_toArray, List.set_cons_zero, List.set_cons_succ, List.getElem_toArray, List.getElem_cons_zero, List.getElem_cons_succ]
    refine wpAnyH_ready (rs := [5]) (by kernel_rfl) (by simp) ?_
    refine AllReadyH.cons rfl (fun K hK => ?_) AllReadyH.nil
    go_simp
    refine (within9_any by_ 2 (by omega) (by omega) _).mono ?_
    rintro _ wz ⟨rfl, hwz⟩
    subst hwz
    rw [HQ.out]
    refine hK.out _ _ (hHeld) (fun hHeld => ?_)
    clear hK K
    try simp only [Act.put, List.setIfInBounds_toArray, List.set_cons_zero, List.set_cons_succ, List.getElem_toArray, List.getElem_cons_zero, List.getElem_cons_succ]
    refine wpAnyH_take (i := 6) (v := .int .i64 ((j : Int) + 1 + (qn : Int))) rfl (by kernel_rfl) (by kernel_rfl) (by kernel_rfl) (fun _ _ _ h => h) (Or.inl ⟨by rfl, by intro w hSw; have q := HW2.out; go_simp⟩) hHeld ?_
    try simp only [Act.put, List.setIfInBounds_toArray, List.set_cons_zero, List.set_cons_succ, List.getElem_toArray, List.getElem_cons_zero, List.getElem_cons_succ]
    refine wpAnyH_take (i := 7) (v := .int .i64 (oth : Int)) rfl (by kernel_rfl) (by kernel_rfl) (by kernel_rfl) (fun _ _ _ h => h) (Or.inl ⟨by rfl, by intro w hSw; have q := HOT.out; go_simp; first | done | (rw [q])⟩) hHeld ?_
    try simp only [Act.put, List.setIfInBounds_toArray, List.set_cons_zero, List.set_cons_succ, List.getElem_toArray, List.getElem_cons_zero, List.getElem_cons_succ]
    refine wpAnyH_ready (rs := [8]) (by kernel_rfl) (by simp) ?_
    refine AllReadyH.cons rfl (fun K hK => ?_) AllReadyH.nil
    go_simp
    refine hK.out _ _ (hHeld) (fun hHeld => ?_)
    clear hK K
    try simp only [Act.put, List.setIfInBounds_toArray, List.set_cons_zero, List.set_cons_succ, List.getElem_toArray, List.getElem_cons_zero, List.getElem_cons_succ]
    refine wpAnyH_done (by kernel_rfl) ?_ _
    go_wp2_with fail
    go_meet
    exact ⟨rfl, rfl⟩
  case rest =>
  -- PART4
  obtain ⟨rfl, hwc⟩ := hcut
  rw [hwc]
  clear hwc
  have HXd := hid (show Blk w9.drew 30 X gs from HXg.out.drewN 1)
  have HKd := hid (show Blk w9.drew 35 G ks from HK9.out.drewN 1)
  have HKWd := hid (show KW w9.drew ks KY from HKW9.out.later ((Below.refl _ _).drew))
  have HHd := hid (show RC w9.drew v7 o7 from HH9.out.later ((Below.refl _ _).drew))
  have HOd := hid (show Reads w9.drew (.slice (some ⟨gb, 0, none⟩) n cb) (B bt) from HO9.out.later ((Below.refl _ _).drew))
  have Hbd := hid (show Below L w w9.drew from Hb9.out.drew)
  clear HXg HK9 HKW9 HH9 HO9 Hb9 hz9s
  generalize w9.drew = wd at *
  obtain ⟨ka, kn, kc, k1, k2, k3, k4, k5⟩ := HKWd.out.get oth hoth
  have HKJ := hid k1
  have HKN := hid k2
  have HK2 := hid k3
  have HKR := hid k5
  obtain ⟨la, ln, lc, l1, l2, l3, l4, l5⟩ := HKWd.out.get j hj3
  have HLJ := hid l1
  have HLN := hid l2
  have HL2 := hid l3
  have HLR := hid l5
  obtain ⟨mo, hmo⟩ : ∃ mo, macS (KY oth) bt = mo := ⟨_, rfl⟩
  have HMO := hid hmo
  have HMO32 := hid (show mo.length = 32 by rw [← hmo]; exact macS_len _ _)
  obtain ⟨mj, hmj⟩ : ∃ mj, macS (KY j) bt = mj := ⟨_, rfl⟩
  have HMJ := hid hmj
  have HMJ32 := hid (show mj.length = 32 by rw [← hmj]; exact macS_len _ _)
  obtain ⟨ss, hss⟩ : ∃ ss, sgC (.slice (some ⟨gb, 0, none⟩) n cb) mo = ss := ⟨_, rfl⟩
  have HSS := hid hss
  have HSL := hid (show ss.length = 33 by rw [← hss]; exact sgC_len HMO32.out)
  have HSO := hid (show ∀ v ∈ ss, v.oneCell' = true by rw [← hss]; exact sgC_one rfl)
  obtain ⟨mos, hmos⟩ : ∃ ms, B mo = ms := ⟨_, rfl⟩
  have HMOS := hid hmos
  have HBD := hid (show ∀ wx, (Instr.build 40 #[(0, .slice (some ⟨gb, 0, none⟩) n cb), (1, .agg mos.toArray)]).run Tryd.prog wx = .ok (.agg ss.toArray) wx from fun wx => by rw [← hmos, ← hss]; exact run_signed wx _ n cb mo HMO32.out)
  have HOP := hid (show openS KY mo bt = if mo ≠ mj then (Dl.zero, [], 14) else (gd, o7, 0) by rw [openS, HRD.out, if_neg (fun h => h rfl), HJ.out, Int.toNat_natCast, hmj])
  have cK := HKd.out.cell HKJ.out
  clear k1 k2 k3 k4 k5 l1 l2 l3 l4 l5 hmo hmj hss hmos
  go_wp2_with fail
  -- CALL4
  refine (refMac_any (KY oth) ka kn kc HKN.out bt _ n cb HN.out _ HKR.out HOd.out (by have := HK2.out; omega) (by omega)).mono ?_
  rintro _ we ⟨rfl, hbe⟩
  rw [HMO.out, HMOS.out]
  have hXs : X < wd.heap.size := HXd.out.lt
  have HXe := hid (HXd.out.later hbe)
  have HKe := hid (HKd.out.later hbe)
  have HKWe := hid (HKWd.out.later hbe)
  have HHe := hid (HHd.out.later hbe)
  have HOe := hid (HOd.out.later hbe)
  have HLRe := hid (HLR.out.later hbe)
  have Hbe := hid (show Below L w we from Hbd.out.trans (hbe.mono (by omega)))
  have hze : wd.heap.size ≤ we.heap.size := hbe.size
  obtain ⟨P1, hP1⟩ : ∃ X, we.heap.size = X := ⟨_, rfl⟩
  have HP1 := hid hP1
  have hXP : X < P1 := by omega
  clear hbe cK HXd HKd HKWd HHd HOd Hbd hXs hze HLR HKR
  go_upto_region 10 with (first
    | (show wpList _ _ _ (⟨some 42, Op.build _ _, _, _, _, _⟩ :: _) _ _; go_must (refine wpList_build9 rfl 40 _ rfl #[(0, .slice (some ⟨gb, 0, none⟩) n cb), (1, .agg mos.toArray)] (by first | rfl | simp [Act.eval] | go_simp) ss.toArray HBD.out ?_))
    | (show wpList _ _ _ (⟨some 13, Op.alloc _, _, _, _, _⟩ :: _) _ _; go_must (refine wpList_alloc_blk rfl 40 rfl _ HZS.out P1 hP1 ?_); intro wf hBf hbf hsf; have HBf := hid hBf; have Hbf := hid hbf; clear hBf hbf)
    | (show wpList _ _ _ (⟨none, Op.store _ (Operand.tmp 13) (Operand.tmp 42), _, _, _, _⟩ :: _) _ _; go_must (refine wpList_store_list rfl 40 _ _ rfl P1 0 ss rfl rfl (HBf.out.there (by rw [HSL.out, HZSL.out]; omega)) (by rw [HSL.out]; exact HIS.out) HSO.out ?_); intro wg hwg; have HXg := hid (show Blk wg 40 P1 ss ∧ Below P1 we wg by rw [hwg]; exact ⟨by have h3 := Blk.setCells ss [] z9 [] (o := 0) (by simpa using HBf.out) (by rw [HZSL.out, HSL.out]) rfl; simpa using h3, below_setCells (by omega) _ _ Hbf.out⟩); clear hwg HBf Hbf))
  -- PART5
  have HSg := hid HXg.out.1
  have HXg2 := hid (show Blk wg 30 X gs from HXe.out.later (by rw [HP1.out]; exact HXg.out.2))
  have HKg := hid (show Blk wg 35 G ks from HKe.out.later (by rw [HP1.out]; exact HXg.out.2))
  have HKWg := hid (show KW wg ks KY from HKWe.out.later (by rw [HP1.out]; exact HXg.out.2))
  have HHg := hid (show RC wg v7 o7 from HHe.out.later (by rw [HP1.out]; exact HXg.out.2))
  have HOg := hid (show Reads wg (.slice (some ⟨gb, 0, none⟩) n cb) (B bt) from HOe.out.later (by rw [HP1.out]; exact HXg.out.2))
  have HLRg := hid (show Reads wg (.slice la ln lc) (B (KY j)) from HLRe.out.later (by rw [HP1.out]; exact HXg.out.2))
  have Hbg := hid (show Below L w wg from Hbe.out.trans (HXg.out.2.mono (by omega)))
  have hPg : P1 < wg.heap.size := HSg.out.lt
  clear HXg HXe HKe HKWe HHe HOe HLRe Hbe hsf hP1
  obtain ⟨y, oy, f, hO⟩ : ∃ y oy f, openS KY mo bt = (y, oy, f) := by
    rcases openS KY mo bt with ⟨a, b, c⟩
    exact ⟨a, b, c, rfl⟩
  have HO := hid hO
  have HY32 := hid (show y.h.length = 32 by have := (openS_few KY mo bt).1; rwa [hO] at this)
  obtain ⟨r, hr⟩ : ∃ r, (mo == mj) = r := ⟨_, rfl⟩
  have HRR := hid hr
  have HFE := hid (show f = if r then 0 else 14 by
    have h1 := HOP.out
    rw [hO] at h1
    by_cases h : mo = mj
    · have hr1 : r = true := by rw [← hr]; simpa using h
      rw [if_neg (fun k => k h)] at h1
      rw [hr1]
      exact congrArg (fun x => x.2.2) h1
    · have hr1 : r = false := by rw [← hr]; simpa using h
      rw [if_pos h] at h1
      rw [hr1]
      exact congrArg (fun x => x.2.2) h1)
  clear hO hr
  go_wp2_with (first
    | (show wpList _ _ _ (⟨some 44, Op.load _ _, _, _, _, _⟩ :: _) _ _; go_must (refine wpList_load_mid rfl 35 _ rfl G 0 rfl ks _ (HKg.out.range fun j v hv => by rw [Nat.zero_add]; exact hv) Tryd.underlying35 rfl (by rw [HKL3.out]; exact HIK.out) ?_))
    | (show wpList _ _ _ (⟨some 45, Op.load _ _, _, _, _, _⟩ :: _) _ _; go_must (refine wpList_load_mid rfl 40 _ rfl P1 0 rfl ss _ (HSg.out.range fun j v hv => by rw [Nat.zero_add]; exact hv) Tryd.underlying40 rfl (by rw [HSL.out]; exact HIS.out) ?_)))
  -- CALL5
  rw [← HSS.out]
  refine (sopen_at ks KY mo HMO32.out _ n cb bt HN.out (by omega) hcb y oy f HO.out _ (HTB.out _ Hbg.out) HKWg.out HOg.out).mono ?_
  rintro _ wh ⟨vh, ys, hys, rfl, hHh, hbh⟩
  rw [HSS.out]
  have HSh := hid (HSg.out.later hbh)
  have HXh := hid (HXg2.out.later hbh)
  have HKh := hid (HKg.out.later hbh)
  have HKWh := hid (HKWg.out.later hbh)
  have HHh := hid (HHg.out.later hbh)
  have HOh := hid (HOg.out.later hbh)
  have HLRh := hid (HLRg.out.later hbh)
  have Hbh := hid (show Below L w wh from Hbg.out.trans (hbh.mono (by omega)))
  have hzh : wg.heap.size ≤ wh.heap.size := hbh.size
  have HYL := hid (show ys.length = 40 by rw [← hys]; exact Dl.len HY32.out)
  have HYO := hid (show ∀ x ∈ ys, x.oneCell' = true by rw [← hys]; exact Dl.one (one9 hHh))
  obtain ⟨P2, hP2⟩ : ∃ X, wh.heap.size = X := ⟨_, rfl⟩
  have HP2 := hid hP2
  have hPP : P1 < P2 := by omega
  clear hys hHh hbh HSg HXg2 HKg HKWg HHg HOg HLRg Hbg hPg hzh
  go_upto_region 11 with (first
    | (show wpList _ _ _ (⟨some 14, Op.alloc _, _, _, _, _⟩ :: _) _ _; go_must (refine wpList_alloc_blk rfl 30 rfl _ HZ.out P2 hP2 ?_); intro wi hBi hbi hsi; have HBi := hid hBi; have Hbi := hid hbi; clear hBi hbi)
    | (show wpList _ _ _ (⟨none, Op.store _ (Operand.tmp 14) (Operand.tmp 47), _, _, _, _⟩ :: _) _ _; go_must (refine wpList_store_list rfl 30 _ _ rfl P2 0 ys rfl rfl (HBi.out.there (by rw [HYL.out, HZL.out]; omega)) (by rw [HYL.out]; exact HI.out) HYO.out ?_); intro wk hwk; have HXk := hid (show Below P2 wh wk by rw [hwk]; exact below_setCells (by omega) _ _ Hbi.out); clear hwk HBi Hbi))
  -- PART6
  obtain ⟨T, hT⟩ : ∃ T, wk.drew.heap.size = T := ⟨_, rfl⟩
  have HTS := hid hT
  have hBW : Below wh.heap.size wh wk.drew := by rw [HP2.out]; exact HXk.out.drew
  have hTP : P2 ≤ T := by rw [← hT, ← HP2.out]; exact hBW.size
  have HS := hid (show HK L T w [(40, P1, ss), (30, X, gs), (35, G, ks)] wk.drew ∧ Below T wk.drew wk.drew from
    ⟨HK.cons (HK.cons (HK.cons (HK.nil (by omega) (Hbh.out.trans (hBW.mono (by have := HP2.out; omega))) (by omega)) (HKh.out.later hBW) (by omega)) (HXh.out.later hBW) (by omega)) (HSh.out.later hBW) (by omega), Below.refl _ _⟩)
  have HKWk := hid (HKWh.out.later hBW)
  have HHk := hid (HHh.out.later hBW)
  have HOk := hid (HOh.out.later hBW)
  have HLRk := hid (HLRh.out.later hBW)
  have HSD := hid (show ∀ wx, Tabs wx → KW wx ks KY → RC wx v7 o7 → Calls Tryd.prog 13 #[.agg ks.toArray, .agg gs.toArray] wx (fun x w' => ∃ a n c, x = .returned (.agg (sgC (.slice a n c) mj).toArray) ∧ Below wx.heap.size wx w') from fun wx h1 h2 h3 => by
    rw [← HGS.out]
    refine (sDelta_any ks KY gd HGD.out j HJ.out hj3 v7 o7 wx h1 h2 h3 HP.out.few HCHK.out).mono ?_
    rintro _ w' ⟨a, n, c, rfl, _, _, _, hb⟩
    rw [HBT.out, HMJ.out]
    exact ⟨a, n, c, rfl, hb⟩)
  obtain ⟨mjs, hmjs⟩ : ∃ ms, B mj = ms := ⟨_, rfl⟩
  have HMJS := hid hmjs
  have HEQ1 := hid (show ∀ wx, (Op.equalIn 10000 26 (.agg mjs.toArray) (.agg mjs.toArray)).run Tryd.prog wx = .ok true wx from fun wx => by rw [← hmjs, equal_hash9 wx _ _ HMJ32.out HMJ32.out]; simp)
  have HIH := hid (show (Tryd.prog.info? 26).map (·.size) = some 32 by kernel_rfl)
  have HMOL := hid (show mos.length = 32 by rw [← HMOS.out, B_length, HMO32.out])
  have HFLD := hid (show ∀ wx a n c, (Instr.field 40 (.agg (sgC (.slice a n c) mj).toArray) 1).run Tryd.prog wx = .ok (.agg mjs.toArray) wx from fun wx a n c => by rw [← hmjs]; exact field_signed wx a n c mj HMJ32.out)
  clear hT hBW HXk HKWh HHh HOh HLRh HKh HXh HSh Hbh hsi hP2 hmjs
  cases r
  case false =>
    have HF14 := hid (show f = 14 from HFE.out)
    rw [HF14.out]
    refine wp_region_held_drew (S := fun w' => HK L T w [(40, P1, ss), (30, X, gs), (35, G, ks)] w' ∧ Below T wk.drew w') (by kernel_rfl) (HS.out) (fun hHeld => ?_)
    refine wpAnyH_take (i := 0) (v := _) rfl (by kernel_rfl) (by kernel_rfl) (by kernel_rfl) (fun _ _ _ h => h) (yieldsIf_load_mid (by rfl) _ _ rfl _ _ rfl ks _ (fun w hSw => (hSw.1.tl.tl.fst.range fun j v hv => by rw [Nat.zero_add]; exact hv)) Tryd.underlying35 rfl (by rw [HKL3.out]; exact HIK.out)) hHeld ?_
    try simp only [Act.put, List.setIfInBounds_toArray, List.set_cons_zero, List.set_cons_succ, List.getElem_toArray, List.getElem_cons_zero, List.getElem_cons_succ]
    refine wpAnyH_take (i := 1) (v := _) rfl (by kernel_rfl) (by kernel_rfl) (by kernel_rfl) (fun _ _ _ h => h) (yieldsIf_load_mid (by rfl) _ _ rfl _ _ rfl gs _ (fun w hSw => (hSw.1.tl.fst.range fun j v hv => by rw [Nat.zero_add]; exact hv)) Tryd.underlying30 rfl (by rw [HGL.out]; exact HI.out)) hHeld ?_
    try simp only [Act.put, List.setIfInBounds_toArray, List.set_cons_zero, List.set_cons_succ, List.getElem_toArray, List.getElem_cons_zero, List.getElem_cons_succ]
    refine wpAnyH_take (i := 4) (v := .pointer (some ⟨X, 0, none⟩)) rfl (by kernel_rfl) (by kernel_rfl) (by kernel_rfl) (fun _ _ _ h => h) (Or.inl ⟨by rfl, by intro w hSw; go_simp⟩) hHeld ?_
    try simp only [Act.put, List.setIfInBounds_toArray, List.set_cons_zero, List.set_cons_succ, List.getElem_toArray, List.getElem_cons_zero, List.getElem_cons_succ]
    refine wpAnyH_take (i := 5) (v := .pointer (some ⟨X, 0, none⟩)) rfl (by kernel_rfl) (by kernel_rfl) (by kernel_rfl) (fun _ _ _ h => h) (Or.inl ⟨by rfl, by intro w hSw; go_simp⟩) hHeld ?_
    try simp only [Act.put, List.setIfInBounds_toArray, List.set_cons_zero, List.set_cons_succ, List.getElem_toArray, List.getElem_cons_zero, List.getElem_cons_succ]
    refine wpAnyH_take (i := 6) (v := .int .i64 (j : Int)) rfl (by kernel_rfl) (by kernel_rfl) (by kernel_rfl) (fun _ _ _ h => h) (Or.inl ⟨by rfl, by intro w hSw; have q := HXD.out _ hSw.1.tl.fst; go_simp⟩) hHeld ?_
    try simp only [Act.put, List.setIfInBounds_toArray, List.set_cons_zero, List.set_cons_succ, List.getElem_toArray, List.getElem_cons_zero, List.getElem_cons_succ]
    refine wpAnyH_take (i := 7) (v := .pointer (some ⟨G, j, none⟩)) rfl (by kernel_rfl) (by kernel_rfl) (by kernel_rfl) (fun _ _ _ h => h) (Or.inl ⟨by rfl, by intro w hSw; go_simp⟩) hHeld ?_
    try simp only [Act.put, List.setIfInBounds_toArray, List.set_cons_zero, List.set_cons_succ, List.getElem_toArray, List.getElem_cons_zero, List.getElem_cons_succ]
    refine wpAnyH_take (i := 8) (v := .slice la ln lc) rfl (by kernel_rfl) (by kernel_rfl) (by kernel_rfl) (fun _ _ _ h => h) (Or.inl ⟨by rfl, by intro w hSw; have q := hSw.1.tl.tl.fst.cell HLJ.out; go_simp⟩) hHeld ?_
    try simp only [Act.put, List.setIfInBounds_toArray, List.set_cons_zero, List.set_cons_succ, List.getElem_toArray, List.getElem_cons_zero, List.getElem_cons_succ]
    refine wpAnyH_take (i := 9) (v := .slice (some ⟨gb, 0, none⟩) n cb) rfl (by kernel_rfl) (by kernel_rfl) (by kernel_rfl) (fun _ _ _ h => h) (Or.inl ⟨by rfl, by intro w hSw; go_simp⟩) hHeld ?_
    try simp only [Act.put, List.setIfInBounds_toArray, List.set_cons_zero, List.set_cons_succ, List.getElem_toArray, List.getElem_cons_zero, List.getElem_cons_succ]
    refine wpAnyH_ready (rs := [2]) (by kernel_rfl) (by simp) ?_
    refine AllReadyH.cons rfl (fun K hK => ?_) AllReadyH.nil
    go_simp
    refine (HSD.out _ (HTB.out _ hHeld.1.bel) (HKWk.out.later (by rw [HTS.out]; exact hHeld.2)) (HHk.out.later (by rw [HTS.out]; exact hHeld.2))).mono ?_
    rintro _ z1 ⟨a1, n1, c1, rfl, hb1⟩
    refine hK.out _ _ (⟨hHeld.1.later hb1, hHeld.2.trans (hb1.mono hHeld.1.size)⟩) (fun hHeld => ?_)
    clear hK K
    try simp only [Act.put, List.setIfInBounds_toArray, List.set_cons_zero, List.set_cons_succ, List.getElem_toArray, List.getElem_cons_zero, List.getElem_cons_succ]
    clear hb1
    refine wpAnyH_take (i := 3) (v := .agg mjs.toArray) rfl (by kernel_rfl) (by kernel_rfl) (by kernel_rfl) (fun _ _ _ h => h) (Or.inl ⟨by rfl, by intro w hSw; have q := HFLD.out w a1 n1 c1; go_simp⟩) hHeld ?_
    try simp only [Act.put, List.setIfInBounds_toArray, List.set_cons_zero, List.set_cons_succ, List.getElem_toArray, List.getElem_cons_zero, List.getElem_cons_succ]
    refine wpAnyH_ready (rs := [10]) (by kernel_rfl) (by simp) ?_
    refine AllReadyH.cons rfl (fun K hK => ?_) AllReadyH.nil
    go_simp
    refine (refMac_any (KY j) la ln lc HLN.out bt _ n cb HN.out _ (HLRk.out.later (by rw [HTS.out]; exact hHeld.2)) (HOk.out.later (by rw [HTS.out]; exact hHeld.2)) (by have := HL2.out; omega) (by omega)).mono ?_
    rintro _ z2 ⟨rfl, hb2⟩
    rw [HMJ.out, HMJS.out]
    refine hK.out _ _ (⟨hHeld.1.later hb2, hHeld.2.trans (hb2.mono hHeld.1.size)⟩) (fun hHeld => ?_)
    clear hK K
    try simp only [Act.put, List.setIfInBounds_toArray, List.set_cons_zero, List.set_cons_succ, List.getElem_toArray, List.getElem_cons_zero, List.getElem_cons_succ]
    clear hb2
    refine wpAnyH_take (i := 11) (v := .bool true) rfl (by kernel_rfl) (by kernel_rfl) (by kernel_rfl) (fun _ _ _ h => h) (Or.inl ⟨by rfl, by intro w hSw; have q := HEQ1.out w; go_simp⟩) hHeld ?_
    try simp only [Act.put, List.setIfInBounds_toArray, List.set_cons_zero, List.set_cons_succ, List.getElem_toArray, List.getElem_cons_zero, List.getElem_cons_succ]
    refine wpAnyH_take (i := 12) (v := .bool true) rfl (by kernel_rfl) (by kernel_rfl) (by kernel_rfl) (fun _ _ _ h => h) (Or.inl ⟨by rfl, by intro w hSw; go_simp⟩) hHeld ?_
    try simp only [Act.put, List.setIfInBounds_toArray, List.set_cons_zero, List.set_cons_succ, List.getElem_toArray, List.getElem_cons_zero, List.getElem_cons_succ]
    refine wpAnyH_take (i := 13) (v := .int .i64 14) rfl (by kernel_rfl) (by kernel_rfl) (by kernel_rfl) (fun _ _ _ h => h) (Or.inl ⟨by rfl, by intro w hSw; go_simp⟩) hHeld ?_
    try simp only [Act.put, List.setIfInBounds_toArray, List.set_cons_zero, List.set_cons_succ, List.getElem_toArray, List.getElem_cons_zero, List.getElem_cons_succ]
    refine wpAnyH_take (i := 14) (v := .bool true) rfl (by kernel_rfl) (by kernel_rfl) (by kernel_rfl) (fun _ _ _ h => h) (Or.inl ⟨by rfl, by intro w hSw; go_simp⟩) hHeld ?_
    try simp only [Act.put, List.setIfInBounds_toArray, List.set_cons_zero, List.set_cons_succ, List.getElem_toArray, List.getElem_cons_zero, List.getElem_cons_succ]
    refine wpAnyH_take (i := 15) (v := .bool true) rfl (by kernel_rfl) (by kernel_rfl) (by kernel_rfl) (fun _ _ _ h => h) (Or.inl ⟨by rfl, by intro w hSw; go_simp⟩) hHeld ?_
    try simp only [Act.put, List.setIfInBounds_toArray, List.set_cons_zero, List.set_cons_succ, List.getElem_toArray, List.getElem_cons_zero, List.getElem_cons_succ]
    refine wpAnyH_take (i := 16) (v := undef) rfl (by kernel_rfl) (by kernel_rfl) (by kernel_rfl) (fun _ _ _ h => h) (Or.inr ⟨by rfl, rfl⟩) hHeld ?_
    try simp only [Act.put, List.setIfInBounds_toArray, List.set_cons_zero, List.set_cons_succ, List.getElem_toArray, List.getElem_cons_zero, List.getElem_cons_succ]
    refine wpAnyH_take (i := 17) (v := undef) rfl (by kernel_rfl) (by kernel_rfl) (by kernel_rfl) (fun _ _ _ h => h) (Or.inr ⟨by rfl, rfl⟩) hHeld ?_
    try simp only [Act.put, List.setIfInBounds_toArray, List.set_cons_zero, List.set_cons_succ, List.getElem_toArray, List.getElem_cons_zero, List.getElem_cons_succ]
    refine wpAnyH_take (i := 18) (v := undef) rfl (by kernel_rfl) (by kernel_rfl) (by kernel_rfl) (fun _ _ _ h => h) (Or.inr ⟨by rfl, rfl⟩) hHeld ?_
    try simp only [Act.put, List.setIfInBounds_toArray, List.set_cons_zero, List.set_cons_succ, List.getElem_toArray, List.getElem_cons_zero, List.getElem_cons_succ]
    refine wpAnyH_take (i := 19) (v := undef) rfl (by kernel_rfl) (by kernel_rfl) (by kernel_rfl) (fun _ _ _ h => h) (Or.inr ⟨by rfl, rfl⟩) hHeld ?_
    try simp only [Act.put, List.setIfInBounds_toArray, List.set_cons_zero, List.set_cons_succ, List.getElem_toArray, List.getElem_cons_zero, List.getElem_cons_succ]
    refine wpAnyH_take (i := 20) (v := undef) rfl (by kernel_rfl) (by kernel_rfl) (by kernel_rfl) (fun _ _ _ h => h) (Or.inr ⟨by rfl, rfl⟩) hHeld ?_
    try simp only [Act.put, List.setIfInBounds_toArray, List.set_cons_zero, List.set_cons_succ, List.getElem_toArray, List.getElem_cons_zero, List.getElem_cons_succ]
    refine wpAnyH_take (i := 21) (v := undef) rfl (by kernel_rfl) (by kernel_rfl) (by kernel_rfl) (fun _ _ _ h => h) (Or.inr ⟨by rfl, rfl⟩) hHeld ?_
    try simp only [Act.put, List.setIfInBounds_toArray, List.set_cons_zero, List.set_cons_succ, List.getElem_toArray, List.getElem_cons_zero, List.getElem_cons_succ]
    refine wpAnyH_take (i := 22) (v := undef) rfl (by kernel_rfl) (by kernel_rfl) (by kernel_rfl) (fun _ _ _ h => h) (Or.inr ⟨by rfl, rfl⟩) hHeld ?_
    try simp only [Act.put, List.setIfInBounds_toArray, List.set_cons_zero, List.set_cons_succ, List.getElem_toArray, List.getElem_cons_zero, List.getElem_cons_succ]
    refine wpAnyH_take (i := 23) (v := undef) rfl (by kernel_rfl) (by kernel_rfl) (by kernel_rfl) (fun _ _ _ h => h) (Or.inr ⟨by rfl, rfl⟩) hHeld ?_
    try simp only [Act.put, List.setIfInBounds_toArray, List.set_cons_zero, List.set_cons_succ, List.getElem_toArray, List.getElem_cons_zero, List.getElem_cons_succ]
    refine wpAnyH_take (i := 24) (v := undef) rfl (by kernel_rfl) (by kernel_rfl) (by kernel_rfl) (fun _ _ _ h => h) (Or.inr ⟨by rfl, rfl⟩) hHeld ?_
    try simp only [Act.put, List.setIfInBounds_toArray, List.set_cons_zero, List.set_cons_succ, List.getElem_toArray, List.getElem_cons_zero, List.getElem_cons_succ]
    refine wpAnyH_take (i := 25) (v := undef) rfl (by kernel_rfl) (by kernel_rfl) (by kernel_rfl) (fun _ _ _ h => h) (Or.inr ⟨by rfl, rfl⟩) hHeld ?_
    try simp only [Act.put, List.setIfInBounds_toArray, List.set_cons_zero, List.set_cons_succ, List.getElem_toArray, List.getElem_cons_zero, List.getElem_cons_succ]
    refine wpAnyH_take (i := 26) (v := .bool true) rfl (by kernel_rfl) (by kernel_rfl) (by kernel_rfl) (fun _ _ _ h => h) (Or.inl ⟨by rfl, by intro w hSw; go_simp⟩) hHeld ?_
    try simp only [Act.put, List.setIfInBounds_toArray, List.set_cons_zero, List.set_cons_succ, List.getElem_toArray, List.getElem_cons_zero, List.getElem_cons_succ]
    refine wpAnyH_take (i := 27) (v := .bool true) rfl (by kernel_rfl) (by kernel_rfl) (by kernel_rfl) (fun _ _ _ h => h) (Or.inl ⟨by rfl, by intro w hSw; go_simp⟩) hHeld ?_
    try simp only [Act.put, List.setIfInBounds_toArray, List.set_cons_zero, List.set_cons_succ, List.getElem_toArray, List.getElem_cons_zero, List.getElem_cons_succ]
    refine wpAnyH_ready (rs := [28]) (by kernel_rfl) (by simp) ?_
    refine AllReadyH.cons rfl (fun K hK => ?_) AllReadyH.nil
    go_simp
    refine hK.out _ _ (hHeld) (fun hHeld => ?_)
    clear hK K
    try simp only [Act.put, List.setIfInBounds_toArray, List.set_cons_zero, List.set_cons_succ, List.getElem_toArray, List.getElem_cons_zero, List.getElem_cons_succ]
    refine wpAnyH_done (by kernel_rfl) ?_ _
    go_wp2_with fail
    go_ret
    exact ⟨rfl, by first | exact hHeld.1.bel | (rw [hL]; exact hHeld.1.bel)⟩
  case true =>
    have HF0 := hid (show f = 0 from HFE.out)
    rw [HF0.out]
    have HEQ2 := hid (show ∀ wx, (Op.equalIn 10000 26 (.agg mos.toArray) (.agg mjs.toArray)).run Tryd.prog wx = .ok true wx from fun wx => by rw [← HMOS.out, ← HMJS.out, equal_hash9 wx _ _ HMO32.out HMJ32.out]; rw [HRR.out])
    refine wp_region_held_drew (S := fun w' => HK L T w [(40, P1, ss), (30, X, gs), (35, G, ks)] w' ∧ Below T wk.drew w') (by kernel_rfl) (HS.out) (fun hHeld => ?_)
    refine wpAnyH_take (i := 0) (v := _) rfl (by kernel_rfl) (by kernel_rfl) (by kernel_rfl) (fun _ _ _ h => h) (yieldsIf_load_mid (by rfl) _ _ rfl _ _ rfl ks _ (fun w hSw => (hSw.1.tl.tl.fst.range fun j v hv => by rw [Nat.zero_add]; exact hv)) Tryd.underlying35 rfl (by rw [HKL3.out]; exact HIK.out)) hHeld ?_
    try simp only [Act.put, List.setIfInBounds_toArray, List.set_cons_zero, List.set_cons_succ, List.getElem_toArray, List.getElem_cons_zero, List.getElem_cons_succ]
    refine wpAnyH_take (i := 1) (v := _) rfl (by kernel_rfl) (by kernel_rfl) (by kernel_rfl) (fun _ _ _ h => h) (yieldsIf_load_mid (by rfl) _ _ rfl _ _ rfl gs _ (fun w hSw => (hSw.1.tl.fst.range fun j v hv => by rw [Nat.zero_add]; exact hv)) Tryd.underlying30 rfl (by rw [HGL.out]; exact HI.out)) hHeld ?_
    try simp only [Act.put, List.setIfInBounds_toArray, List.set_cons_zero, List.set_cons_succ, List.getElem_toArray, List.getElem_cons_zero, List.getElem_cons_succ]
    refine wpAnyH_take (i := 4) (v := .pointer (some ⟨X, 0, none⟩)) rfl (by kernel_rfl) (by kernel_rfl) (by kernel_rfl) (fun _ _ _ h => h) (Or.inl ⟨by rfl, by intro w hSw; go_simp⟩) hHeld ?_
    try simp only [Act.put, List.setIfInBounds_toArray, List.set_cons_zero, List.set_cons_succ, List.getElem_toArray, List.getElem_cons_zero, List.getElem_cons_succ]
    refine wpAnyH_take (i := 5) (v := .pointer (some ⟨X, 0, none⟩)) rfl (by kernel_rfl) (by kernel_rfl) (by kernel_rfl) (fun _ _ _ h => h) (Or.inl ⟨by rfl, by intro w hSw; go_simp⟩) hHeld ?_
    try simp only [Act.put, List.setIfInBounds_toArray, List.set_cons_zero, List.set_cons_succ, List.getElem_toArray, List.getElem_cons_zero, List.getElem_cons_succ]
    refine wpAnyH_take (i := 6) (v := .int .i64 (j : Int)) rfl (by kernel_rfl) (by kernel_rfl) (by kernel_rfl) (fun _ _ _ h => h) (Or.inl ⟨by rfl, by intro w hSw; have q := HXD.out _ hSw.1.tl.fst; go_simp⟩) hHeld ?_
    try simp only [Act.put, List.setIfInBounds_toArray, List.set_cons_zero, List.set_cons_succ, List.getElem_toArray, List.getElem_cons_zero, List.getElem_cons_succ]
    refine wpAnyH_take (i := 7) (v := .pointer (some ⟨G, j, none⟩)) rfl (by kernel_rfl) (by kernel_rfl) (by kernel_rfl) (fun _ _ _ h => h) (Or.inl ⟨by rfl, by intro w hSw; go_simp⟩) hHeld ?_
    try simp only [Act.put, List.setIfInBounds_toArray, List.set_cons_zero, List.set_cons_succ, List.getElem_toArray, List.getElem_cons_zero, List.getElem_cons_succ]
    refine wpAnyH_take (i := 8) (v := .slice la ln lc) rfl (by kernel_rfl) (by kernel_rfl) (by kernel_rfl) (fun _ _ _ h => h) (Or.inl ⟨by rfl, by intro w hSw; have q := hSw.1.tl.tl.fst.cell HLJ.out; go_simp⟩) hHeld ?_
    try simp only [Act.put, List.setIfInBounds_toArray, List.set_cons_zero, List.set_cons_succ, List.getElem_toArray, List.getElem_cons_zero, List.getElem_cons_succ]
    refine wpAnyH_take (i := 9) (v := .slice (some ⟨gb, 0, none⟩) n cb) rfl (by kernel_rfl) (by kernel_rfl) (by kernel_rfl) (fun _ _ _ h => h) (Or.inl ⟨by rfl, by intro w hSw; go_simp⟩) hHeld ?_
    try simp only [Act.put, List.setIfInBounds_toArray, List.set_cons_zero, List.set_cons_succ, List.getElem_toArray, List.getElem_cons_zero, List.getElem_cons_succ]
    refine wpAnyH_ready (rs := [2]) (by kernel_rfl) (by simp) ?_
    refine AllReadyH.cons rfl (fun K hK => ?_) AllReadyH.nil
    go_simp
    refine (HSD.out _ (HTB.out _ hHeld.1.bel) (HKWk.out.later (by rw [HTS.out]; exact hHeld.2)) (HHk.out.later (by rw [HTS.out]; exact hHeld.2))).mono ?_
    rintro _ z1 ⟨a1, n1, c1, rfl, hb1⟩
    refine hK.out _ _ (⟨hHeld.1.later hb1, hHeld.2.trans (hb1.mono hHeld.1.size)⟩) (fun hHeld => ?_)
    clear hK K
    try simp only [Act.put, List.setIfInBounds_toArray, List.set_cons_zero, List.set_cons_succ, List.getElem_toArray, List.getElem_cons_zero, List.getElem_cons_succ]
    clear hb1
    refine wpAnyH_take (i := 3) (v := .agg mjs.toArray) rfl (by kernel_rfl) (by kernel_rfl) (by kernel_rfl) (fun _ _ _ h => h) (Or.inl ⟨by rfl, by intro w hSw; have q := HFLD.out w a1 n1 c1; go_simp⟩) hHeld ?_
    try simp only [Act.put, List.setIfInBounds_toArray, List.set_cons_zero, List.set_cons_succ, List.getElem_toArray, List.getElem_cons_zero, List.getElem_cons_succ]
    refine wpAnyH_ready (rs := [10]) (by kernel_rfl) (by simp) ?_
    refine AllReadyH.cons rfl (fun K hK => ?_) AllReadyH.nil
    go_simp
    refine (refMac_any (KY j) la ln lc HLN.out bt _ n cb HN.out _ (HLRk.out.later (by rw [HTS.out]; exact hHeld.2)) (HOk.out.later (by rw [HTS.out]; exact hHeld.2)) (by have := HL2.out; omega) (by omega)).mono ?_
    rintro _ z2 ⟨rfl, hb2⟩
    rw [HMJ.out, HMJS.out]
    refine hK.out _ _ (⟨hHeld.1.later hb2, hHeld.2.trans (hb2.mono hHeld.1.size)⟩) (fun hHeld => ?_)
    clear hK K
    try simp only [Act.put, List.setIfInBounds_toArray, List.set_cons_zero, List.set_cons_succ, List.getElem_toArray, List.getElem_cons_zero, List.getElem_cons_succ]
    clear hb2
    refine wpAnyH_take (i := 11) (v := .bool true) rfl (by kernel_rfl) (by kernel_rfl) (by kernel_rfl) (fun _ _ _ h => h) (Or.inl ⟨by rfl, by intro w hSw; have q := HEQ1.out w; go_simp⟩) hHeld ?_
    try simp only [Act.put, List.setIfInBounds_toArray, List.set_cons_zero, List.set_cons_succ, List.getElem_toArray, List.getElem_cons_zero, List.getElem_cons_succ]
    refine wpAnyH_take (i := 12) (v := .bool true) rfl (by kernel_rfl) (by kernel_rfl) (by kernel_rfl) (fun _ _ _ h => h) (Or.inl ⟨by rfl, by intro w hSw; go_simp⟩) hHeld ?_
    try simp only [Act.put, List.setIfInBounds_toArray, List.set_cons_zero, List.set_cons_succ, List.getElem_toArray, List.getElem_cons_zero, List.getElem_cons_succ]
    refine wpAnyH_take (i := 13) (v := .int .i64 0) rfl (by kernel_rfl) (by kernel_rfl) (by kernel_rfl) (fun _ _ _ h => h) (Or.inl ⟨by rfl, by intro w hSw; go_simp⟩) hHeld ?_
    try simp only [Act.put, List.setIfInBounds_toArray, List.set_cons_zero, List.set_cons_succ, List.getElem_toArray, List.getElem_cons_zero, List.getElem_cons_succ]
    refine wpAnyH_take (i := 14) (v := .bool false) rfl (by kernel_rfl) (by kernel_rfl) (by kernel_rfl) (fun _ _ _ h => h) (Or.inl ⟨by rfl, by intro w hSw; go_simp⟩) hHeld ?_
    try simp only [Act.put, List.setIfInBounds_toArray, List.set_cons_zero, List.set_cons_succ, List.getElem_toArray, List.getElem_cons_zero, List.getElem_cons_succ]
    refine wpAnyH_take (i := 15) (v := .bool false) rfl (by kernel_rfl) (by kernel_rfl) (by kernel_rfl) (fun _ _ _ h => h) (Or.inl ⟨by rfl, by intro w hSw; go_simp⟩) hHeld ?_
    try simp only [Act.put, List.setIfInBounds_toArray, List.set_cons_zero, List.set_cons_succ, List.getElem_toArray, List.getElem_cons_zero, List.getElem_cons_succ]
    refine wpAnyH_take (i := 16) (v := .pointer (some ⟨P1, 1, none⟩)) rfl (by kernel_rfl) (by kernel_rfl) (by kernel_rfl) (fun _ _ _ h => h) (Or.inl ⟨by rfl, by intro w hSw; go_simp⟩) hHeld ?_
    try simp only [Act.put, List.setIfInBounds_toArray, List.set_cons_zero, List.set_cons_succ, List.getElem_toArray, List.getElem_cons_zero, List.getElem_cons_succ]
    refine wpAnyH_take (i := 17) (v := _) rfl (by kernel_rfl) (by kernel_rfl) (by kernel_rfl) (fun _ _ _ h => h) (yieldsIf_load_mid (by rfl) _ _ rfl _ _ rfl mos _ (fun w hSw => (show _ from by rw [← HMOS.out]; exact (hSw.1.fst).range fun j v hv => by rw [← HSS.out]; exact sgC_mac hv)) Tryd.underlying26 rfl (by rw [HMOL.out]; exact HIH.out)) hHeld ?_
    try simp only [Act.put, List.setIfInBounds_toArray, List.set_cons_zero, List.set_cons_succ, List.getElem_toArray, List.getElem_cons_zero, List.getElem_cons_succ]
    refine wpAnyH_take (i := 18) (v := .pointer (some ⟨X, 0, none⟩)) rfl (by kernel_rfl) (by kernel_rfl) (by kernel_rfl) (fun _ _ _ h => h) (Or.inl ⟨by rfl, by intro w hSw; go_simp⟩) hHeld ?_
    try simp only [Act.put, List.setIfInBounds_toArray, List.set_cons_zero, List.set_cons_succ, List.getElem_toArray, List.getElem_cons_zero, List.getElem_cons_succ]
    refine wpAnyH_take (i := 19) (v := .pointer (some ⟨X, 0, none⟩)) rfl (by kernel_rfl) (by kernel_rfl) (by kernel_rfl) (fun _ _ _ h => h) (Or.inl ⟨by rfl, by intro w hSw; go_simp⟩) hHeld ?_
    try simp only [Act.put, List.setIfInBounds_toArray, List.set_cons_zero, List.set_cons_succ, List.getElem_toArray, List.getElem_cons_zero, List.getElem_cons_succ]
    refine wpAnyH_take (i := 20) (v := .int .i64 (j : Int)) rfl (by kernel_rfl) (by kernel_rfl) (by kernel_rfl) (fun _ _ _ h => h) (Or.inl ⟨by rfl, by intro w hSw; have q := HXD.out _ hSw.1.tl.fst; go_simp⟩) hHeld ?_
    try simp only [Act.put, List.setIfInBounds_toArray, List.set_cons_zero, List.set_cons_succ, List.getElem_toArray, List.getElem_cons_zero, List.getElem_cons_succ]
    refine wpAnyH_take (i := 21) (v := .pointer (some ⟨G, j, none⟩)) rfl (by kernel_rfl) (by kernel_rfl) (by kernel_rfl) (fun _ _ _ h => h) (Or.inl ⟨by rfl, by intro w hSw; go_simp⟩) hHeld ?_
    try simp only [Act.put, List.setIfInBounds_toArray, List.set_cons_zero, List.set_cons_succ, List.getElem_toArray, List.getElem_cons_zero, List.getElem_cons_succ]
    refine wpAnyH_take (i := 22) (v := .slice la ln lc) rfl (by kernel_rfl) (by kernel_rfl) (by kernel_rfl) (fun _ _ _ h => h) (Or.inl ⟨by rfl, by intro w hSw; have q := hSw.1.tl.tl.fst.cell HLJ.out; go_simp⟩) hHeld ?_
    try simp only [Act.put, List.setIfInBounds_toArray, List.set_cons_zero, List.set_cons_succ, List.getElem_toArray, List.getElem_cons_zero, List.getElem_cons_succ]
    refine wpAnyH_take (i := 23) (v := .slice (some ⟨gb, 0, none⟩) n cb) rfl (by kernel_rfl) (by kernel_rfl) (by kernel_rfl) (fun _ _ _ h => h) (Or.inl ⟨by rfl, by intro w hSw; go_simp⟩) hHeld ?_
    try simp only [Act.put, List.setIfInBounds_toArray, List.set_cons_zero, List.set_cons_succ, List.getElem_toArray, List.getElem_cons_zero, List.getElem_cons_succ]
    refine wpAnyH_ready (rs := [24]) (by kernel_rfl) (by simp) ?_
    refine AllReadyH.cons rfl (fun K hK => ?_) AllReadyH.nil
    go_simp
    refine (refMac_any (KY j) la ln lc HLN.out bt _ n cb HN.out _ (HLRk.out.later (by rw [HTS.out]; exact hHeld.2)) (HOk.out.later (by rw [HTS.out]; exact hHeld.2)) (by have := HL2.out; omega) (by omega)).mono ?_
    rintro _ z3 ⟨rfl, hb3⟩
    rw [HMJ.out, HMJS.out]
    refine hK.out _ _ (⟨hHeld.1.later hb3, hHeld.2.trans (hb3.mono hHeld.1.size)⟩) (fun hHeld => ?_)
    clear hK K
    try simp only [Act.put, List.setIfInBounds_toArray, List.set_cons_zero, List.set_cons_succ, List.getElem_toArray, List.getElem_cons_zero, List.getElem_cons_succ]
    clear hb3
    refine wpAnyH_take (i := 25) (v := .bool true) rfl (by kernel_rfl) (by kernel_rfl) (by kernel_rfl) (fun _ _ _ h => h) (Or.inl ⟨by rfl, by intro w hSw; have q := HEQ2.out w; go_simp⟩) hHeld ?_
    try simp only [Act.put, List.setIfInBounds_toArray, List.set_cons_zero, List.set_cons_succ, List.getElem_toArray, List.getElem_cons_zero, List.getElem_cons_succ]
    refine wpAnyH_take (i := 26) (v := .bool true) rfl (by kernel_rfl) (by kernel_rfl) (by kernel_rfl) (fun _ _ _ h => h) (Or.inl ⟨by rfl, by intro w hSw; go_simp⟩) hHeld ?_
    try simp only [Act.put, List.setIfInBounds_toArray, List.set_cons_zero, List.set_cons_succ, List.getElem_toArray, List.getElem_cons_zero, List.getElem_cons_succ]
    refine wpAnyH_take (i := 27) (v := .bool true) rfl (by kernel_rfl) (by kernel_rfl) (by kernel_rfl) (fun _ _ _ h => h) (Or.inl ⟨by rfl, by intro w hSw; go_simp⟩) hHeld ?_
    try simp only [Act.put, List.setIfInBounds_toArray, List.set_cons_zero, List.set_cons_succ, List.getElem_toArray, List.getElem_cons_zero, List.getElem_cons_succ]
    refine wpAnyH_ready (rs := [28]) (by kernel_rfl) (by simp) ?_
    refine AllReadyH.cons rfl (fun K hK => ?_) AllReadyH.nil
    go_simp
    refine hK.out _ _ (hHeld) (fun hHeld => ?_)
    clear hK K
    try simp only [Act.put, List.setIfInBounds_toArray, List.set_cons_zero, List.set_cons_succ, List.getElem_toArray, List.getElem_cons_zero, List.getElem_cons_succ]
    refine wpAnyH_done (by kernel_rfl) ?_ _
    go_wp2_with fail
    go_ret
    exact ⟨rfl, by first | exact hHeld.1.bel | (rw [hL]; exact hHeld.1.bel)⟩

theorem sown_row (w : World) (a0 : Option Addr) (l0 c0 : Nat) (z0 : List Int) (h0 : IsRow .u8 w a0 l0 c0 z0) (d : Dl) (v : Value) (o : List Cp) (hd : d.h.length = 32) (hv : InOp w v o) (_wf : d.Wf) (a2 : Option Addr) (l2 c2 : Nat) (z2 : List Int) (h2 : IsRow .i64 w a2 l2 c2 z2) (a3 : Int) (_w3 : (Lit.int .i64 a3).wf = true) (ht : Tabs w) :
    Calls Tryd.prog 6 #[.slice a0 l0 c0, .agg (d.cells v).toArray, .slice a2 l2 c2, .int .i64 a3] w fun e w' => e = .returned (.bool true) ∧ Below w.heap.size w w' := by
  obtain ⟨key, k1, k2, k3⟩ := bytes_of_row h0
  subst k1
  exact sown_any key a0 _ c0 rfl (row_cap9 h0) (cap_row9 h0) d v o hd a2 l2 c2 a3 w ht k3 hv (ns_of_row h2) (row_cap9 h2) (len_of_row h2)
end Go.Proofs.YtinifnpajkldbaaDoor

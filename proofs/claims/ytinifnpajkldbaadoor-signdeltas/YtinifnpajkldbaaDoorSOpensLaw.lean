/- The law SignOpens: any bytes with any sign are opened, or refused, as the document says. -/
import Derived.Test.YtinifnpajkldbaaDoorKnown9
import Derived.Test.YtinifnpajkldbaaDoorMacRef
import Derived.Test.YtinifnpajkldbaaDoorPk36
import Derived.Deep.RegionHeld3
namespace Go.Proofs.YtinifnpajkldbaaDoor
open Go.RowKit
set_option linter.unusedSimpArgs false
set_option linter.unusedVariables false

theorem row_cap9 {w : World} {k : IntKind} {a : Option Addr} {len cap : Nat} {zs : List Int} (h : IsRow k w a len cap zs) : len ≤ cap := by
  rcases h with ⟨rfl, rfl, rfl, rfl⟩ | ⟨ad, rfl, h1, h2, h3, h4, h5⟩ <;> omega
theorem cap_row9 {k : IntKind} {w : World} {a : Option Addr} {len cap : Nat} {zs : List Int} (h : IsRow k w a len cap zs) : cap ≤ maxLen := by
  rcases h with ⟨_, _, rfl, _⟩ | ⟨x, _, _, h, _⟩
  · exact Nat.zero_le _
  · exact h
theorem set_sg {w : World} {t : TypeId} {L : Nat} {b : Value} {m l : List UInt8} (h : Blk w t L (sgC b m)) (hm : m.length = 32) (hl : l.length = 32) : Blk (w.setCells L 1 (B l)) t L (sgC b l) := by
  have h3 := Blk.setCells (t := t) (g := L) (B l) [b] (B m) [] (w := w) (o := 1) (by simpa [sgC] using h) (by rw [B_length, B_length, hl, hm]) rfl
  simpa [sgC] using h3

theorem delP_few9 (b : List UInt8) : (delP b).2.1.length ≤ 40 := by
  have h2 := (opP_size (fldT (b, 0))).2
  unfold delP
  generalize fldV (b, 0) = V at *
  generalize opP (fldT (b, 0)) = X at *
  generalize endS (fldN (b, 0)) = e0 at *
  repeat' split
  all_goals first | exact Nat.zero_le _ | exact h2
theorem openS_few (KY : Nat → List UInt8) (m body : List UInt8) : (openS KY m body).1.h.length = 32 ∧ (openS KY m body).2.1.length ≤ 40 := by
  have h1 := delP_len body
  have h2 := delP_few9 body
  have h3 : Dl.zero.h.length = 32 := Dl.zero_len
  unfold openS
  generalize delP body = Q at *
  repeat' split
  all_goals first | exact ⟨h3, Nat.zero_le _⟩ | exact ⟨h1, h2⟩
theorem gopen_at (ks : List Value) (KY : Nat → List UInt8) (m : List UInt8) (hm : m.length = 32) (ao : Option Addr) (n cap : Nat) (body : List UInt8) (hn : body.length = n) (hn2 : n ≤ 9000) (y : Dl) (oy : List Cp) (f : Int) (hO : openS KY m body = (y, oy, f)) (w : World) (hk : KW w ks KY) (hb : Reads w (.slice ao n cap) (B body)) :
    Calls Tryd.prog 18 #[.agg ks.toArray, .agg (sgC (.slice ao n cap) m).toArray] w fun en w' => ∃ v' es, y.cells v' = es ∧ en = .returned (.tuple #[.agg es.toArray, .int .i64 f]) ∧ HasC w' w.heap.size v' oy ∧ Below w.heap.size w w' := by
  refine (gOpen_any ks KY m hm ao n cap body hn hn2 w hk hb).mono ?_
  rintro _ w' ⟨v', rfl, h1, h2⟩
  rw [hO] at h1
  rw [hO]
  exact ⟨v', _, rfl, rfl, h1, h2⟩

set_option maxRecDepth 100000 in
set_option maxHeartbeats 16000000 in
theorem sopens_any (key : List UInt8) (ao : Option Addr) (kl kc0 : Nat) (hkl : key.length = kl) (hklc : kl ≤ kc0) (hkc : kc0 ≤ maxLen) (sa : Option Addr) (n cap : Nat) (body : List UInt8) (hn : body.length = n) (hcap : cap ≤ maxLen) (hnb : n ≤ maxLen) (m : List UInt8) (hm : m.length = 32) (right : Bool) (w : World) (ht : Tabs w)
    (hkey : Reads w (.slice ao kl kc0) (B key)) (hb : Reads w (.slice sa n cap) (B body)) :
    Calls Tryd.prog 4 #[.slice ao kl kc0, .agg (sgC (.slice sa n cap) m).toArray, .bool right] w fun e w' => e = .returned (.bool true) ∧ Below w.heap.size w w' := by
  obtain ⟨L, hL⟩ : ∃ L, w.heap.size = L := ⟨_, rfl⟩
  have hL2 : 2 ≤ L := by rw [← hL]; exact ht.two
  have HT := hid ht
  have HTB := hid (show ∀ wx, Below L w wx → Tabs wx from fun wx h => ht.below h hL2)
  have HRK := hid hkey
  have HRD := hid hb
  have HN := hid hn
  have HM := hid hm
  have HKL := hid hkl
  obtain ⟨cs, hcs⟩ : ∃ cs, sgC (.slice sa n cap) m = cs := ⟨_, rfl⟩
  have HCS := hid hcs
  have HCL := hid (show cs.length = 33 by rw [← hcs]; exact sgC_len hm)
  obtain ⟨KY, hKY⟩ : ∃ KY, keyS key = KY := ⟨_, rfl⟩
  have HKY := hid hKY
  have HI := hid (show (Tryd.prog.info? 30).map (·.size) = some 40 by kernel_rfl)
  have HIH := hid (show (Tryd.prog.info? 26).map (·.size) = some 32 by kernel_rfl)
  have HIK := hid (show (Tryd.prog.info? 35).map (·.size) = some 3 by kernel_rfl)
  have HIS := hid (show (Tryd.prog.info? 40).map (·.size) = some 33 by kernel_rfl)
  obtain ⟨zs, hzs⟩ : ∃ zs, Dl.zero.cells (.slice none 0 0) = zs := ⟨_, rfl⟩
  have HZ := hid (show (Tryd.prog.info? 30).bind (fun i => i.zero.map fun z => z.cells.toList) = some zs by rw [← hzs]; kernel_rfl)
  have HZL := hid (show zs.length = 40 by rw [← hzs]; exact Dl.len Dl.zero_len)
  have HZK := hid (show (Tryd.prog.info? 35).bind (fun i => i.zero.map fun z => z.cells.toList) = some [.slice none 0 0, .slice none 0 0, .slice none 0 0] by kernel_rfl)
  have hnb2 : n ≤ 9223372036854775807 := hnb
  rw [hcs]
  clear ht hkey hb hn hm hkl hcs hKY hzs hnb
  go_enter Tryd.func4, Tryd.ntmps4
  go_wp2_with (show wpList _ _ _ (⟨some 4, Op.box _ _, _, _, _, _⟩ :: _) _ _; go_must (refine wpList_box_blk rfl 40 _ rfl cs rfl L hL ?_); intro w1 hB1 hb1 hs1; have HB1 := hid hB1; have Hb1 := hid hb1; clear hB1 hb1)
  -- CALL0
  refine (known9_any _ (HTB.out _ Hb1.out)).mono ?_
  rintro _ w2 ⟨rfl, hb2⟩
  have HB2 := hid (HB1.out.later hb2)
  have Hb2 := hid (show Below L w w2 from Hb1.out.trans (hb2.mono (by omega)))
  clear hb2 HB1 Hb1 hs1
  have c2 : w2.cell? ⟨L, 0, none⟩ = some (.slice sa n cap) := HB2.out.cell (by rw [← HCS.out]; rfl)
  by_cases h300 : 300 < n
  · have h300' : (300 : Int) < (n : Int) := by omega
    go_wp2_with fail
    go_ret
    exact ⟨rfl, by first | exact Hb2.out | (rw [hL]; exact Hb2.out)⟩
  have h300' : ¬ (300 : Int) < (n : Int) := by omega
  go_wp2_with fail
  -- CALL1
  refine (keys9_any key ao kl kc0 HKL.out hklc hkc _ (HRK.out.later (by rw [hL]; exact Hb2.out))).mono ?_
  rintro _ w3 ⟨ks, rfl, hKW, hK1, hKB, hb3⟩
  rw [HKY.out] at hKW
  have HKW3 := hid hKW
  have HK1 := hid hK1
  have hLs : L < w2.heap.size := HB2.out.lt
  have HKB := hid (show ∀ (i : Nat) a n c, ks[i]? = some (.slice a n c) → ∃ g, a = some ⟨g, 0, none⟩ ∧ L < g from fun i a n c h => by
    obtain ⟨g, h1, h2⟩ := hKB i a n c h
    exact ⟨g, h1, by omega⟩)
  have HB3 := hid (HB2.out.later hb3)
  have Hb3 := hid (show Below L w w3 from Hb2.out.trans (hb3.mono (by omega)))
  have HKL3 := hid hKW.len
  obtain ⟨G, hG⟩ : ∃ G, w3.heap.size = G := ⟨_, rfl⟩
  have HG := hid hG
  have hGL : L < G := by rw [← hG]; exact HB3.out.lt
  clear hKW hK1 hKB hb3 c2 HB2 Hb2 hLs
  go_upto_region 6 with (first
    | (show wpList _ _ _ (⟨some 7, Op.alloc _, _, _, _, _⟩ :: _) _ _; go_must (refine wpList_alloc_blk rfl 35 rfl _ HZK.out G hG ?_); intro w4 hB4 hb4 hs4; have HB4 := hid hB4; have Hb4 := hid hb4; clear hB4 hb4)
    | (show wpList _ _ _ (⟨none, Op.store _ (Operand.tmp 7) (Operand.tmp 21), _, _, _, _⟩ :: _) _ _; go_must (refine wpList_store_list rfl 35 _ _ rfl G 0 ks rfl rfl (HB4.out.there (by rw [HKL3.out]; simp)) (by rw [HKL3.out]; exact HIK.out) HK1.out ?_); intro w5 hw5; have HX5 := hid (show Blk w5 35 G ks ∧ Below G w3 w5 by rw [hw5]; exact ⟨by have h3 := Blk.setCells ks [] [.slice none 0 0, .slice none 0 0, .slice none 0 0] [] (o := 0) (by simpa using HB4.out) (by rw [HKL3.out]; rfl) rfl; simpa using h3, below_setCells (by omega) _ _ Hb4.out⟩); clear hw5 HB4 Hb4))
  -- PART2
  have HK5 := hid HX5.out.1
  have HB5 := hid (show Blk w5 40 L cs from HB3.out.later (by rw [HG.out]; exact HX5.out.2))
  have HKW5 := hid (show KW w5 ks KY from HKW3.out.later (by rw [HG.out]; exact HX5.out.2))
  have Hb5 := hid (show Below L w w5 from Hb3.out.trans (HX5.out.2.mono (by omega)))
  clear HX5 HB3 HKW3 Hb3 hs4 hG
  have c5 : w5.cell? ⟨L, 0, none⟩ = some (.slice sa n cap) := HB5.out.cell (by rw [← HCS.out]; rfl)
  obtain ⟨x, ox, e, hp⟩ : ∃ x ox e, delP body = (x, ox, e) := by
    rcases delP body with ⟨a, b, c⟩
    exact ⟨a, b, c, rfl⟩
  have HP := hid hp
  have HX32 := hid (show x.h.length = 32 by have := delP_len body; rwa [hp] at this)
  have HXJ := hid (show e = 0 → ∃ j : Nat, j < 3 ∧ x.aD = (j : Int) from fun h => by have := delP_dom (b := body) (by rw [hp]; exact h); rwa [hp] at this)
  have HBIG := hid (show body.length ≤ 140737488355328 by rw [HN.out]; omega)
  clear hp
  go_wp2_with fail
  -- CALL2
  refine (rparse9 body x ox e HP.out _ _ (HRD.out.later (by rw [hL]; exact Hb5.out)) HBIG.out).mono ?_
  rintro _ w6 ⟨v6, xs, hxs, rfl, hH6, hb6⟩
  have HK6 := hid (HK5.out.later hb6)
  have HB6 := hid (HB5.out.later hb6)
  have HKW6 := hid (HKW5.out.later hb6)
  have hL5 : L < w5.heap.size := HB5.out.lt
  have hG5 : G < w5.heap.size := HK5.out.lt
  have hz65 : w5.heap.size ≤ w6.heap.size := hb6.size
  have Hb6 := hid (show Below L w w6 from Hb5.out.trans (hb6.mono (by omega)))
  have HXS := hid hxs
  have HXL := hid (show xs.length = 40 by rw [← hxs]; exact Dl.len HX32.out)
  have HXO := hid (show ∀ x ∈ xs, x.oneCell' = true by rw [← hxs]; exact Dl.one (one9 hH6))
  obtain ⟨X, hX⟩ : ∃ X, w6.heap.size = X := ⟨_, rfl⟩
  have HX := hid hX
  have hXG : G < X := by omega
  clear hxs hH6 hb6 c5 HK5 HB5 HKW5 Hb5 hL5 hG5 hz65
  go_upto_region 7 with (first
    | (show wpList _ _ _ (⟨some 8, Op.alloc _, _, _, _, _⟩ :: _) _ _; go_must (refine wpList_alloc_blk rfl 30 rfl _ HZ.out X hX ?_); intro w7 hB7 hb7 hs7; have HB7 := hid hB7; have Hb7 := hid hb7; clear hB7 hb7)
    | (show wpList _ _ _ (⟨none, Op.store _ (Operand.tmp 8) (Operand.tmp 26), _, _, _, _⟩ :: _) _ _; go_must (refine wpList_store_list rfl 30 _ _ rfl X 0 xs rfl rfl (HB7.out.there (by rw [HXL.out, HZL.out]; omega)) (by rw [HXL.out]; exact HI.out) HXO.out ?_); intro w8 hw8; have HX8 := hid (show Blk w8 30 X xs ∧ Below X w6 w8 by rw [hw8]; exact ⟨by have h3 := Blk.setCells xs [] zs [] (o := 0) (by simpa using HB7.out) (by rw [HZL.out, HXL.out]) rfl; simpa using h3, below_setCells (by omega) _ _ Hb7.out⟩); clear hw8 HB7 Hb7))
  -- PART3
  have HD8 := hid HX8.out.1
  have HK8 := hid (show Blk w8 35 G ks from HK6.out.later (by rw [HX.out]; exact HX8.out.2))
  have HB8 := hid (show Blk w8 40 L cs from HB6.out.later (by rw [HX.out]; exact HX8.out.2))
  have HKW8 := hid (show KW w8 ks KY from HKW6.out.later (by rw [HX.out]; exact HX8.out.2))
  have Hb8 := hid (show Below L w w8 from Hb6.out.trans (HX8.out.2.mono (by omega)))
  clear HX8 HK6 HB6 HKW6 Hb6 hs7 hX
  obtain ⟨bq, hbq⟩ : ∃ b, (e == 0 && right) = b := ⟨_, rfl⟩
  have HBQ := hid hbq
  clear hbq
  go_cut [32] (fun s w' => s = .bool bq ∧ w' = w8)
  case first =>
    by_cases he : e = 0
    · subst he
      have HQ := hid (show bq = right by rw [← HBQ.out]; simp)
      go_wp2_with fail
      go_meet
      exact ⟨by rw [HQ.out], rfl⟩
    · have hne : (e == 0) = false := by simpa using he
      have HQ := hid (show bq = false by rw [← HBQ.out, hne]; rfl)
      go_wp2_with fail
      go_meet
      exact ⟨by rw [HQ.out], rfl⟩
  case rest =>
  obtain ⟨rfl, hwc⟩ := hcut
  rw [hwc]
  clear hwc
  go_upto_if 32 with fail
  go_cut [41] (fun s w' => ∃ m2 : List UInt8, m2.length = 32 ∧ Blk w' 40 L (sgC (.slice sa n cap) m2) ∧ Blk w' 35 G ks ∧ KW w' ks KY ∧ Below L w w')
  case first =>
    have HMEET := hid (show ∃ m2 : List UInt8, m2.length = 32 ∧ Blk w8 40 L (sgC (.slice sa n cap) m2) ∧ Blk w8 35 G ks ∧ KW w8 ks KY ∧ Below L w w8 from ⟨m, HM.out, by rw [HCS.out]; exact HB8.out, HK8.out, HKW8.out, Hb8.out⟩)
    cases bq
    · go_wp2_with fail
      go_meet
      exact HMEET.out
    have he : e = 0 := by have := HBQ.out; simp at this; exact this.1
    subst he
    obtain ⟨j, hj3, hjx⟩ := HXJ.out rfl
    have HJX := hid hjx
    have hj3' : (j : Int) < 3 := by omega
    obtain ⟨ka, kn, kc, k1, k2, k3, k4, k5⟩ := HKW8.out.get j hj3
    have HKJ := hid k1
    have HKN := hid k2
    have HK2 := hid k3
    have HKR := hid k5
    have HXD := hid (show ∀ wx, Blk wx 30 X xs → wx.cell? ⟨X, 0, none⟩ = some (.int .i64 (j : Int)) from fun wx h => by
      rw [← HXS.out] at h
      rw [← HJX.out]
      exact h.cell (j := 0) rfl)
    obtain ⟨mc, hmc⟩ : ∃ mc, macS (KY j) body = mc := ⟨_, rfl⟩
    have HMC := hid hmc
    have HMC32 := hid (show mc.length = 32 by rw [← hmc]; exact macS_len _ _)
    obtain ⟨mcs, hmcs⟩ : ∃ ms, B mc = ms := ⟨_, rfl⟩
    have HMCS := hid hmcs
    have HMCL := hid (show mcs.length = 32 by rw [← hmcs, B_length, HMC32.out])
    have HMCO := hid (show ∀ v ∈ mcs, v.oneCell' = true by rw [← hmcs]; exact B_one _)
    clear k1 k2 k3 k4 k5 hjx hmc hmcs
    go_upto_region 8 with fail
    -- REGION8
    have HS8 := hid (show HB L (X + 1) w [(30, X, xs), (35, G, ks)] L 40 33 w8.drew from by
      have hx := HD8.out.lt
      exact HB.drew (HB.cons (HB.cons (HB.nil (by omega) HB8.out HCL.out Hb8.out (by omega) (Nat.le_refl _)) HK8.out (by omega) (by omega)) HD8.out (by omega) (by omega)))
    have HB0 := hid (show w8.drew.cell? ⟨L, 0, none⟩ = some (.slice sa n cap) from HB8.out.cell (by rw [← HCS.out]; rfl))
    have HKRd := hid (show Reads w8.drew (.slice ka kn kc) (B (KY j)) from HKR.out.later ((Below.refl _ _).drew))
    have HRDd := hid (show Reads w8.drew (.slice sa n cap) (B body) from HRD.out.later (by rw [hL]; exact Hb8.out.drew))
    have HKWd := hid (show KW w8.drew ks KY from HKW8.out.later ((Below.refl _ _).drew))
    have HSGd := hid (show Blk w8.drew 40 L (sgC (.slice sa n cap) m) from by rw [HCS.out]; exact HB8.out.drewN 1)
    clear HMEET
    refine wp_region_held_drew (S := fun w' => HB L (X + 1) w [(30, X, xs), (35, G, ks)] L 40 33 w') (by kernel_rfl) (HS8.out) (fun hHeld => ?_)
    generalize hwd : w8.drew = wd at *
    refine wpAnyH_take (i := 0) (v := .pointer (some ⟨X, 0, none⟩)) rfl (by kernel_rfl) (by kernel_rfl) (by kernel_rfl) (fun _ _ _ h => h) (Or.inl ⟨by rfl, by intro w hSw; go_simp⟩) hHeld ?_
    try simp only [Act.put, List.setIfInBounds_toArray, List.set_cons_zero, List.set_cons_succ, List.getElem_toArray, List.getElem_cons_zero, List.getElem_cons_succ]
    refine wpAnyH_take (i := 1) (v := .pointer (some ⟨X, 0, none⟩)) rfl (by kernel_rfl) (by kernel_rfl) (by kernel_rfl) (fun _ _ _ h => h) (Or.inl ⟨by rfl, by intro w hSw; go_simp⟩) hHeld ?_
    try simp only [Act.put, List.setIfInBounds_toArray, List.set_cons_zero, List.set_cons_succ, List.getElem_toArray, List.getElem_cons_zero, List.getElem_cons_succ]
    refine wpAnyH_take (i := 2) (v := .int .i64 (j : Int)) rfl (by kernel_rfl) (by kernel_rfl) (by kernel_rfl) (fun _ _ _ h => h) (Or.inl ⟨by rfl, by intro w hSw; have q := HXD.out _ hSw.fst; go_simp⟩) hHeld ?_
    try simp only [Act.put, List.setIfInBounds_toArray, List.set_cons_zero, List.set_cons_succ, List.getElem_toArray, List.getElem_cons_zero, List.getElem_cons_succ]
    refine wpAnyH_take (i := 3) (v := .pointer (some ⟨G, j, none⟩)) rfl (by kernel_rfl) (by kernel_rfl) (by kernel_rfl) (fun _ _ _ h => h) (Or.inl ⟨by rfl, by intro w hSw; go_simp⟩) hHeld ?_
    try simp only [Act.put, List.setIfInBounds_toArray, List.set_cons_zero, List.set_cons_succ, List.getElem_toArray, List.getElem_cons_zero, List.getElem_cons_succ]
    refine wpAnyH_take (i := 4) (v := .slice ka kn kc) rfl (by kernel_rfl) (by kernel_rfl) (by kernel_rfl) (fun _ _ _ h => h) (Or.inl ⟨by rfl, by intro w hSw; have q := hSw.tl.fst.cell HKJ.out; go_simp⟩) hHeld ?_
    try simp only [Act.put, List.setIfInBounds_toArray, List.set_cons_zero, List.set_cons_succ, List.getElem_toArray, List.getElem_cons_zero, List.getElem_cons_succ]
    refine wpAnyH_take (i := 5) (v := .pointer (some ⟨L, 0, none⟩)) rfl (by kernel_rfl) (by kernel_rfl) (by kernel_rfl) (fun _ _ _ h => h) (Or.inl ⟨by rfl, by intro w hSw; go_simp⟩) hHeld ?_
    try simp only [Act.put, List.setIfInBounds_toArray, List.set_cons_zero, List.set_cons_succ, List.getElem_toArray, List.getElem_cons_zero, List.getElem_cons_succ]
    refine wpAnyH_ready (rs := [6]) (by kernel_rfl) (by simp) ?_
    refine AllReadyH.cons rfl (fun K hK => ?_) AllReadyH.nil
    have q := HB0.out
    go_simp
    clear q
    refine hK.out _ _ (hHeld) (fun hHeld => ?_)
    clear hK K
    try simp only [Act.put, List.setIfInBounds_toArray, List.set_cons_zero, List.set_cons_succ, List.getElem_toArray, List.getElem_cons_zero, List.getElem_cons_succ]
    refine wpAnyH_ready (rs := [7]) (by kernel_rfl) (by simp) ?_
    refine AllReadyH.cons rfl (fun K hK => ?_) AllReadyH.nil
    go_simp
    refine (refMac_any (KY j) ka kn kc HKN.out body _ n cap HN.out _ HKRd.out HRDd.out (by have := HK2.out; omega) (by omega)).mono ?_
    rintro _ w9 ⟨rfl, hb9⟩
    rw [HMC.out, HMCS.out]
    refine hK.out _ _ (hHeld.later hb9) (fun hHeld => ?_)
    clear hK K
    try simp only [Act.put, List.setIfInBounds_toArray, List.set_cons_zero, List.set_cons_succ, List.getElem_toArray, List.getElem_cons_zero, List.getElem_cons_succ]
    have HKW9 := hid (HKWd.out.later hb9)
    have HSG9 := hid (HSGd.out.later hb9)
    clear hb9
    refine wpAnyH_ready (rs := [8]) (by kernel_rfl) (by simp) ?_
    refine AllReadyH.cons rfl (fun K hK => ?_) AllReadyH.nil
    go_simp
    refine hK.out _ _ (hHeld) (fun hHeld => ?_)
    clear hK K
    try simp only [Act.put, List.setIfInBounds_toArray, List.set_cons_zero, List.set_cons_succ, List.getElem_toArray, List.getElem_cons_zero, List.getElem_cons_succ]
    refine wpAnyH_ready (rs := [9]) (by kernel_rfl) (by simp) ?_
    refine AllReadyH.cons rfl (fun K hK => ?_) AllReadyH.nil
    refine Eq.mpr (if_pos (by rfl)) ?_
    refine wp_store_list 26 _ _ rfl L 1 mcs rfl rfl (hHeld.there (by rw [HMCL.out]; omega)) (by rw [HMCL.out]; exact HIH.out) HMCO.out ?_
    intro w10 hw10
    have HX := hid (show HB L (X + 1) w [(30, X, xs), (35, G, ks)] L 40 33 w10 ∧ Blk w10 40 L (sgC (.slice sa n cap) mc) ∧ KW w10 ks KY from by
      rw [hw10]
      refine ⟨hHeld.store mcs 1 (by rw [HMCL.out]; omega), ?_, HKW9.out.off9 L HKB.out (fun k hk => setCells_heap hk mcs 1 _)⟩
      rw [← HMCS.out]
      exact set_sg HSG9.out HM.out HMC32.out)
    clear hw10
    refine hK.out _ _ (HX.out.1) (fun hHeld => ?_)
    clear hK K
    try simp only [Act.put, List.setIfInBounds_toArray, List.set_cons_zero, List.set_cons_succ, List.getElem_toArray, List.getElem_cons_zero, List.getElem_cons_succ]
    refine wpAnyH_done (by kernel_rfl) ?_ _
    go_wp2_with fail
    go_meet
    exact ⟨mc, HMC32.out, HX.out.2.1, HX.out.1.tl.fst, HX.out.2.2, HX.out.1.bel⟩
  case rest =>
  -- PART4
  obtain ⟨m2, hm2, hS, hK, hW, hB⟩ := hcut
  have HM2 := hid hm2
  have HK9 := hid hK
  have HW9 := hid hW
  have Hb9 := hid hB
  obtain ⟨c2s, hc2s⟩ : ∃ cs, sgC (.slice sa n cap) m2 = cs := ⟨_, rfl⟩
  rw [hc2s] at hS
  have HS9 := hid hS
  have HC2S := hid hc2s
  have HC2L := hid (show c2s.length = 33 by rw [← hc2s]; exact sgC_len hm2)
  have hGc : G < wc.heap.size := hK.lt
  clear hm2 hS hK hW hB hc2s HD8 HK8 HB8 HKW8 Hb8 HBQ
  obtain ⟨y, oy, f, hO⟩ : ∃ y oy f, openS KY m2 body = (y, oy, f) := by
    rcases openS KY m2 body with ⟨a, b, c⟩
    exact ⟨a, b, c, rfl⟩
  have HO := hid hO
  have HY32 := hid (show y.h.length = 32 by have := (openS_few KY m2 body).1; rwa [hO] at this)
  have HYL := hid (show oy.length ≤ 40 by have := (openS_few KY m2 body).2; rwa [hO] at this)
  clear hO
  go_wp2_with (first
    | (show wpList _ _ _ (⟨some 43, Op.load _ _, _, _, _, _⟩ :: _) _ _; go_must (refine wpList_load_mid rfl 35 _ rfl G 0 rfl ks _ (HK9.out.range fun j v hv => by rw [Nat.zero_add]; exact hv) Tryd.underlying35 rfl (by rw [HKL3.out]; exact HIK.out) ?_))
    | (show wpList _ _ _ (⟨some 44, Op.load _ _, _, _, _, _⟩ :: _) _ _; go_must (refine wpList_load_mid rfl 40 _ rfl L 0 rfl c2s _ (HS9.out.range fun j v hv => by rw [Nat.zero_add]; exact hv) Tryd.underlying40 rfl (by rw [HC2L.out]; exact HIS.out) ?_)))
  -- CALL3
  rw [← HC2S.out]
  refine (sopen_at ks KY m2 HM2.out sa n cap body HN.out (by omega) hcap y oy f HO.out _ (HTB.out _ Hb9.out) HW9.out (HRD.out.later (by rw [hL]; exact Hb9.out))).mono ?_
  rintro _ wa ⟨va, as1, has, rfl, hHa, hba⟩
  rw [HC2S.out]
  have HKa := hid (HK9.out.later hba)
  have HSa := hid (HS9.out.later hba)
  have HWa := hid (HW9.out.later hba)
  have hza : wc.heap.size ≤ wa.heap.size := hba.size
  have Hba := hid (show Below L w wa from Hb9.out.trans (hba.mono (by omega)))
  have HAS := hid has
  have HHa := hid hHa
  have HAL := hid (show as1.length = 40 by rw [← has]; exact Dl.len HY32.out)
  have HAO := hid (show ∀ x ∈ as1, x.oneCell' = true by rw [← has]; exact Dl.one (one9 hHa))
  obtain ⟨P1, hP1⟩ : ∃ X, wa.heap.size = X := ⟨_, rfl⟩
  have HP1 := hid hP1
  have hGP : G < P1 := by omega
  clear has hHa hba HK9 HS9 HW9 Hb9 hza
  go_upto_region 10 with (first
    | (show wpList _ _ _ (⟨some 10, Op.alloc _, _, _, _, _⟩ :: _) _ _; go_must (refine wpList_alloc_blk rfl 30 rfl _ HZ.out P1 hP1 ?_); intro wb hBb hbb hsb; have HBb := hid hBb; have Hbb := hid hbb; clear hBb hbb)
    | (show wpList _ _ _ (⟨none, Op.store _ (Operand.tmp 10) (Operand.tmp 46), _, _, _, _⟩ :: _) _ _; go_must (refine wpList_store_list rfl 30 _ _ rfl P1 0 as1 rfl rfl (HBb.out.there (by rw [HAL.out, HZL.out]; omega)) (by rw [HAL.out]; exact HI.out) HAO.out ?_); intro wd hwd; have HXd := hid (show Blk wd 30 P1 as1 ∧ Below P1 wa wd by rw [hwd]; exact ⟨by have h3 := Blk.setCells as1 [] zs [] (o := 0) (by simpa using HBb.out) (by rw [HZL.out, HAL.out]) rfl; simpa using h3, below_setCells (by omega) _ _ Hbb.out⟩); clear hwd HBb Hbb))
  -- PART5
  have HDd := hid HXd.out.1
  have HKd := hid (show Blk wd 35 G ks from HKa.out.later (by rw [HP1.out]; exact HXd.out.2))
  have HSd := hid (show Blk wd 40 L c2s from HSa.out.later (by rw [HP1.out]; exact HXd.out.2))
  have HWd := hid (show KW wd ks KY from HWa.out.later (by rw [HP1.out]; exact HXd.out.2))
  have HHd := hid (show RC wd va oy from (HHa.out.later (by rw [HP1.out]; exact HXd.out.2)).reads)
  have Hbd := hid (show Below L w wd from Hba.out.trans (HXd.out.2.mono (by omega)))
  have hPd : P1 < wd.heap.size := HDd.out.lt
  clear HXd HKa HSa HWa HHa Hba hsb hP1
  go_wp2_with (first
    | (show wpList _ _ _ (⟨some 49, Op.load _ _, _, _, _, _⟩ :: _) _ _; go_must (refine wpList_load_mid rfl 35 _ rfl G 0 rfl ks _ (HKd.out.range fun j v hv => by rw [Nat.zero_add]; exact hv) Tryd.underlying35 rfl (by rw [HKL3.out]; exact HIK.out) ?_))
    | (show wpList _ _ _ (⟨some 50, Op.load _ _, _, _, _, _⟩ :: _) _ _; go_must (refine wpList_load_mid rfl 40 _ rfl L 0 rfl c2s _ (HSd.out.range fun j v hv => by rw [Nat.zero_add]; exact hv) Tryd.underlying40 rfl (by rw [HC2L.out]; exact HIS.out) ?_)))
  -- CALL4
  rw [← HC2S.out]
  refine (gopen_at ks KY m2 HM2.out sa n cap body HN.out (by omega) y oy f HO.out _ HWd.out (HRD.out.later (by rw [hL]; exact Hbd.out))).mono ?_
  rintro _ we ⟨ve, bs1, hbs, rfl, hHe, hbe⟩
  rw [HC2S.out]
  have HDe := hid (HDd.out.later hbe)
  have HHe1 := hid (HHd.out.later hbe)
  have hze : wd.heap.size ≤ we.heap.size := hbe.size
  have Hbe := hid (show Below L w we from Hbd.out.trans (hbe.mono (by omega)))
  have HBS := hid hbs
  have HHe := hid hHe
  have HBL := hid (show bs1.length = 40 by rw [← hbs]; exact Dl.len HY32.out)
  have HBO := hid (show ∀ x ∈ bs1, x.oneCell' = true by rw [← hbs]; exact Dl.one (one9 hHe))
  obtain ⟨P2, hP2⟩ : ∃ X, we.heap.size = X := ⟨_, rfl⟩
  have HP2 := hid hP2
  have hPP : P1 < P2 := by omega
  clear hbs hHe hbe HKd HSd HWd HHd Hbd HDd hze hPd
  go_upto_region 11 with (first
    | (show wpList _ _ _ (⟨some 12, Op.alloc _, _, _, _, _⟩ :: _) _ _; go_must (refine wpList_alloc_blk rfl 30 rfl _ HZ.out P2 hP2 ?_); intro wf hBf hbf hsf; have HBf := hid hBf; have Hbf := hid hbf; clear hBf hbf)
    | (show wpList _ _ _ (⟨none, Op.store _ (Operand.tmp 12) (Operand.tmp 52), _, _, _, _⟩ :: _) _ _; go_must (refine wpList_store_list rfl 30 _ _ rfl P2 0 bs1 rfl rfl (HBf.out.there (by rw [HBL.out, HZL.out]; omega)) (by rw [HBL.out]; exact HI.out) HBO.out ?_); intro wg hwg; have HXg := hid (show Blk wg 30 P2 bs1 ∧ Below P2 we wg by rw [hwg]; exact ⟨by have h3 := Blk.setCells bs1 [] zs [] (o := 0) (by simpa using HBf.out) (by rw [HZL.out, HBL.out]) rfl; simpa using h3, below_setCells (by omega) _ _ Hbf.out⟩); clear hwg HBf Hbf))
  -- PART6
  have HDg := hid (show Blk wg 30 P1 as1 from HDe.out.later (by rw [HP2.out]; exact HXg.out.2))
  have HEg := hid HXg.out.1
  have HHg1 := hid (show RC wg va oy from HHe1.out.later (by rw [HP2.out]; exact HXg.out.2))
  have HHg2 := hid (show RC wg ve oy from (HHe.out.later (by rw [HP2.out]; exact HXg.out.2)).reads)
  have Hbg := hid (show Below L w wg from Hbe.out.trans (HXg.out.2.mono (by omega)))
  clear HXg HDe HHe1 HHe Hbe hsf hP2
  go_wp2_with (first
    | (show wpList _ _ _ (⟨some 58, Op.load _ _, _, _, _, _⟩ :: _) _ _; go_must (refine wpList_load_want9 (by first | rfl | go_simp) 30 _ rfl P1 0 rfl as1 _ (HDg.out.range fun j v hv => by rw [Nat.zero_add]; exact hv) Tryd.underlying30 rfl (by rw [HAL.out]; exact HI.out) ?_))
    | (show wpList _ _ _ (⟨some 59, Op.load _ _, _, _, _, _⟩ :: _) _ _; go_must (refine wpList_load_want9 (by first | rfl | go_simp) 30 _ rfl P2 0 rfl bs1 _ (HEg.out.range fun j v hv => by rw [Nat.zero_add]; exact hv) Tryd.underlying30 rfl (by rw [HBL.out]; exact HI.out) ?_)))
  -- CALL5
  rw [← HAS.out, ← HBS.out]
  have hLg : L < wg.heap.size := by have := HEg.out.lt; omega
  refine (mSame_eq y HY32.out va ve oy (by have := HYL.out; omega) _ HHg1.out HHg2.out).mono ?_
  rintro _ wh ⟨rfl, hbh⟩
  have Hbh := hid (show Below L w wh from Hbg.out.trans (hbh.mono (by omega)))
  clear hbh
  go_wp2_with fail
  go_ret
  exact ⟨rfl, by first | exact Hbh.out | (rw [hL]; exact Hbh.out)⟩

theorem sopens_row (w : World) (a0 : Option Addr) (l0 c0 : Nat) (z0 : List Int) (h0 : IsRow .u8 w a0 l0 c0 z0) (a1 : Option Addr) (n1 c1 : Nat) (z1 : List Int) (m : List UInt8) (hm : m.length = 32) (h1 : IsRow .u8 w a1 n1 c1 z1) (right : Bool) (ht : Tabs w) :
    Calls Tryd.prog 4 #[.slice a0 l0 c0, .agg (sgC (.slice a1 n1 c1) m).toArray, .bool right] w fun e w' => e = .returned (.bool true) ∧ Below w.heap.size w w' := by
  obtain ⟨key, k1, k2, k3⟩ := bytes_of_row h0
  obtain ⟨body, b1, b2, b3⟩ := bytes_of_row h1
  subst k1
  subst b1
  exact sopens_any key a0 _ c0 rfl (row_cap9 h0) (cap_row9 h0) a1 _ c1 body rfl (cap_row9 h1) b2 m hm right w ht k3 b3
end Go.Proofs.YtinifnpajkldbaaDoor

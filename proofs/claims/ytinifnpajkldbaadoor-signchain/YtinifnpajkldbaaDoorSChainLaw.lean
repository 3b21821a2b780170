/- The law SignChain: an entry's hash is over the one ahead, and all of it but the host's sign. -/
import Derived.Test.YtinifnpajkldbaaDoorQ9b44
import Derived.Test.YtinifnpajkldbaaDoorQ9b46
import Derived.Test.YtinifnpajkldbaaDoorMacRef
import Derived.Test.YtinifnpajkldbaaDoorSgEntry
import Derived.Deep.RegionHeld3
namespace Go.Proofs.YtinifnpajkldbaaDoor
open Go.RowKit
set_option linter.unusedSimpArgs false
set_option linter.unusedVariables false

theorem EnW.set_mac0 {w : World} {t : TypeId} {L : Nat} {e : En} {b o : Value} (h : EnW w t L e b o) (m0 x : UInt8) (mr : List UInt8) (hm : e.mac = m0 :: mr) : EnW (w.setCell ⟨L, 67, none⟩ (.int .u8 x.toNat)) t L ⟨e.m1, e.at_, e.hash, x :: mr⟩ b o := by
  refine ⟨⟨h.ok.h1, h.ok.h2, by have := h.ok.h3; rw [hm] at this; simpa using this⟩, ?_⟩
  have h3 := Blk.setCells (t := t) (g := L) [.int .u8 x.toNat] (([b] ++ B e.m1) ++ [.int .i64 e.at_, o] ++ B e.hash) [.int .u8 m0.toNat] (B mr) (w := w) (o := 67) (by have := h.blk; rw [En.cells, hm] at this; simpa only [B, List.map_cons, List.append_assoc, List.cons_append, List.nil_append] using this) rfl (by simp [B_length, h.ok.h1, h.ok.h2])
  have e1 : w.setCells L 67 [.int .u8 x.toNat] = w.setCell ⟨L, 67, none⟩ (.int .u8 x.toNat) := rfl
  rw [e1] at h3
  simpa only [En.cells, B, List.map_cons, List.append_assoc, List.cons_append, List.nil_append] using h3

set_option maxRecDepth 100000 in
set_option maxHeartbeats 16000000 in
theorem schain_any (key : List UInt8) (ko : Option Addr) (kl kc0 : Nat) (hkl : key.length = kl) (hklc : kl ≤ kc0) (hkc : kc0 ≤ maxLen) (ph : List UInt8) (hph : ph.length = 32) (sa : Option Addr) (n cap : Nat) (body : List UInt8) (hn : body.length = n) (hcap : cap ≤ maxLen) (hnb : n ≤ maxLen) (m : List UInt8) (hm : m.length = 32) (at0 host0 : Int) (w : World) (ht : Tabs w)
    (hkey : Reads w (.slice ko kl kc0) (B key)) (hb : Reads w (.slice sa n cap) (B body)) :
    Calls Tryd.prog 7 #[.slice ko kl kc0, .agg (B ph).toArray, .agg (sgC (.slice sa n cap) m).toArray, .int .i64 at0, .int .i64 host0] w fun e w' => e = .returned (.bool true) ∧ Below w.heap.size w w' := by
  obtain ⟨L, hL⟩ : ∃ L, w.heap.size = L := ⟨_, rfl⟩
  have hL2 : 2 ≤ L := by rw [← hL]; exact ht.two
  have HTB := hid (show ∀ wx, Below L w wx → Tabs wx from fun wx h => ht.below h hL2)
  have HRK := hid hkey
  have HRD := hid hb
  have HN := hid hn
  have HM := hid hm
  have HKL := hid hkl
  have HPH := hid hph
  obtain ⟨cs, hcs⟩ : ∃ cs, sgC (.slice sa n cap) m = cs := ⟨_, rfl⟩
  have HCS := hid hcs
  have HCL := hid (show cs.length = 33 by rw [← hcs]; exact sgC_len hm)
  obtain ⟨ps, hps⟩ : ∃ ps, B ph = ps := ⟨_, rfl⟩
  have HPS := hid hps
  have HPL := hid (show ps.length = 32 by rw [← hps, B_length, hph])
  obtain ⟨KY, hKY⟩ : ∃ KY, keyS key = KY := ⟨_, rfl⟩
  have HKY := hid hKY
  have HIH := hid (show (Tryd.prog.info? 26).map (·.size) = some 32 by kernel_rfl)
  have HIK := hid (show (Tryd.prog.info? 35).map (·.size) = some 3 by kernel_rfl)
  have HIS := hid (show (Tryd.prog.info? 40).map (·.size) = some 33 by kernel_rfl)
  have HIE := hid (show (Tryd.prog.info? 56).map (·.size) = some 99 by kernel_rfl)
  obtain ⟨zs, hzs⟩ : ∃ zs, En.zero.cells (.slice none 0 0) (.slice none 0 0) = zs := ⟨_, rfl⟩
  have HZ := hid (show (Tryd.prog.info? 56).bind (fun i => i.zero.map fun z => z.cells.toList) = some zs by rw [← hzs]; kernel_rfl)
  have HZL := hid (show zs.length = 99 by rw [← hzs]; exact En.len En.zero_ok)
  have HZK := hid (show (Tryd.prog.info? 35).bind (fun i => i.zero.map fun z => z.cells.toList) = some [.slice none 0 0, .slice none 0 0, .slice none 0 0] by kernel_rfl)
  have hnb2 : n ≤ 9223372036854775807 := hnb
  rw [hcs, hps]
  clear ht hkey hkl hcs hKY hzs hb hn hm hnb hph hps
  go_enter Tryd.func7, Tryd.ntmps7
  go_wp2_with (first
    | (show wpList _ _ _ (⟨some 6, Op.box _ _, _, _, _, _⟩ :: _) _ _; go_must (refine wpList_box_blk rfl 26 _ rfl ps rfl L hL ?_); intro w0 hB0 hb0 hs0; have HB0 := hid hB0; have Hb0 := hid hb0; clear hB0 hb0)
    | (show wpList _ _ _ (⟨some 7, Op.box _ _, _, _, _, _⟩ :: _) _ _; go_must (refine wpList_box_blk rfl 40 _ rfl cs rfl (L + 1) hs0 ?_); intro w1 hB1 hb1 hs1; have HB1 := hid hB1; have HA1 := hid (show Blk w1 26 L ps from HB0.out.kept (hb1.block L (by omega))); have Hb1 := hid (show Below L w w1 from Hb0.out.trans (hb1.mono (by omega))); clear hB1 hb1 HB0 Hb0 hs0))
  -- CALL0
  refine (known9_any _ (HTB.out _ Hb1.out)).mono ?_
  rintro _ w2 ⟨rfl, hb2⟩
  have HB2 := hid (HB1.out.later hb2)
  have HA2 := hid (HA1.out.later hb2)
  have Hb2 := hid (show Below L w w2 from Hb1.out.trans (hb2.mono (by omega)))
  clear hb2 HB1 HA1 Hb1 hs1
  have c2 : w2.cell? ⟨L + 1, 0, none⟩ = some (.slice sa n cap) := HB2.out.cell (by rw [← HCS.out]; rfl)
  by_cases h200 : 200 < n
  · have h200' : (200 : Int) < (n : Int) := by omega
    go_wp2_with fail
    go_ret
    exact ⟨rfl, by first | exact Hb2.out | (rw [hL]; exact Hb2.out)⟩
  have h200' : ¬ (200 : Int) < (n : Int) := by omega
  go_wp2_with fail
  -- CALL1
  refine (keys9_any key ko kl kc0 HKL.out hklc hkc _ (HRK.out.later (by rw [hL]; exact Hb2.out))).mono ?_
  rintro _ w3 ⟨ks, rfl, hKW, hK1, hKB, hb3⟩
  rw [HKY.out] at hKW
  have HKW3 := hid hKW
  have HK1 := hid hK1
  have hLs : L + 1 < w2.heap.size := HB2.out.lt
  have HB3 := hid (HB2.out.later hb3)
  have HA3 := hid (HA2.out.later hb3)
  have Hb3 := hid (show Below L w w3 from Hb2.out.trans (hb3.mono (by omega)))
  have HKL3 := hid hKW.len
  obtain ⟨G, hG⟩ : ∃ G, w3.heap.size = G := ⟨_, rfl⟩
  have HG := hid hG
  have hGL : L + 1 < G := by rw [← hG]; exact HB3.out.lt
  clear hKW hK1 hKB hb3 c2 HB2 HA2 Hb2 hLs
  go_upto_region 6 with (first
    | (show wpList _ _ _ (⟨some 11, Op.alloc _, _, _, _, _⟩ :: _) _ _; go_must (refine wpList_alloc_blk rfl 35 rfl _ HZK.out G hG ?_); intro w4 hB4 hb4 hs4; have HB4 := hid hB4; have Hb4 := hid hb4; clear hB4 hb4)
    | (show wpList _ _ _ (⟨none, Op.store _ (Operand.tmp 11) (Operand.tmp 21), _, _, _, _⟩ :: _) _ _; go_must (refine wpList_store_list rfl 35 _ _ rfl G 0 ks rfl rfl (HB4.out.there (by rw [HKL3.out]; simp)) (by rw [HKL3.out]; exact HIK.out) HK1.out ?_); intro w5 hw5; have HX5 := hid (show Blk w5 35 G ks ∧ Below G w3 w5 by rw [hw5]; exact ⟨by have h3 := Blk.setCells ks [] [.slice none 0 0, .slice none 0 0, .slice none 0 0] [] (o := 0) (by simpa using HB4.out) (by rw [HKL3.out]; rfl) rfl; simpa using h3, below_setCells (by omega) _ _ Hb4.out⟩); clear hw5 HB4 Hb4))
  -- PART2
  have HK5 := hid HX5.out.1
  have HB5 := hid (show Blk w5 40 (L + 1) cs from HB3.out.later (by rw [HG.out]; exact HX5.out.2))
  have HA5 := hid (show Blk w5 26 L ps from HA3.out.later (by rw [HG.out]; exact HX5.out.2))
  have HKW5 := hid (show KW w5 ks KY from HKW3.out.later (by rw [HG.out]; exact HX5.out.2))
  have Hb5 := hid (show Below L w w5 from Hb3.out.trans (HX5.out.2.mono (by omega)))
  have hG5 : G < w5.heap.size := HK5.out.lt
  clear HX5 HB3 HA3 HKW3 Hb3 hs4 hG HG
  obtain ⟨an, han⟩ : ∃ an : Nat, at0 % 1000 = (an : Int) := ⟨(at0 % 1000).toNat, by omega⟩
  obtain ⟨hn3, hhn⟩ : ∃ hn : Nat, host0 % 3 = (hn : Int) := ⟨(host0 % 3).toNat, by omega⟩
  have HAN := hid han
  have HHN := hid hhn
  have hh3 : hn3 < 3 := by omega
  have hh3' : (hn3 : Int) < 3 := by omega
  clear han hhn
  go_wp2_with fail
  refine (within9_any at0 1000 (by omega) (by omega) _).mono ?_
  rintro _ wz ⟨rfl, hwz⟩
  rw [hwz, HAN.out]
  clear hwz
  go_wp2_with fail
  refine (within9_any host0 3 (by omega) (by omega) _).mono ?_
  rintro _ wy ⟨rfl, hwy⟩
  rw [hwy, HHN.out]
  clear hwy
  have HRX := hid (show ∀ wx, Blk wx 26 L ps → wx.rangeAt L 0 ps from fun wx h => h.range fun j v hv => by rw [Nat.zero_add]; exact hv)
  go_wp2_with (first
    | (show wpList _ _ _ (⟨some 26, Op.load _ _, _, _, _, _⟩ :: _) _ _; go_must (refine wpList_load_mid rfl 35 _ rfl G 0 rfl ks _ (HK5.out.range fun j v hv => by rw [Nat.zero_add]; exact hv) Tryd.underlying35 rfl (by rw [HKL3.out]; exact HIK.out) ?_))
    | (show wpList _ _ _ (⟨some 28, Op.load _ _, _, _, _, _⟩ :: _) _ _; go_must (refine wpList_load_mid rfl 26 _ rfl L 0 rfl ps _ (HRX.out _ HA5.out) Tryd.underlying26 rfl (by rw [HPL.out]; exact HIH.out) ?_))
    | (show wpList _ _ _ (⟨some 29, Op.load _ _, _, _, _, _⟩ :: _) _ _; go_must (refine wpList_load_mid rfl 40 _ rfl (L + 1) 0 rfl cs _ (HB5.out.range fun j v hv => by rw [Nat.zero_add]; exact hv) Tryd.underlying40 rfl (by rw [HCL.out]; exact HIS.out) ?_)))
  -- CALL2
  have HCE := hid (show ∀ wx, Tabs wx → KW wx ks KY → Reads wx (.slice sa n cap) (B body) → Calls Tryd.prog 22 #[.agg ks.toArray, .int .i64 (hn3 : Int), .agg ps.toArray, .agg cs.toArray, .int .i64 (an : Int), .slice none 0 0] wx fun x w' => ∃ a c a2 c2, x = .returned (.agg ((madeE (KY hn3) ph m an body []).cells (.slice a n c) (.slice a2 0 c2)).toArray) ∧ Reads w' (.slice a n c) (B body) ∧ RC w' (.slice a2 0 c2) [] ∧ Below wx.heap.size wx w' from fun wx h1 h2 h3 => by
    rw [← HPS.out, ← HCS.out]
    refine (sEntry_any ks KY hn3 hh3 ph HPH.out m HM.out sa n cap body HN.out (by omega) hcap an (.slice none 0 0) [] wx h1 h2 h3 (RC.nil _) few0).mono ?_
    rintro _ w' ⟨a, c, v', rfl, g1, g2, g3⟩
    obtain ⟨a2, c2, rfl⟩ := g2.form
    exact ⟨a, c, a2, c2, rfl, g1, g2.reads, g3⟩)
  refine (HCE.out _ (HTB.out _ Hb5.out) HKW5.out (HRD.out.later (by rw [hL]; exact Hb5.out))).mono ?_
  rintro _ w6 ⟨ea, ec, oa, oc, rfl, hR6, hC6, hb6⟩
  obtain ⟨en, hen⟩ : ∃ en, madeE (KY hn3) ph m an body [] = en := ⟨_, rfl⟩
  rw [hen]
  have HOK := hid (show en.Ok by rw [← hen]; exact ⟨HM.out, shaS_len _, macS_len _ _⟩)
  have HEN := hid hen
  obtain ⟨es, hes⟩ : ∃ es, en.cells (.slice ea n ec) (.slice oa 0 oc) = es := ⟨_, rfl⟩
  rw [hes]
  have HES := hid hes
  have HEL := hid (show es.length = 99 by rw [← hes]; exact En.len HOK.out)
  have HEO := hid (show ∀ v ∈ es, v.oneCell' = true by rw [← hes]; exact En.one rfl rfl)
  have HRE6 := hid hR6
  have HC6 := hid hC6
  have HK6 := hid (HK5.out.later hb6)
  have HB6 := hid (HB5.out.later hb6)
  have HA6 := hid (HA5.out.later hb6)
  have HKW6 := hid (HKW5.out.later hb6)
  have Hb6 := hid (show Below L w w6 from Hb5.out.trans (hb6.mono (by omega)))
  have hz6 : w5.heap.size ≤ w6.heap.size := hb6.size
  obtain ⟨E, hE⟩ : ∃ E, w6.heap.size = E := ⟨_, rfl⟩
  have HE := hid hE
  have hEG : G < E := by omega
  clear hen hes hR6 hC6 hb6 HK5 HB5 HA5 HKW5 Hb5 hG5 hz6 HCE
  go_upto_region 9 with (first
    | (show wpList _ _ _ (⟨some 12, Op.alloc _, _, _, _, _⟩ :: _) _ _; go_must (refine wpList_alloc_blk rfl 56 rfl _ HZ.out E hE ?_); intro w7 hB7 hb7 hs7; have HB7 := hid hB7; have Hb7 := hid hb7; clear hB7 hb7)
    | (show wpList _ _ _ (⟨none, Op.store _ (Operand.tmp 12) (Operand.tmp 31), _, _, _, _⟩ :: _) _ _; go_must (refine wpList_store_list rfl 56 _ _ rfl E 0 es rfl rfl (HB7.out.there (by rw [HEL.out, HZL.out]; omega)) (by rw [HEL.out]; exact HIE.out) HEO.out ?_); intro w8 hw8; have hs8 : w8.heap.size = E + 1 := (congrArg (fun u => u.heap.size) hw8).trans ((setCells_sz9 _ _ _).trans hs7); have HX8 := hid (show Blk w8 56 E es ∧ Below E w6 w8 by rw [hw8]; exact ⟨by have h3 := Blk.setCells es [] zs [] (o := 0) (by simpa using HB7.out) (by rw [HZL.out, HEL.out]) rfl; simpa using h3, below_setCells (by omega) _ _ Hb7.out⟩); clear hw8 HB7 Hb7 hs7)
    | (show wpList _ _ _ (⟨some 32, Op.load _ _, _, _, _, _⟩ :: _) _ _; go_must (refine wpList_load_mid rfl 56 _ rfl E 0 rfl es _ (HX8.out.1.range fun j v hv => by rw [Nat.zero_add]; exact hv) Tryd.underlying56 rfl (by rw [HEL.out]; exact HIE.out) ?_))
    | (show wpList _ _ _ (⟨some 13, Op.alloc _, _, _, _, _⟩ :: _) _ _; go_must (refine wpList_alloc_blk rfl 56 rfl _ HZ.out (E + 1) hs8 ?_); intro w9 hB9 hb9 hs9; have HB9 := hid hB9; have Hb9 := hid hb9; clear hB9 hb9)
    | (show wpList _ _ _ (⟨none, Op.store _ (Operand.tmp 13) (Operand.tmp 32), _, _, _, _⟩ :: _) _ _; go_must (refine wpList_store_list rfl 56 _ _ rfl (E + 1) 0 es rfl rfl (HB9.out.there (by rw [HEL.out, HZL.out]; omega)) (by rw [HEL.out]; exact HIE.out) HEO.out ?_); intro wa hwa; have HXa := hid (show Blk wa 56 (E + 1) es ∧ Below (E + 1) w8 wa by rw [hwa]; exact ⟨by have h3 := Blk.setCells es [] zs [] (o := 0) (by simpa using HB9.out) (by rw [HZL.out, HEL.out]) rfl; simpa using h3, below_setCells (by omega) _ _ Hb9.out⟩); clear hwa HB9 Hb9 hs9))
  -- PART3
  have hsE : E + 1 < wa.heap.size := HXa.out.1.lt
  have HFa := hid (show EnW wa 56 (E + 1) en (.slice ea n ec) (.slice oa 0 oc) from ⟨HOK.out, by rw [HES.out]; exact HXa.out.1⟩)
  have HBW0 := hid (show Below E w6 wa from HX8.out.2.trans (HXa.out.2.mono (by omega)))
  have HEa := hid (show Blk wa 56 E es from HX8.out.1.kept (HXa.out.2.block E (by omega)))
  obtain ⟨m0, mr, hmr⟩ : ∃ m0 mr, en.mac = m0 :: mr := by
    have := HOK.out.h3
    cases h : en.mac with
    | nil => rw [h] at this; simp at this
    | cons a b => exact ⟨a, b, rfl⟩
  have HMR := hid hmr
  have c67 : wa.cell? ⟨E + 1, 67, none⟩ = some (.int .u8 m0.toNat) := by
    have := HFa.out.mac 0 (.int .u8 m0.toNat) (by rw [hmr]; rfl)
    exact this
  have fr := HFa.out.frozen 67
  obtain ⟨x0, hx0⟩ : ∃ x : UInt8, m0 ^^^ 1 = x := ⟨_, rfl⟩
  have hxx : bits .xor .u8 (m0.toNat : Int) 1 = (x0.toNat : Int) := by rw [← hx0]; exact bxor m0 1
  have HFb := hid (HFa.out.set_mac0 m0 x0 mr HMR.out)
  have HEb := hid (show Blk (wa.setCell ⟨E + 1, 67, none⟩ (.int .u8 x0.toNat)) 56 E es from HEa.out.kept (heap_setCell_other _ _ _ _ (by show E ≠ E + 1; omega)))
  have HBW := hid (show Below E w6 (wa.setCell ⟨E + 1, 67, none⟩ (.int .u8 x0.toNat)) from HBW0.out.setCell (show E ≤ E + 1 by omega) _)
  have hszb : (wa.setCell ⟨E + 1, 67, none⟩ (.int .u8 x0.toNat)).heap.size = wa.heap.size := by simp
  clear hmr hx0 HX8 HXa HBW0 HFa HEa hE hs8
  go_upto_region 10 with fail
  -- REGION10
  clear c67 fr hxx
  generalize wa.setCell ⟨E + 1, 67, none⟩ (.int .u8 x0.toNat) = wb at *
  obtain ⟨fn, hfn⟩ : ∃ fn : En, (⟨en.m1, en.at_, en.hash, x0 :: mr⟩ : En) = fn := ⟨_, rfl⟩
  have HFN := hid hfn
  rw [hfn] at HFb
  obtain ⟨fs, hfs⟩ : ∃ fs, fn.cells (.slice ea n ec) (.slice oa 0 oc) = fs := ⟨_, rfl⟩
  have HFS := hid hfs
  have HFL := hid (show fs.length = 99 by rw [← hfs]; exact En.len HFb.out.ok)
  have HFOK := hid HFb.out.ok
  obtain ⟨T, hT⟩ : ∃ T, wb.drew.heap.size = T := ⟨_, rfl⟩
  have HTS := hid hT
  have hTE : E + 1 < T := by rw [← hT]; show E + 1 < wb.heap.size; omega
  have hB6 : Below w6.heap.size w6 wb.drew := by rw [HE.out]; exact HBW.out.drew
  have HS := hid (show HK L T w [(56, E + 1, fs), (56, E, es), (35, G, ks), (40, L + 1, cs), (26, L, ps)] wb.drew ∧ Below T wb.drew wb.drew from
    ⟨HK.cons (HK.cons (HK.cons (HK.cons (HK.cons (HK.nil (by omega) (Hb6.out.trans (hB6.mono (by have := HE.out; omega))) (by omega)) (HA6.out.later hB6) (by omega)) (HB6.out.later hB6) (by omega)) (HK6.out.later hB6) (by omega)) (HEb.out.drewN 1) (by omega)) (by rw [← HFS.out]; exact HFb.out.blk.drewN 1) (by omega), Below.refl _ _⟩)
  have HRE := hid (HRE6.out.later hB6)
  have HCO := hid (HC6.out.later hB6)
  have HRB := hid (show Reads wb.drew (.slice sa n cap) (B body) from HRD.out.later (by rw [hL]; exact (Hb6.out.trans (hB6.mono (by have := HE.out; omega)))))
  obtain ⟨ka, kn, kc, k1, k2, k3, k4, k5⟩ := (HKW6.out.later hB6).get hn3 hh3
  have HKJ := hid k1
  have HKN := hid k2
  have HK2 := hid k3
  have HKR := hid k5
  obtain ⟨core, hcore⟩ : ∃ core, coreB en body [] = core := ⟨_, rfl⟩
  obtain ⟨N, hN⟩ : ∃ N, coreN body.length [] = N := ⟨_, rfl⟩
  have HNL := hid (show core.length = N by rw [← hcore, ← hN]; exact coreB_len HOK.out body [])
  have hN2 : N ≤ 8600 := by rw [← hN, coreN, HN.out]; have := few0.le; omega
  have hbl : body.length ≤ 400 := by rw [HN.out]; omega
  have HHASH := hid (show en.hash = shaS (ph ++ core) by rw [← hcore, ← HEN.out]; rfl)
  have HMAC := hid (show en.mac = macS (KY hn3) (core ++ en.hash) by rw [← hcore, ← HEN.out]; rfl)
  have HAT := hid (show en.at_ = (an : Int) by rw [← HEN.out]; rfl)
  have HM1 := hid (show en.m1 = m by rw [← HEN.out]; rfl)
  have HCF := hid (show coreB fn body [] = core by rw [← hcore, ← HFN.out]; rfl)
  obtain ⟨hhs, hhhs⟩ : ∃ hs, B en.hash = hs := ⟨_, rfl⟩
  have HHS := hid hhhs
  have HHL := hid (show hhs.length = 32 by rw [← hhhs, B_length, HOK.out.h2])
  obtain ⟨mcs, hmcs⟩ : ∃ hs, B en.mac = hs := ⟨_, rfl⟩
  have HMCS := hid hmcs
  have HMCL := hid (show mcs.length = 32 by rw [← hmcs, B_length, HOK.out.h3])
  obtain ⟨ms, hms⟩ : ∃ hs, B m = hs := ⟨_, rfl⟩
  have HMS := hid hms
  have HML := hid (show ms.length = 32 by rw [← hms, B_length, HM.out])
  have HEW := hid (show ∀ wx, Blk wx 56 E es → EnW wx 56 E en (.slice ea n ec) (.slice oa 0 oc) from fun wx h => ⟨HOK.out, by rw [HES.out]; exact h⟩)
  have HGN := hid (show ∀ wx, Below T wb.drew wx → Calls Tryd.prog 30 #[.agg ps.toArray, .agg es.toArray] wx (fun x w' => x = .returned (.agg hhs.toArray) ∧ Below wx.heap.size wx w') from fun wx h => by
    have := gNext_any ph HPH.out en HOK.out (.slice ea n ec) (.slice oa 0 oc) body [] wx (HRE.out.later (by rw [HTS.out]; exact h)) hbl (HCO.out.later (by rw [HTS.out]; exact h)) few0
    rw [HPS.out, HES.out, hcore, ← HHASH.out, hhhs] at this
    exact this)
  have HGC := hid (show ∀ wx, Below T wb.drew wx → Calls Tryd.prog 26 #[.agg es.toArray] wx (fun x w' => ∃ g cap, x = .returned (.slice (some ⟨g, 0, none⟩) N cap) ∧ wx.heap.size ≤ g ∧ Owns w' 5 g cap N (B core) ∧ Below wx.heap.size wx w') from fun wx h => by
    have := gCore_any en HOK.out (.slice ea n ec) (.slice oa 0 oc) body [] wx (HRE.out.later (by rw [HTS.out]; exact h)) hbl (HCO.out.later (by rw [HTS.out]; exact h)) few0
    rw [HES.out, hcore, hN] at this
    exact this)
  have HSC := hid (show ∀ wx, Below T wb.drew wx → Calls Tryd.prog 25 #[.agg es.toArray] wx (fun x w' => ∃ a n c, x = .returned (.slice a n c) ∧ Reads w' (.slice a n c) (B core) ∧ Below wx.heap.size wx w') from fun wx h => by
    refine (show Calls Tryd.prog 25 #[.agg es.toArray] wx _ from by rw [← HES.out]; exact sCore_any en HOK.out (.slice ea n ec) (.slice oa 0 oc) body [] wx (HRE.out.later (by rw [HTS.out]; exact h)) hbl (HCO.out.later (by rw [HTS.out]; exact h)) few0).mono ?_
    rintro _ w' ⟨a, n, c, rfl, _, _, h4, h5⟩
    rw [hcore] at h4
    exact ⟨a, n, c, rfl, h4, h5⟩)
  have HSF := hid (show ∀ wx, Below T wb.drew wx → Calls Tryd.prog 25 #[.agg fs.toArray] wx (fun x w' => ∃ a n c, x = .returned (.slice a n c) ∧ Reads w' (.slice a n c) (B core) ∧ Below wx.heap.size wx w') from fun wx h => by
    refine (show Calls Tryd.prog 25 #[.agg fs.toArray] wx _ from by rw [← HFS.out]; exact sCore_any fn HFOK.out (.slice ea n ec) (.slice oa 0 oc) body [] wx (HRE.out.later (by rw [HTS.out]; exact h)) hbl (HCO.out.later (by rw [HTS.out]; exact h)) few0).mono ?_
    rintro _ w' ⟨a, n, c, rfl, _, _, h4, h5⟩
    rw [HCF.out] at h4
    exact ⟨a, n, c, rfl, h4, h5⟩)
  obtain ⟨SC, hSC⟩ : ∃ S : ByteArray, (⟨core.toArray⟩ : ByteArray) = S := ⟨_, rfl⟩
  have HST := hid (show ∀ wx v, Reads wx v (B core) → (convert 22 9 v).run Tryd.prog wx = .ok (.string SC) wx from fun wx v h => by rw [← hSC]; exact run_string (P := Tryd.prog) wx 22 9 5 Tryd.underlying22 Tryd.underlying5 Tryd.underlying9 h)
  obtain ⟨SB, hSB⟩ : ∃ S : ByteArray, (⟨body.toArray⟩ : ByteArray) = S := ⟨_, rfl⟩
  have HSB := hid (show ∀ wx v, Reads wx v (B body) → (convert 22 9 v).run Tryd.prog wx = .ok (.string SB) wx from fun wx v h => by rw [← hSB]; exact run_string (P := Tryd.prog) wx 22 9 5 Tryd.underlying22 Tryd.underlying5 Tryd.underlying9 h)
  have HQ1 := hid (show ∀ wx, (Op.equalIn 10000 26 (.agg hhs.toArray) (.agg hhs.toArray)).run Tryd.prog wx = .ok true wx from fun wx => by rw [← hhhs, equal_hash9 wx _ _ HOK.out.h2 HOK.out.h2]; simp)
  have HQ2 := hid (show ∀ wx, (Op.equalIn 10000 26 (.agg mcs.toArray) (.agg mcs.toArray)).run Tryd.prog wx = .ok true wx from fun wx => by rw [← hmcs, equal_hash9 wx _ _ HOK.out.h3 HOK.out.h3]; simp)
  have HQ3 := hid (show ∀ wx, (Op.equalIn 10000 26 (.agg ms.toArray) (.agg ms.toArray)).run Tryd.prog wx = .ok true wx from fun wx => by rw [← hms, equal_hash9 wx _ _ HM.out HM.out]; simp)
  obtain ⟨i0, hi, hi0, hi1, hi2⟩ := info_parts Tryd.infoByte
  clear hfn hfs hT hB6 k1 k2 k3 k4 k5 hcore hN hhhs hmcs hms hSC hSB HRE6 HC6 HK6 HB6 HA6 HKW6 Hb6 HEb HFb HBW hszb hsE HE
  -- WALK10
  refine wp_region_held_drew (S := fun w' => HK L T w [(56, E + 1, fs), (56, E, es), (35, G, ks), (40, L + 1, cs), (26, L, ps)] w' ∧ Below T wb.drew w') (by kernel_rfl) (HS.out) (fun hHeld => ?_)
  refine wpAnyH_take (i := 0) (v := .pointer (some ⟨E, 35, none⟩)) rfl (by kernel_rfl) (by kernel_rfl) (by kernel_rfl) (fun _ _ _ h => h) (Or.inl ⟨by rfl, by intro w hSw; go_simp⟩) hHeld ?_
  try simp only [Act.put, List.setIfInBounds_toArray, List.set_cons_zero, List.set_cons_succ, List.getElem_toArray, List.getElem_cons_zero, List.getElem_cons_succ]
  refine wpAnyH_take (i := 1) (v := _) rfl (by kernel_rfl) (by kernel_rfl) (by kernel_rfl) (fun _ _ _ h => h) (yieldsIf_load_mid (by rfl) _ _ rfl _ _ rfl hhs _ (fun w hSw => (show _ from by rw [← HHS.out]; exact (HEW.out _ hSw.1.tl.fst).hash)) Tryd.underlying26 rfl (by rw [HHL.out]; exact HIH.out)) hHeld ?_
  try simp only [Act.put, List.setIfInBounds_toArray, List.set_cons_zero, List.set_cons_succ, List.getElem_toArray, List.getElem_cons_zero, List.getElem_cons_succ]
  refine wpAnyH_take (i := 2) (v := _) rfl (by kernel_rfl) (by kernel_rfl) (by kernel_rfl) (fun _ _ _ h => h) (yieldsIf_load_mid (by rfl) _ _ rfl _ _ rfl ps _ (fun w hSw => (hSw.1.tl.tl.tl.tl.fst.range fun j v hv => by rw [Nat.zero_add]; exact hv)) Tryd.underlying26 rfl (by rw [HPL.out]; exact HIH.out)) hHeld ?_
  try simp only [Act.put, List.setIfInBounds_toArray, List.set_cons_zero, List.set_cons_succ, List.getElem_toArray, List.getElem_cons_zero, List.getElem_cons_succ]
  refine wpAnyH_take (i := 3) (v := _) rfl (by kernel_rfl) (by kernel_rfl) (by kernel_rfl) (fun _ _ _ h => h) (yieldsIf_load_mid (by rfl) _ _ rfl _ _ rfl es _ (fun w hSw => (hSw.1.tl.fst.range fun j v hv => by rw [Nat.zero_add]; exact hv)) Tryd.underlying56 rfl (by rw [HEL.out]; exact HIE.out)) hHeld ?_
  try simp only [Act.put, List.setIfInBounds_toArray, List.set_cons_zero, List.set_cons_succ, List.getElem_toArray, List.getElem_cons_zero, List.getElem_cons_succ]
  refine wpAnyH_ready (rs := [4]) (by kernel_rfl) (by simp) ?_
  refine AllReadyH.cons rfl (fun K hK => ?_) AllReadyH.nil
  go_simp
  refine (HGN.out _ hHeld.2).mono ?_
  rintro _ z1 ⟨rfl, hb1⟩
  refine hK.out _ _ (⟨hHeld.1.later hb1, hHeld.2.trans (hb1.mono hHeld.1.size)⟩) (fun hHeld => ?_)
  clear hK K
  try simp only [Act.put, List.setIfInBounds_toArray, List.set_cons_zero, List.set_cons_succ, List.getElem_toArray, List.getElem_cons_zero, List.getElem_cons_succ]
  clear hb1
  refine wpAnyH_take (i := 5) (v := .bool true) rfl (by kernel_rfl) (by kernel_rfl) (by kernel_rfl) (fun _ _ _ h => h) (Or.inl ⟨by rfl, by intro w hSw; have q := HQ1.out w; go_simp⟩) hHeld ?_
  try simp only [Act.put, List.setIfInBounds_toArray, List.set_cons_zero, List.set_cons_succ, List.getElem_toArray, List.getElem_cons_zero, List.getElem_cons_succ]
  refine wpAnyH_take (i := 6) (v := .bool true) rfl (by kernel_rfl) (by kernel_rfl) (by kernel_rfl) (fun _ _ _ h => h) (Or.inl ⟨by rfl, by intro w hSw; go_simp⟩) hHeld ?_
  try simp only [Act.put, List.setIfInBounds_toArray, List.set_cons_zero, List.set_cons_succ, List.getElem_toArray, List.getElem_cons_zero, List.getElem_cons_succ]
  refine wpAnyH_take (i := 7) (v := _) rfl (by kernel_rfl) (by kernel_rfl) (by kernel_rfl) (fun _ _ _ h => h) (yieldsIf_load_mid (by rfl) _ _ rfl _ _ rfl es _ (fun w hSw => (hSw.1.tl.fst.range fun j v hv => by rw [Nat.zero_add]; exact hv)) Tryd.underlying56 rfl (by rw [HEL.out]; exact HIE.out)) hHeld ?_
  try simp only [Act.put, List.setIfInBounds_toArray, List.set_cons_zero, List.set_cons_succ, List.getElem_toArray, List.getElem_cons_zero, List.getElem_cons_succ]
  refine wpAnyH_take (i := 10) (v := _) rfl (by kernel_rfl) (by kernel_rfl) (by kernel_rfl) (fun _ _ _ h => h) (yieldsIf_load_mid (by rfl) _ _ rfl _ _ rfl fs _ (fun w hSw => (hSw.1.fst.range fun j v hv => by rw [Nat.zero_add]; exact hv)) Tryd.underlying56 rfl (by rw [HFL.out]; exact HIE.out)) hHeld ?_
  try simp only [Act.put, List.setIfInBounds_toArray, List.set_cons_zero, List.set_cons_succ, List.getElem_toArray, List.getElem_cons_zero, List.getElem_cons_succ]
  refine wpAnyH_ready (rs := [8]) (by kernel_rfl) (by simp) ?_
  refine AllReadyH.cons rfl (fun K hK => ?_) AllReadyH.nil
  go_simp
  refine (HSC.out _ hHeld.2).mono ?_
  rintro _ z2 ⟨a8, n8, c8, rfl, hr8, hb8⟩
  refine hK.out _ _ (⟨hHeld.1.later hb8, hHeld.2.trans (hb8.mono hHeld.1.size)⟩) (fun hHeld => ?_)
  clear hK K
  try simp only [Act.put, List.setIfInBounds_toArray, List.set_cons_zero, List.set_cons_succ, List.getElem_toArray, List.getElem_cons_zero, List.getElem_cons_succ]
  have HR8 := hid hr8
  clear hr8 hb8
  refine wpAnyH_strong (S' := fun w' => (HK L T w [(56, E + 1, fs), (56, E, es), (35, G, ks), (40, L + 1, cs), (26, L, ps)] w' ∧ Below T wb.drew w') ∧ Below z2.heap.size z2 w') (fun _ h => h.1) _ _ _ _ ?_
  replace hHeld := And.intro hHeld (Below.refl z2.heap.size z2)
  refine wpAnyH_take (i := 9) (v := .string SC) rfl (by kernel_rfl) (by kernel_rfl) (by kernel_rfl) (fun _ _ _ h => h) (Or.inl ⟨by rfl, by intro w hSw; have q := HST.out _ _ (HR8.out.later hSw.2); go_simp⟩) hHeld ?_
  try simp only [Act.put, List.setIfInBounds_toArray, List.set_cons_zero, List.set_cons_succ, List.getElem_toArray, List.getElem_cons_zero, List.getElem_cons_succ]
  refine wpAnyH_ready (rs := [11]) (by kernel_rfl) (by simp) ?_
  refine AllReadyH.cons rfl (fun K hK => ?_) AllReadyH.nil
  go_simp
  refine (HSF.out _ hHeld.1.2).mono ?_
  rintro _ z3 ⟨a11, n11, c11, rfl, hr11, hb11⟩
  refine hK.out _ _ (⟨⟨hHeld.1.1.later hb11, hHeld.1.2.trans (hb11.mono hHeld.1.1.size)⟩, hHeld.2.trans (hb11.mono hHeld.2.size)⟩) (fun hHeld => ?_)
  clear hK K
  try simp only [Act.put, List.setIfInBounds_toArray, List.set_cons_zero, List.set_cons_succ, List.getElem_toArray, List.getElem_cons_zero, List.getElem_cons_succ]
  have HR11 := hid hr11
  clear hr11 hb11
  refine wpAnyH_strong (S' := fun w' => ((HK L T w [(56, E + 1, fs), (56, E, es), (35, G, ks), (40, L + 1, cs), (26, L, ps)] w' ∧ Below T wb.drew w') ∧ Below z2.heap.size z2 w') ∧ Below z3.heap.size z3 w') (fun _ h => h.1) _ _ _ _ ?_
  replace hHeld := And.intro hHeld (Below.refl z3.heap.size z3)
  refine wpAnyH_take (i := 12) (v := .string SC) rfl (by kernel_rfl) (by kernel_rfl) (by kernel_rfl) (fun _ _ _ h => h) (Or.inl ⟨by rfl, by intro w hSw; have q := HST.out _ _ (HR11.out.later hSw.2); go_simp⟩) hHeld ?_
  try simp only [Act.put, List.setIfInBounds_toArray, List.set_cons_zero, List.set_cons_succ, List.getElem_toArray, List.getElem_cons_zero, List.getElem_cons_succ]
  refine wpAnyH_take (i := 13) (v := .bool true) rfl (by kernel_rfl) (by kernel_rfl) (by kernel_rfl) (fun _ _ _ h => h) (Or.inl ⟨by rfl, by intro w hSw; go_simp⟩) hHeld ?_
  try simp only [Act.put, List.setIfInBounds_toArray, List.set_cons_zero, List.set_cons_succ, List.getElem_toArray, List.getElem_cons_zero, List.getElem_cons_succ]
  refine wpAnyH_take (i := 14) (v := .bool true) rfl (by kernel_rfl) (by kernel_rfl) (by kernel_rfl) (fun _ _ _ h => h) (Or.inl ⟨by rfl, by intro w hSw; go_simp⟩) hHeld ?_
  try simp only [Act.put, List.setIfInBounds_toArray, List.set_cons_zero, List.set_cons_succ, List.getElem_toArray, List.getElem_cons_zero, List.getElem_cons_succ]
  refine wpAnyH_take (i := 15) (v := .bool true) rfl (by kernel_rfl) (by kernel_rfl) (by kernel_rfl) (fun _ _ _ h => h) (Or.inl ⟨by rfl, by intro w hSw; go_simp⟩) hHeld ?_
  try simp only [Act.put, List.setIfInBounds_toArray, List.set_cons_zero, List.set_cons_succ, List.getElem_toArray, List.getElem_cons_zero, List.getElem_cons_succ]
  refine wpAnyH_take (i := 16) (v := .pointer (some ⟨E, 33, none⟩)) rfl (by kernel_rfl) (by kernel_rfl) (by kernel_rfl) (fun _ _ _ h => h) (Or.inl ⟨by rfl, by intro w hSw; go_simp⟩) hHeld ?_
  try simp only [Act.put, List.setIfInBounds_toArray, List.set_cons_zero, List.set_cons_succ, List.getElem_toArray, List.getElem_cons_zero, List.getElem_cons_succ]
  refine wpAnyH_take (i := 17) (v := .int .i64 (an : Int)) rfl (by kernel_rfl) (by kernel_rfl) (by kernel_rfl) (fun _ _ _ h => h) (Or.inl ⟨by rfl, by intro w hSw; have q : w.cell? ⟨E, 33, none⟩ = some (.int .i64 (an : Int)) := (by rw [← HAT.out]; exact (HEW.out _ hSw.1.1.1.tl.fst).at_); go_simp⟩) hHeld ?_
  try simp only [Act.put, List.setIfInBounds_toArray, List.set_cons_zero, List.set_cons_succ, List.getElem_toArray, List.getElem_cons_zero, List.getElem_cons_succ]
  refine wpAnyH_take (i := 18) (v := .int .i64 (an : Int)) rfl (by kernel_rfl) (by kernel_rfl) (by kernel_rfl) (fun _ _ _ h => h) (Or.inl ⟨by rfl, by intro w hSw; go_simp⟩) hHeld ?_
  try simp only [Act.put, List.setIfInBounds_toArray, List.set_cons_zero, List.set_cons_succ, List.getElem_toArray, List.getElem_cons_zero, List.getElem_cons_succ]
  refine wpAnyH_take (i := 19) (v := .bool true) rfl (by kernel_rfl) (by kernel_rfl) (by kernel_rfl) (fun _ _ _ h => h) (Or.inl ⟨by rfl, by intro w hSw; go_simp⟩) hHeld ?_
  try simp only [Act.put, List.setIfInBounds_toArray, List.set_cons_zero, List.set_cons_succ, List.getElem_toArray, List.getElem_cons_zero, List.getElem_cons_succ]
  refine wpAnyH_take (i := 20) (v := .bool true) rfl (by kernel_rfl) (by kernel_rfl) (by kernel_rfl) (fun _ _ _ h => h) (Or.inl ⟨by rfl, by intro w hSw; go_simp⟩) hHeld ?_
  try simp only [Act.put, List.setIfInBounds_toArray, List.set_cons_zero, List.set_cons_succ, List.getElem_toArray, List.getElem_cons_zero, List.getElem_cons_succ]
  refine wpAnyH_take (i := 21) (v := .bool true) rfl (by kernel_rfl) (by kernel_rfl) (by kernel_rfl) (fun _ _ _ h => h) (Or.inl ⟨by rfl, by intro w hSw; go_simp⟩) hHeld ?_
  try simp only [Act.put, List.setIfInBounds_toArray, List.set_cons_zero, List.set_cons_succ, List.getElem_toArray, List.getElem_cons_zero, List.getElem_cons_succ]
  refine wpAnyH_take (i := 22) (v := .pointer (some ⟨E, 34, none⟩)) rfl (by kernel_rfl) (by kernel_rfl) (by kernel_rfl) (fun _ _ _ h => h) (Or.inl ⟨by rfl, by intro w hSw; go_simp⟩) hHeld ?_
  try simp only [Act.put, List.setIfInBounds_toArray, List.set_cons_zero, List.set_cons_succ, List.getElem_toArray, List.getElem_cons_zero, List.getElem_cons_succ]
  refine wpAnyH_take (i := 23) (v := .slice oa 0 oc) rfl (by kernel_rfl) (by kernel_rfl) (by kernel_rfl) (fun _ _ _ h => h) (Or.inl ⟨by rfl, by intro w hSw; have q := (HEW.out _ hSw.1.1.1.tl.fst).op; go_simp⟩) hHeld ?_
  try simp only [Act.put, List.setIfInBounds_toArray, List.set_cons_zero, List.set_cons_succ, List.getElem_toArray, List.getElem_cons_zero, List.getElem_cons_succ]
  refine wpAnyH_take (i := 24) (v := .int .i64 0) rfl (by kernel_rfl) (by kernel_rfl) (by kernel_rfl) (fun _ _ _ h => h) (Or.inl ⟨by rfl, by intro w hSw; go_simp⟩) hHeld ?_
  try simp only [Act.put, List.setIfInBounds_toArray, List.set_cons_zero, List.set_cons_succ, List.getElem_toArray, List.getElem_cons_zero, List.getElem_cons_succ]
  refine wpAnyH_take (i := 25) (v := .bool true) rfl (by kernel_rfl) (by kernel_rfl) (by kernel_rfl) (fun _ _ _ h => h) (Or.inl ⟨by rfl, by intro w hSw; go_simp⟩) hHeld ?_
  try simp only [Act.put, List.setIfInBounds_toArray, List.set_cons_zero, List.set_cons_succ, List.getElem_toArray, List.getElem_cons_zero, List.getElem_cons_succ]
  refine wpAnyH_take (i := 26) (v := .bool true) rfl (by kernel_rfl) (by kernel_rfl) (by kernel_rfl) (fun _ _ _ h => h) (Or.inl ⟨by rfl, by intro w hSw; go_simp⟩) hHeld ?_
  try simp only [Act.put, List.setIfInBounds_toArray, List.set_cons_zero, List.set_cons_succ, List.getElem_toArray, List.getElem_cons_zero, List.getElem_cons_succ]
  refine wpAnyH_take (i := 27) (v := .bool true) rfl (by kernel_rfl) (by kernel_rfl) (by kernel_rfl) (fun _ _ _ h => h) (Or.inl ⟨by rfl, by intro w hSw; go_simp⟩) hHeld ?_
  try simp only [Act.put, List.setIfInBounds_toArray, List.set_cons_zero, List.set_cons_succ, List.getElem_toArray, List.getElem_cons_zero, List.getElem_cons_succ]
  refine wpAnyH_take (i := 28) (v := .pointer (some ⟨E, 0, none⟩)) rfl (by kernel_rfl) (by kernel_rfl) (by kernel_rfl) (fun _ _ _ h => h) (Or.inl ⟨by rfl, by intro w hSw; go_simp⟩) hHeld ?_
  try simp only [Act.put, List.setIfInBounds_toArray, List.set_cons_zero, List.set_cons_succ, List.getElem_toArray, List.getElem_cons_zero, List.getElem_cons_succ]
  refine wpAnyH_take (i := 29) (v := .pointer (some ⟨E, 0, none⟩)) rfl (by kernel_rfl) (by kernel_rfl) (by kernel_rfl) (fun _ _ _ h => h) (Or.inl ⟨by rfl, by intro w hSw; go_simp⟩) hHeld ?_
  try simp only [Act.put, List.setIfInBounds_toArray, List.set_cons_zero, List.set_cons_succ, List.getElem_toArray, List.getElem_cons_zero, List.getElem_cons_succ]
  refine wpAnyH_take (i := 30) (v := .slice ea n ec) rfl (by kernel_rfl) (by kernel_rfl) (by kernel_rfl) (fun _ _ _ h => h) (Or.inl ⟨by rfl, by intro w hSw; have q := (HEW.out _ hSw.1.1.1.tl.fst).body; go_simp⟩) hHeld ?_
  try simp only [Act.put, List.setIfInBounds_toArray, List.set_cons_zero, List.set_cons_succ, List.getElem_toArray, List.getElem_cons_zero, List.getElem_cons_succ]
  refine wpAnyH_take (i := 32) (v := .pointer (some ⟨L + 1, 0, none⟩)) rfl (by kernel_rfl) (by kernel_rfl) (by kernel_rfl) (fun _ _ _ h => h) (Or.inl ⟨by rfl, by intro w hSw; go_simp⟩) hHeld ?_
  try simp only [Act.put, List.setIfInBounds_toArray, List.set_cons_zero, List.set_cons_succ, List.getElem_toArray, List.getElem_cons_zero, List.getElem_cons_succ]
  refine wpAnyH_take (i := 33) (v := .slice sa n cap) rfl (by kernel_rfl) (by kernel_rfl) (by kernel_rfl) (fun _ _ _ h => h) (Or.inl ⟨by rfl, by intro w hSw; have q := hSw.1.1.1.tl.tl.tl.fst.cell (j := 0) (u := .slice sa n cap) (by rw [← HCS.out]; rfl); go_simp⟩) hHeld ?_
  try simp only [Act.put, List.setIfInBounds_toArray, List.set_cons_zero, List.set_cons_succ, List.getElem_toArray, List.getElem_cons_zero, List.getElem_cons_succ]
  refine wpAnyH_take (i := 31) (v := .string SB) rfl (by kernel_rfl) (by kernel_rfl) (by kernel_rfl) (fun _ _ _ h => h) (Or.inl ⟨by rfl, by intro w hSw; have q := HSB.out _ _ (HRE.out.later (by rw [HTS.out]; exact hSw.1.1.2)); go_simp⟩) hHeld ?_
  try simp only [Act.put, List.setIfInBounds_toArray, List.set_cons_zero, List.set_cons_succ, List.getElem_toArray, List.getElem_cons_zero, List.getElem_cons_succ]
  refine wpAnyH_take (i := 34) (v := .string SB) rfl (by kernel_rfl) (by kernel_rfl) (by kernel_rfl) (fun _ _ _ h => h) (Or.inl ⟨by rfl, by intro w hSw; have q := HSB.out _ _ (HRB.out.later (by rw [HTS.out]; exact hSw.1.1.2)); go_simp⟩) hHeld ?_
  try simp only [Act.put, List.setIfInBounds_toArray, List.set_cons_zero, List.set_cons_succ, List.getElem_toArray, List.getElem_cons_zero, List.getElem_cons_succ]
  refine wpAnyH_take (i := 35) (v := .bool true) rfl (by kernel_rfl) (by kernel_rfl) (by kernel_rfl) (fun _ _ _ h => h) (Or.inl ⟨by rfl, by intro w hSw; go_simp⟩) hHeld ?_
  try simp only [Act.put, List.setIfInBounds_toArray, List.set_cons_zero, List.set_cons_succ, List.getElem_toArray, List.getElem_cons_zero, List.getElem_cons_succ]
  refine wpAnyH_take (i := 36) (v := .bool true) rfl (by kernel_rfl) (by kernel_rfl) (by kernel_rfl) (fun _ _ _ h => h) (Or.inl ⟨by rfl, by intro w hSw; go_simp⟩) hHeld ?_
  try simp only [Act.put, List.setIfInBounds_toArray, List.set_cons_zero, List.set_cons_succ, List.getElem_toArray, List.getElem_cons_zero, List.getElem_cons_succ]
  refine wpAnyH_take (i := 37) (v := .bool true) rfl (by kernel_rfl) (by kernel_rfl) (by kernel_rfl) (fun _ _ _ h => h) (Or.inl ⟨by rfl, by intro w hSw; go_simp⟩) hHeld ?_
  try simp only [Act.put, List.setIfInBounds_toArray, List.set_cons_zero, List.set_cons_succ, List.getElem_toArray, List.getElem_cons_zero, List.getElem_cons_succ]
  refine wpAnyH_take (i := 38) (v := .pointer (some ⟨E, 0, none⟩)) rfl (by kernel_rfl) (by kernel_rfl) (by kernel_rfl) (fun _ _ _ h => h) (Or.inl ⟨by rfl, by intro w hSw; go_simp⟩) hHeld ?_
  try simp only [Act.put, List.setIfInBounds_toArray, List.set_cons_zero, List.set_cons_succ, List.getElem_toArray, List.getElem_cons_zero, List.getElem_cons_succ]
  refine wpAnyH_take (i := 39) (v := .pointer (some ⟨E, 1, none⟩)) rfl (by kernel_rfl) (by kernel_rfl) (by kernel_rfl) (fun _ _ _ h => h) (Or.inl ⟨by rfl, by intro w hSw; go_simp⟩) hHeld ?_
  try simp only [Act.put, List.setIfInBounds_toArray, List.set_cons_zero, List.set_cons_succ, List.getElem_toArray, List.getElem_cons_zero, List.getElem_cons_succ]
  refine wpAnyH_take (i := 40) (v := _) rfl (by kernel_rfl) (by kernel_rfl) (by kernel_rfl) (fun _ _ _ h => h) (yieldsIf_load_mid (by rfl) _ _ rfl _ _ rfl ms _ (fun w hSw => (show _ from by rw [← HMS.out, ← HM1.out]; exact (HEW.out _ hSw.1.1.1.tl.fst).m1)) Tryd.underlying26 rfl (by rw [HML.out]; exact HIH.out)) hHeld ?_
  try simp only [Act.put, List.setIfInBounds_toArray, List.set_cons_zero, List.set_cons_succ, List.getElem_toArray, List.getElem_cons_zero, List.getElem_cons_succ]
  refine wpAnyH_take (i := 41) (v := .pointer (some ⟨L + 1, 1, none⟩)) rfl (by kernel_rfl) (by kernel_rfl) (by kernel_rfl) (fun _ _ _ h => h) (Or.inl ⟨by rfl, by intro w hSw; go_simp⟩) hHeld ?_
  try simp only [Act.put, List.setIfInBounds_toArray, List.set_cons_zero, List.set_cons_succ, List.getElem_toArray, List.getElem_cons_zero, List.getElem_cons_succ]
  refine wpAnyH_take (i := 42) (v := _) rfl (by kernel_rfl) (by kernel_rfl) (by kernel_rfl) (fun _ _ _ h => h) (yieldsIf_load_mid (by rfl) _ _ rfl _ _ rfl ms _ (fun w hSw => (show _ from by rw [← HMS.out]; exact hSw.1.1.1.tl.tl.tl.fst.range fun j v hv => by rw [← HCS.out]; exact sgC_mac hv)) Tryd.underlying26 rfl (by rw [HML.out]; exact HIH.out)) hHeld ?_
  try simp only [Act.put, List.setIfInBounds_toArray, List.set_cons_zero, List.set_cons_succ, List.getElem_toArray, List.getElem_cons_zero, List.getElem_cons_succ]
  refine wpAnyH_take (i := 43) (v := .bool true) rfl (by kernel_rfl) (by kernel_rfl) (by kernel_rfl) (fun _ _ _ h => h) (Or.inl ⟨by rfl, by intro w hSw; have q := HQ3.out w; go_simp⟩) hHeld ?_
  try simp only [Act.put, List.setIfInBounds_toArray, List.set_cons_zero, List.set_cons_succ, List.getElem_toArray, List.getElem_cons_zero, List.getElem_cons_succ]
  refine wpAnyH_take (i := 44) (v := .bool true) rfl (by kernel_rfl) (by kernel_rfl) (by kernel_rfl) (fun _ _ _ h => h) (Or.inl ⟨by rfl, by intro w hSw; go_simp⟩) hHeld ?_
  try simp only [Act.put, List.setIfInBounds_toArray, List.set_cons_zero, List.set_cons_succ, List.getElem_toArray, List.getElem_cons_zero, List.getElem_cons_succ]
  refine wpAnyH_take (i := 45) (v := .bool true) rfl (by kernel_rfl) (by kernel_rfl) (by kernel_rfl) (fun _ _ _ h => h) (Or.inl ⟨by rfl, by intro w hSw; go_simp⟩) hHeld ?_
  try simp only [Act.put, List.setIfInBounds_toArray, List.set_cons_zero, List.set_cons_succ, List.getElem_toArray, List.getElem_cons_zero, List.getElem_cons_succ]
  refine wpAnyH_take (i := 46) (v := .pointer (some ⟨E, 67, none⟩)) rfl (by kernel_rfl) (by kernel_rfl) (by kernel_rfl) (fun _ _ _ h => h) (Or.inl ⟨by rfl, by intro w hSw; go_simp⟩) hHeld ?_
  try simp only [Act.put, List.setIfInBounds_toArray, List.set_cons_zero, List.set_cons_succ, List.getElem_toArray, List.getElem_cons_zero, List.getElem_cons_succ]
  refine wpAnyH_take (i := 47) (v := _) rfl (by kernel_rfl) (by kernel_rfl) (by kernel_rfl) (fun _ _ _ h => h) (yieldsIf_load_mid (by rfl) _ _ rfl _ _ rfl mcs _ (fun w hSw => (show _ from by rw [← HMCS.out]; exact (HEW.out _ hSw.1.1.1.tl.fst).mac)) Tryd.underlying26 rfl (by rw [HMCL.out]; exact HIH.out)) hHeld ?_
  try simp only [Act.put, List.setIfInBounds_toArray, List.set_cons_zero, List.set_cons_succ, List.getElem_toArray, List.getElem_cons_zero, List.getElem_cons_succ]
  refine wpAnyH_take (i := 48) (v := .int .i64 (hn3 : Int)) rfl (by kernel_rfl) (by kernel_rfl) (by kernel_rfl) (fun _ _ _ h => h) (Or.inl ⟨by rfl, by intro w hSw; go_simp⟩) hHeld ?_
  try simp only [Act.put, List.setIfInBounds_toArray, List.set_cons_zero, List.set_cons_succ, List.getElem_toArray, List.getElem_cons_zero, List.getElem_cons_succ]
  refine wpAnyH_take (i := 49) (v := .pointer (some ⟨G, hn3, none⟩)) rfl (by kernel_rfl) (by kernel_rfl) (by kernel_rfl) (fun _ _ _ h => h) (Or.inl ⟨by rfl, by intro w hSw; go_simp⟩) hHeld ?_
  try simp only [Act.put, List.setIfInBounds_toArray, List.set_cons_zero, List.set_cons_succ, List.getElem_toArray, List.getElem_cons_zero, List.getElem_cons_succ]
  refine wpAnyH_take (i := 50) (v := .slice ka kn kc) rfl (by kernel_rfl) (by kernel_rfl) (by kernel_rfl) (fun _ _ _ h => h) (Or.inl ⟨by rfl, by intro w hSw; have q := hSw.1.1.1.tl.tl.fst.cell HKJ.out; go_simp⟩) hHeld ?_
  try simp only [Act.put, List.setIfInBounds_toArray, List.set_cons_zero, List.set_cons_succ, List.getElem_toArray, List.getElem_cons_zero, List.getElem_cons_succ]
  refine wpAnyH_take (i := 51) (v := _) rfl (by kernel_rfl) (by kernel_rfl) (by kernel_rfl) (fun _ _ _ h => h) (yieldsIf_load_mid (by rfl) _ _ rfl _ _ rfl es _ (fun w hSw => (hSw.1.1.1.tl.fst.range fun j v hv => by rw [Nat.zero_add]; exact hv)) Tryd.underlying56 rfl (by rw [HEL.out]; exact HIE.out)) hHeld ?_
  try simp only [Act.put, List.setIfInBounds_toArray, List.set_cons_zero, List.set_cons_succ, List.getElem_toArray, List.getElem_cons_zero, List.getElem_cons_succ]
  refine wpAnyH_take (i := 53) (v := .pointer (some ⟨E, 35, none⟩)) rfl (by kernel_rfl) (by kernel_rfl) (by kernel_rfl) (fun _ _ _ h => h) (Or.inl ⟨by rfl, by intro w hSw; go_simp⟩) hHeld ?_
  try simp only [Act.put, List.setIfInBounds_toArray, List.set_cons_zero, List.set_cons_succ, List.getElem_toArray, List.getElem_cons_zero, List.getElem_cons_succ]
  refine wpAnyH_take (i := 54) (v := .slice (some ⟨E, 35, none⟩) 32 32) rfl (by kernel_rfl) (by kernel_rfl) (by kernel_rfl) (fun _ _ _ h => h) (Or.inl ⟨by rfl, by intro w hSw; go_simp⟩) hHeld ?_
  try simp only [Act.put, List.setIfInBounds_toArray, List.set_cons_zero, List.set_cons_succ, List.getElem_toArray, List.getElem_cons_zero, List.getElem_cons_succ]
  refine wpAnyH_ready (rs := [52]) (by kernel_rfl) (by simp) ?_
  refine AllReadyH.cons rfl (fun K hK => ?_) AllReadyH.nil
  go_simp
  refine (HGC.out _ hHeld.1.1.2).mono ?_
  have HSZ5 := hid (show T ≤ z3.heap.size ∧ z2.heap.size ≤ z3.heap.size from ⟨hHeld.1.1.1.size, hHeld.1.2.size⟩)
  rintro _ z5 ⟨g5, c5, rfl, hg5, ho5, hb5⟩
  refine hK.out _ _ (⟨⟨⟨hHeld.1.1.1.later hb5, hHeld.1.1.2.trans (hb5.mono hHeld.1.1.1.size)⟩, hHeld.1.2.trans (hb5.mono hHeld.1.2.size)⟩, hHeld.2.trans (hb5.mono hHeld.2.size)⟩) (fun hHeld => ?_)
  clear hK K
  try simp only [Act.put, List.setIfInBounds_toArray, List.set_cons_zero, List.set_cons_succ, List.getElem_toArray, List.getElem_cons_zero, List.getElem_cons_succ]
  have g5T : T ≤ g5 := Nat.le_trans HSZ5.out.1 hg5
  have HO5 := hid ho5
  have HG5 := hid hg5
  clear ho5 hb5 hg5
  refine wpAnyH_ready (rs := [55]) (by kernel_rfl) (by simp) ?_
  refine AllReadyH.cons rfl (fun K hK => ?_) AllReadyH.nil
  refine Eq.mpr (if_pos (by rfl)) ?_
  refine wp_append_src9 _ _ _ 22 22 rfl 5 i0 (.int .u8 0) Tryd.underlying22 hi hi0 hi1 hi2 rfl g5 c5 N (B core) rfl HO5.out _ 32 (B en.hash) rfl (Src.ofBytes _ Tryd.underlying22 HOK.out.h2 (reads_range HOK.out.h2 (HEW.out _ hHeld.1.1.1.tl.fst).hash)) (by omega) ?_
  intro g6 c6 z6 hG6
  have hbT : Below T z5 z6 := hG6.below (Below.refl _ _) g5T
  have hb2 : Below z2.heap.size z5 z6 := hG6.below (Below.refl _ _) (Nat.le_trans HSZ5.out.2 HG5.out)
  have hb3 : Below z3.heap.size z5 z6 := hG6.below (Below.refl _ _) HG5.out
  refine hK.out _ _ (⟨⟨⟨hHeld.1.1.1.above9 hbT, hHeld.1.1.2.trans hbT⟩, hHeld.1.2.trans hb2⟩, hHeld.2.trans hb3⟩) (fun hHeld => ?_)
  clear hK K
  try simp only [Act.put, List.setIfInBounds_toArray, List.set_cons_zero, List.set_cons_succ, List.getElem_toArray, List.getElem_cons_zero, List.getElem_cons_succ]
  have HO6 := hid (show Owns z6 5 g6 c6 (N + 32) (B (core ++ en.hash)) by rw [B_append]; exact hG6.own)
  clear hG6 hbT HO5 hb2 hb3
  refine wpAnyH_ready (rs := [56]) (by kernel_rfl) (by simp) ?_
  refine AllReadyH.cons rfl (fun K hK => ?_) AllReadyH.nil
  go_simp
  refine (refMac_any (KY hn3) ka kn kc HKN.out (core ++ en.hash) _ (N + 32) c6 (by rw [List.length_append, HNL.out, HOK.out.h2]) _ (HKR.out.later (by rw [HTS.out]; exact hHeld.1.1.2)) HO6.out.reads (by have := HK2.out; omega) (by omega)).mono ?_
  rintro _ z7 ⟨rfl, hb7⟩
  rw [← HMAC.out, HMCS.out]
  refine hK.out _ _ (⟨⟨⟨hHeld.1.1.1.later hb7, hHeld.1.1.2.trans (hb7.mono hHeld.1.1.1.size)⟩, hHeld.1.2.trans (hb7.mono hHeld.1.2.size)⟩, hHeld.2.trans (hb7.mono hHeld.2.size)⟩) (fun hHeld => ?_)
  clear hK K
  try simp only [Act.put, List.setIfInBounds_toArray, List.set_cons_zero, List.set_cons_succ, List.getElem_toArray, List.getElem_cons_zero, List.getElem_cons_succ]
  clear hb7 HO6
  refine wpAnyH_take (i := 57) (v := .bool true) rfl (by kernel_rfl) (by kernel_rfl) (by kernel_rfl) (fun _ _ _ h => h) (Or.inl ⟨by rfl, by intro w hSw; have q := HQ2.out w; go_simp⟩) hHeld ?_
  try simp only [Act.put, List.setIfInBounds_toArray, List.set_cons_zero, List.set_cons_succ, List.getElem_toArray, List.getElem_cons_zero, List.getElem_cons_succ]
  refine wpAnyH_take (i := 58) (v := .bool true) rfl (by kernel_rfl) (by kernel_rfl) (by kernel_rfl) (fun _ _ _ h => h) (Or.inl ⟨by rfl, by intro w hSw; go_simp⟩) hHeld ?_
  try simp only [Act.put, List.setIfInBounds_toArray, List.set_cons_zero, List.set_cons_succ, List.getElem_toArray, List.getElem_cons_zero, List.getElem_cons_succ]
  refine wpAnyH_ready (rs := [59]) (by kernel_rfl) (by simp) ?_
  refine AllReadyH.cons rfl (fun K hK => ?_) AllReadyH.nil
  go_simp
  refine hK.out _ _ (hHeld) (fun hHeld => ?_)
  clear hK K
  try simp only [Act.put, List.setIfInBounds_toArray, List.set_cons_zero, List.set_cons_succ, List.getElem_toArray, List.getElem_cons_zero, List.getElem_cons_succ]
  refine wpAnyH_done (by kernel_rfl) ?_ _
  go_wp2_with fail
  go_ret
  exact ⟨rfl, by first | exact hHeld.1.1.1.bel | (rw [hL]; exact hHeld.1.1.1.bel)⟩
theorem schain_row (w : World) (a0 : Option Addr) (l0 c0 : Nat) (z0 : List Int) (h0 : IsRow .u8 w a0 l0 c0 z0) (ph : List UInt8) (hph : ph.length = 32) (a2 : Option Addr) (n2 c2 : Nat) (z2 : List Int) (m : List UInt8) (hm : m.length = 32) (h2 : IsRow .u8 w a2 n2 c2 z2) (a3 : Int) (_w3 : (Lit.int .i64 a3).wf = true) (a4 : Int) (_w4 : (Lit.int .i64 a4).wf = true) (ht : Tabs w) :
    Calls Tryd.prog 7 #[.slice a0 l0 c0, .agg (B ph).toArray, .agg (sgC (.slice a2 n2 c2) m).toArray, .int .i64 a3, .int .i64 a4] w fun e w' => e = .returned (.bool true) ∧ Below w.heap.size w w' := by
  obtain ⟨key, k1, k2, k3⟩ := bytes_of_row h0
  obtain ⟨body, b1, b2, b3⟩ := bytes_of_row h2
  subst k1
  subst b1
  exact schain_any key a0 _ c0 rfl (row_cap9 h0) (cap_row9 h0) ph hph a2 _ c2 body rfl (cap_row9 h2) (Nat.le_trans (row_cap9 h2) (cap_row9 h2)) m hm a3 a4 w ht k3 b3
end Go.Proofs.YtinifnpajkldbaaDoor

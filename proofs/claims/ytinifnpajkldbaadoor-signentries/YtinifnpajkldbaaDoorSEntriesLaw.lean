/- The law SignEntries: any entry is made as the document says, and checked: by its host's key, and by others'. -/
import Derived.Test.YtinifnpajkldbaaDoorQ9b44
import Derived.Test.YtinifnpajkldbaaDoorGEntry
import Derived.Test.YtinifnpajkldbaaDoorSgEntry
import Derived.Test.YtinifnpajkldbaaDoorPk25
import Derived.Test.YtinifnpajkldbaaDoorMade8
import Derived.Deep.RegionHeld3
import Derived.Deep.CutBlock
import Derived.Deep.DeepCutAuto
namespace Go.Proofs.YtinifnpajkldbaaDoor
open Go.RowKit
set_option linter.unusedSimpArgs false
set_option linter.unusedVariables false

theorem Made.few {n : Nat} {o : List Cp} (h : Made n o) : FewS o := h.plain.few
theorem madeE_ok {key ph m : List UInt8} {at_ : Int} {body : List UInt8} {o : List Cp} (hm : m.length = 32) : (madeE key ph m at_ body o).Ok := ⟨hm, shaS_len _, macS_len _ _⟩
theorem madeE_chk {K : Nat → List UInt8} {j : Nat} (hj : j < 3) {ph m : List UInt8} {at_ : Int} {body : List UInt8} {o : List Cp} : chkE K (j : Int) (madeE (K j) ph m at_ body o) body o = true := by
  rw [chkE, if_neg (by omega), Int.toNat_natCast]
  simp [madeE, coreB]

def AfterE (L G E : Nat) (w : World) (ks : List Value) (KY : Nat → List UInt8) (bv : Value) (body : List UInt8) (w' : World) : Prop :=
  ∃ en' ov' o', EnW w' 56 E en' bv ov' ∧ RC w' ov' o' ∧ FewS o' ∧ Reads w' bv (B body) ∧ Blk w' 35 G ks ∧ KW w' ks KY ∧ Below L w w'
theorem B_put (l : List UInt8) (i : Nat) (y : UInt8) : B (l.set i y) = (B l).set i (.int .u8 y.toNat) := by simp [B, List.map_set]
section
variable {w : World} {t : TypeId} {L : Nat} {e : En} {b o : Value}
theorem EnW.poke (h : EnW w t L e b o) (j : Nat) (y : Value) (e' : En) (o' : Value) (hok : e'.Ok) (hc : (e.cells b o).set j y = e'.cells b o') : EnW (w.setCell ⟨L, j, none⟩ y) t L e' b o' := ⟨hok, by rw [← hc]; exact h.blk.setCell j y⟩
theorem EnW.put_at (h : EnW w t L e b o) (x : Int) : EnW (w.setCell ⟨L, 33, none⟩ (.int .i64 x)) t L ⟨e.m1, x, e.hash, e.mac⟩ b o := by
  refine h.poke 33 _ _ o ⟨h.ok.h1, h.ok.h2, h.ok.h3⟩ ?_
  have f : ([b] ++ B e.m1).length = 33 := h.ok.front
  rw [En.cells, List.set_append, if_neg (by omega), f]
  rfl
theorem EnW.put_op (h : EnW w t L e b o) (x : Value) : EnW (w.setCell ⟨L, 34, none⟩ x) t L e b x := by
  refine h.poke 34 _ e x h.ok ?_
  have f : ([b] ++ B e.m1).length = 33 := h.ok.front
  rw [En.cells, List.set_append, if_neg (by omega), f]
  rfl
theorem EnW.put_hash (h : EnW w t L e b o) (i : Nat) (hi : i < 32) (y : UInt8) : EnW (w.setCell ⟨L, 35 + i, none⟩ (.int .u8 y.toNat)) t L ⟨e.m1, e.at_, e.hash.set i y, e.mac⟩ b o := by
  refine h.poke (35 + i) _ _ o ⟨h.ok.h1, by rw [List.length_set]; exact h.ok.h2, h.ok.h3⟩ ?_
  have f : ([b] ++ B e.m1).length = 33 := h.ok.front
  have f2 : (B e.hash).length = 32 := by rw [B_length, h.ok.h2]
  rw [En.cells, List.set_append, if_neg (by omega), f, List.set_append, if_neg (by simp; omega), List.set_append, if_pos (by simp; omega), show 35 + i - 33 - [Value.int .i64 e.at_, o].length = i by simp; omega, ← B_put]
  rfl
theorem EnW.put_mac (h : EnW w t L e b o) (i : Nat) (hi : i < 32) (y : UInt8) : EnW (w.setCell ⟨L, 67 + i, none⟩ (.int .u8 y.toNat)) t L ⟨e.m1, e.at_, e.hash, e.mac.set i y⟩ b o := by
  refine h.poke (67 + i) _ _ o ⟨h.ok.h1, h.ok.h2, by rw [List.length_set]; exact h.ok.h3⟩ ?_
  have f : ([b] ++ B e.m1).length = 33 := h.ok.front
  have f2 : (B e.hash).length = 32 := by rw [B_length, h.ok.h2]
  rw [En.cells, List.set_append, if_neg (by omega), f, List.set_append, if_neg (by simp; omega), List.set_append, if_neg (by simp; omega), f2, show 67 + i - 33 - [Value.int .i64 e.at_, o].length - 32 = i by simp; omega, ← B_put]
  rfl
theorem EnW.put_m1 (h : EnW w t L e b o) (i : Nat) (hi : i < 32) (y : UInt8) : EnW (w.setCell ⟨L, 1 + i, none⟩ (.int .u8 y.toNat)) t L ⟨e.m1.set i y, e.at_, e.hash, e.mac⟩ b o := by
  refine h.poke (1 + i) _ _ o ⟨by rw [List.length_set]; exact h.ok.h1, h.ok.h2, h.ok.h3⟩ ?_
  have f : ([b] ++ B e.m1).length = 33 := h.ok.front
  rw [En.cells, List.set_append, if_pos (by omega), List.set_append, if_neg (by simp), show 1 + i - [b].length = i by simp, ← B_put]
  rfl
theorem byte_in9 {l : List UInt8} {n i : Nat} (hl : l.length = n) (hi : i < n) : ∃ x : UInt8, (B l)[i]? = some (.int .u8 x.toNat) := by
  refine ⟨l[i]'(by omega), ?_⟩
  rw [B_get, List.getElem?_eq_getElem (by omega)]
  rfl
end
theorem byte_add (x y : UInt8) : IntKind.u8.wrap ((x.toNat : Int) + (y.toNat : Int)) = ((x + y).toNat : Int) := by
  rw [UInt8.toNat_add, IntKind.wrap_u8]
  omega

set_option maxRecDepth 100000 in
set_option maxHeartbeats 16000000 in
theorem sentries_any (key : List UInt8) (ko : Option Addr) (kl kc0 : Nat) (hkl : key.length = kl) (hklc : kl ≤ kc0) (hkc : kc0 ≤ maxLen) (host0 : Int) (ph : List UInt8) (hph : ph.length = 32) (sa : Option Addr) (n cap : Nat) (body : List UInt8) (hn : body.length = n) (hcap : cap ≤ maxLen) (hnb : n ≤ maxLen) (m : List UInt8) (hm : m.length = 32) (at0 n0 : Int) (no : Option Addr) (nl nc : Nat) (hnl : nl ≤ nc) (hnl2 : nl ≤ 9223372036854775807) (which : Int) (by_ : UInt8) (w : World) (ht : Tabs w)
    (hkey : Reads w (.slice ko kl kc0) (B key)) (hb : Reads w (.slice sa n cap) (B body)) (hns : NS w no nl) :
    Calls Tryd.prog 5 #[.slice ko kl kc0, .int .i64 host0, .agg (B ph).toArray, .agg (sgC (.slice sa n cap) m).toArray, .int .i64 at0, .int .i64 n0, .slice no nl nc, .int .i64 which, .int .u8 by_.toNat] w fun e w' => e = .returned (.bool true) ∧ Below w.heap.size w w' := by
  obtain ⟨L, hL⟩ : ∃ L, w.heap.size = L := ⟨_, rfl⟩
  have hL2 : 2 ≤ L := by rw [← hL]; exact ht.two
  have HTB := hid (show ∀ wx, Below L w wx → Tabs wx from fun wx h => ht.below h hL2)
  have HRK := hid hkey
  have HRD := hid hb
  have HN := hid hn
  have HM := hid hm
  have HKL := hid hkl
  have HPH := hid hph
  have HNS := hid hns
  obtain ⟨cs, hcs⟩ : ∃ cs, sgC (.slice sa n cap) m = cs := ⟨_, rfl⟩
  have HCS := hid hcs
  have HCL := hid (show cs.length = 33 by rw [← hcs]; exact sgC_len hm)
  obtain ⟨ps, hps⟩ : ∃ ps, B ph = ps := ⟨_, rfl⟩
  have HPS := hid hps
  have HPL := hid (show ps.length = 32 by rw [← hps, B_length, hph])
  obtain ⟨KY, hKY⟩ : ∃ KY, keyS key = KY := ⟨_, rfl⟩
  have HKY := hid hKY
  have HIH := hid (show (Tryd.prog.info? 26).map (·.size) = some 32 by kernel_rfl)
  have HIK := hid (show (Tryd.prog.info? 35).map (·.size) = some 3 by kernel_rfl)
  have HIS := hid (show (Tryd.prog.info? 40).map (·.size) = some 33 by kernel_rfl)
  have HIE := hid (show (Tryd.prog.info? 56).map (·.size) = some 99 by kernel_rfl)
  obtain ⟨zs, hzs⟩ : ∃ zs, En.zero.cells (.slice none 0 0) (.slice none 0 0) = zs := ⟨_, rfl⟩
  have HZ := hid (show (Tryd.prog.info? 56).bind (fun i => i.zero.map fun z => z.cells.toList) = some zs by rw [← hzs]; kernel_rfl)
  have HZL := hid (show zs.length = 99 by rw [← hzs]; exact En.len En.zero_ok)
  have HZK := hid (show (Tryd.prog.info? 35).bind (fun i => i.zero.map fun z => z.cells.toList) = some [.slice none 0 0, .slice none 0 0, .slice none 0 0] by kernel_rfl)
  have hnb2 : n ≤ 9223372036854775807 := hnb
  rw [hcs, hps]
  clear ht hkey hkl hcs hKY hzs hb hn hm hnb hph hps hns
  go_enter Tryd.func5, Tryd.ntmps5
  go_wp2_with (first
    | (show wpList _ _ _ (⟨some 11, Op.box _ _, _, _, _, _⟩ :: _) _ _; go_must (refine wpList_box_blk rfl 26 _ rfl ps rfl L hL ?_); intro w0 hB0 hb0 hs0; have HB0 := hid hB0; have Hb0 := hid hb0; clear hB0 hb0)
    | (show wpList _ _ _ (⟨some 12, Op.box _ _, _, _, _, _⟩ :: _) _ _; go_must (refine wpList_box_blk rfl 40 _ rfl cs rfl (L + 1) hs0 ?_); intro w1 hB1 hb1 hs1; have HB1 := hid hB1; have HA1 := hid (show Blk w1 26 L ps from HB0.out.kept (hb1.block L (by omega))); have Hb1 := hid (show Below L w w1 from Hb0.out.trans (hb1.mono (by omega))); clear hB1 hb1 HB0 Hb0 hs0))
  -- CALL0
  refine (known9_any _ (HTB.out _ Hb1.out)).mono ?_
  rintro _ w2 ⟨rfl, hb2⟩
  have HB2 := hid (HB1.out.later hb2)
  have HA2 := hid (HA1.out.later hb2)
  have Hb2 := hid (show Below L w w2 from Hb1.out.trans (hb2.mono (by omega)))
  clear hb2 HB1 HA1 Hb1 hs1
  have c2 : w2.cell? ⟨L + 1, 0, none⟩ = some (.slice sa n cap) := HB2.out.cell (by rw [← HCS.out]; rfl)
  by_cases h300 : 300 < n
  · have h300' : (300 : Int) < (n : Int) := by omega
    go_wp2_with fail
    go_ret
    exact ⟨rfl, by first | exact Hb2.out | (rw [hL]; exact Hb2.out)⟩
  have h300' : ¬ (300 : Int) < (n : Int) := by omega
  go_wp2_with fail
  -- CALL1
  refine (keys9_any key ko kl kc0 HKL.out hklc hkc _ (HRK.out.later (by rw [hL]; exact Hb2.out))).mono ?_
  rintro _ w3 ⟨ks, rfl, hKW, hK1, hKB, hb3⟩
  rw [HKY.out] at hKW
  have HKW3 := hid hKW
  have HK1 := hid hK1
  have hLs : L + 1 < w2.heap.size := HB2.out.lt
  have HB3 := hid (HB2.out.later hb3)
  have HA3 := hid (HA2.out.later hb3)
  have Hb3 := hid (show Below L w w3 from Hb2.out.trans (hb3.mono (by omega)))
  have HKL3 := hid hKW.len
  obtain ⟨G, hG⟩ : ∃ G, w3.heap.size = G := ⟨_, rfl⟩
  have HG := hid hG
  have hGL : L + 1 < G := by rw [← hG]; exact HB3.out.lt
  clear hKW hK1 hKB hb3 c2 HB2 HA2 Hb2 hLs
  go_upto_region 6 with (first
    | (show wpList _ _ _ (⟨some 19, Op.alloc _, _, _, _, _⟩ :: _) _ _; go_must (refine wpList_alloc_blk rfl 35 rfl _ HZK.out G hG ?_); intro w4 hB4 hb4 hs4; have HB4 := hid hB4; have Hb4 := hid hb4; clear hB4 hb4)
    | (show wpList _ _ _ (⟨none, Op.store _ (Operand.tmp 19) (Operand.tmp 30), _, _, _, _⟩ :: _) _ _; go_must (refine wpList_store_list rfl 35 _ _ rfl G 0 ks rfl rfl (HB4.out.there (by rw [HKL3.out]; simp)) (by rw [HKL3.out]; exact HIK.out) HK1.out ?_); intro w5 hw5; have HX5 := hid (show Blk w5 35 G ks ∧ Below G w3 w5 by rw [hw5]; exact ⟨by have h3 := Blk.setCells ks [] [.slice none 0 0, .slice none 0 0, .slice none 0 0] [] (o := 0) (by simpa using HB4.out) (by rw [HKL3.out]; rfl) rfl; simpa using h3, below_setCells (by omega) _ _ Hb4.out⟩); clear hw5 HB4 Hb4))
  -- PART2
  have HK5 := hid HX5.out.1
  have HB5 := hid (show Blk w5 40 (L + 1) cs from HB3.out.later (by rw [HG.out]; exact HX5.out.2))
  have HA5 := hid (show Blk w5 26 L ps from HA3.out.later (by rw [HG.out]; exact HX5.out.2))
  have HKW5 := hid (show KW w5 ks KY from HKW3.out.later (by rw [HG.out]; exact HX5.out.2))
  have Hb5 := hid (show Below L w w5 from Hb3.out.trans (HX5.out.2.mono (by omega)))
  have hG5 : G < w5.heap.size := HK5.out.lt
  clear HX5 HB3 HA3 HKW3 Hb3 hs4 hG HG
  obtain ⟨hn3, hhn⟩ : ∃ hn : Nat, host0 % 3 = (hn : Int) := ⟨(host0 % 3).toNat, by omega⟩
  obtain ⟨n3, hn3n⟩ : ∃ hn : Nat, n0 % 100 = (hn : Int) := ⟨(n0 % 100).toNat, by omega⟩
  have HHN := hid hhn
  have HNN := hid hn3n
  have hh3 : hn3 < 3 := by omega
  have hh3' : (hn3 : Int) < 3 := by omega
  have hn100 : n3 ≤ 120 := by omega
  clear hhn hn3n
  go_wp2_with fail
  refine (within9_any host0 3 (by omega) (by omega) _).mono ?_
  rintro _ wz ⟨rfl, hwz⟩
  rw [hwz, HHN.out]
  clear hwz
  go_wp2_with fail
  refine (within9_any n0 100 (by omega) (by omega) _).mono ?_
  rintro _ wy ⟨rfl, hwy⟩
  rw [hwy, HNN.out]
  clear hwy
  go_wp2_with fail
  -- MAKE
  refine (Make_any n3 hn100 no nl nc _ (HNS.out.later (by rw [hL]; exact Hb5.out)) hnl hnl2).mono ?_
  rintro _ w6 ⟨vo, rfl, o, hHo, hb6, hmade⟩
  have HF := hid hmade.few
  have HLEN := hid hmade.len
  have HO6 := hid hHo.reads
  have HK6 := hid (HK5.out.later hb6)
  have HB6 := hid (HB5.out.later hb6)
  have HA6 := hid (HA5.out.later hb6)
  have HKW6 := hid (HKW5.out.later hb6)
  have Hb6 := hid (show Below L w w6 from Hb5.out.trans (hb6.mono (by omega)))
  have hG6 : G < w6.heap.size := HK6.out.lt
  clear hHo hb6 hmade HK5 HB5 HA5 HKW5 Hb5 hG5
  have HRX := hid (show ∀ wx, Blk wx 26 L ps → wx.rangeAt L 0 ps from fun wx h => h.range fun j v hv => by rw [Nat.zero_add]; exact hv)
  go_wp2_with (first
    | (show wpList _ _ _ (⟨some 37, Op.load _ _, _, _, _, _⟩ :: _) _ _; go_must (refine wpList_load_mid rfl 35 _ rfl G 0 rfl ks _ (HK6.out.range fun j v hv => by rw [Nat.zero_add]; exact hv) Tryd.underlying35 rfl (by rw [HKL3.out]; exact HIK.out) ?_))
    | (show wpList _ _ _ (⟨some 39, Op.load _ _, _, _, _, _⟩ :: _) _ _; go_must (refine wpList_load_mid rfl 26 _ rfl L 0 rfl ps _ (HRX.out _ HA6.out) Tryd.underlying26 rfl (by rw [HPL.out]; exact HIH.out) ?_))
    | (show wpList _ _ _ (⟨some 40, Op.load _ _, _, _, _, _⟩ :: _) _ _; go_must (refine wpList_load_mid rfl 40 _ rfl (L + 1) 0 rfl cs _ (HB6.out.range fun j v hv => by rw [Nat.zero_add]; exact hv) Tryd.underlying40 rfl (by rw [HCL.out]; exact HIS.out) ?_)))
  -- CALL2
  have HCE := hid (show ∀ wx, Tabs wx → KW wx ks KY → Reads wx (.slice sa n cap) (B body) → RC wx vo o → Calls Tryd.prog 22 #[.agg ks.toArray, .int .i64 (hn3 : Int), .agg ps.toArray, .agg cs.toArray, .int .i64 at0, vo] wx fun x w' => ∃ a c v', x = .returned (.agg ((madeE (KY hn3) ph m at0 body o).cells (.slice a n c) v').toArray) ∧ Reads w' (.slice a n c) (B body) ∧ HasC w' wx.heap.size v' o ∧ Below wx.heap.size wx w' from fun wx h1 h2 h3 h4 => by
    rw [← HPS.out, ← HCS.out]
    exact sEntry_any ks KY hn3 hh3 ph HPH.out m HM.out sa n cap body HN.out (by omega) hcap at0 vo o wx h1 h2 h3 h4 HF.out)
  refine (HCE.out _ (HTB.out _ Hb6.out) HKW6.out (HRD.out.later (by rw [hL]; exact Hb6.out)) HO6.out).mono ?_
  rintro _ w7 ⟨ea, ec, v10, rfl, hR7, hH7, hb7⟩
  obtain ⟨en, hen⟩ : ∃ en, madeE (KY hn3) ph m at0 body o = en := ⟨_, rfl⟩
  rw [hen]
  have HEN := hid hen
  have HOK := hid (show en.Ok by rw [← hen]; exact madeE_ok HM.out)
  have HCT := hid (show chkE KY (hn3 : Int) en body o = true by rw [← hen]; exact madeE_chk hh3)
  obtain ⟨es, hes⟩ : ∃ es, en.cells (.slice ea n ec) v10 = es := ⟨_, rfl⟩
  rw [hes]
  have HES := hid hes
  have HEL := hid (show es.length = 99 by rw [← hes]; exact En.len HOK.out)
  have HEO := hid (show ∀ v ∈ es, v.oneCell' = true by rw [← hes]; exact En.one rfl (one9 hH7))
  have HRE7 := hid hR7
  have HH7 := hid (show RC w7 v10 o from hH7.reads)
  have HO7 := hid (HO6.out.later hb7)
  have HK7 := hid (HK6.out.later hb7)
  have HB7 := hid (HB6.out.later hb7)
  have HA7 := hid (HA6.out.later hb7)
  have HKW7 := hid (HKW6.out.later hb7)
  have Hb7 := hid (show Below L w w7 from Hb6.out.trans (hb7.mono (by omega)))
  have hz7 : w6.heap.size ≤ w7.heap.size := hb7.size
  obtain ⟨E, hE⟩ : ∃ E, w7.heap.size = E := ⟨_, rfl⟩
  have HE := hid hE
  have hEG : G < E := by omega
  clear hen hes hR7 hH7 hb7 HK6 HB6 HA6 HKW6 Hb6 HO6 hG6 hz7 HCE
  go_upto_region 9 with (first
    | (show wpList _ _ _ (⟨some 22, Op.alloc _, _, _, _, _⟩ :: _) _ _; go_must (refine wpList_alloc_blk rfl 56 rfl _ HZ.out E hE ?_); intro w8 hB8 hb8 hs8; have HB8 := hid hB8; have Hb8 := hid hb8; clear hB8 hb8)
    | (show wpList _ _ _ (⟨none, Op.store _ (Operand.tmp 22) (Operand.tmp 43), _, _, _, _⟩ :: _) _ _; go_must (refine wpList_store_list rfl 56 _ _ rfl E 0 es rfl rfl (HB8.out.there (by rw [HEL.out, HZL.out]; omega)) (by rw [HEL.out]; exact HIE.out) HEO.out ?_); intro w9 hw9; have HX9 := hid (show Blk w9 56 E es ∧ Below E w7 w9 by rw [hw9]; exact ⟨by have h3 := Blk.setCells es [] zs [] (o := 0) (by simpa using HB8.out) (by rw [HZL.out, HEL.out]) rfl; simpa using h3, below_setCells (by omega) _ _ Hb8.out⟩); clear hw9 HB8 Hb8))
  -- REGION9
  clear hs8
  have hsE : E < w9.drew.heap.size := HX9.out.1.lt
  have hB9 : Below w7.heap.size w7 w9.drew := by rw [HE.out]; exact HX9.out.2.drew
  generalize hwb : w9.drew = wb at *
  have HX9 := hid (show Blk wb 56 E es by rw [← hwb]; exact HX9.out.1.drewN 1)
  obtain ⟨T, hT⟩ : ∃ T, wb.heap.size = T := ⟨_, rfl⟩
  have HTS := hid hT
  have hTE : E < T := by rw [← hT]; exact hsE
  have HS := hid (show HK L T w [(56, E, es), (35, G, ks), (40, L + 1, cs), (26, L, ps)] wb ∧ Below T wb wb from
    ⟨HK.cons (HK.cons (HK.cons (HK.cons (HK.nil (by omega) (Hb7.out.trans (hB9.mono (by have := HE.out; omega))) (by omega)) (HA7.out.later hB9) (by omega)) (HB7.out.later hB9) (by omega)) (HK7.out.later hB9) (by omega)) HX9.out (by omega), Below.refl _ _⟩)
  have HRE := hid (HRE7.out.later hB9)
  have HCO := hid (HH7.out.later hB9)
  have HVO := hid (HO7.out.later hB9)
  have HRB := hid (show Reads wb (.slice sa n cap) (B body) from HRD.out.later (by rw [hL]; exact (Hb7.out.trans (hB9.mono (by have := HE.out; omega)))))
  have HKW := hid (HKW7.out.later hB9)
  obtain ⟨core, hcore⟩ : ∃ core, coreB en body o = core := ⟨_, rfl⟩
  have hbl : body.length ≤ 400 := by rw [HN.out]; omega
  have HEW := hid (show ∀ wx, Blk wx 56 E es → EnW wx 56 E en (.slice ea n ec) v10 from fun wx h => ⟨HOK.out, by rw [HES.out]; exact h⟩)
  have HGE := hid (show ∀ wx, Below T wb wx → Calls Tryd.prog 24 #[.agg ks.toArray, .int .i64 (hn3 : Int), .agg ps.toArray, .agg cs.toArray, .int .i64 at0, vo] wx (fun x w' => ∃ xs : List Value, (∀ wy, Below w'.heap.size w' wy → Below T wb wy → Calls Tryd.prog 23 #[.agg es.toArray, .agg xs.toArray] wy (fun x w' => x = .returned (.bool true) ∧ Below wy.heap.size wy w')) ∧ x = .returned (.agg xs.toArray) ∧ Below wx.heap.size wx w') from fun wx h => by
    rw [← HPS.out, ← HCS.out]
    refine (gEntry_any ks KY hn3 hh3 ph HPH.out m HM.out sa n cap body HN.out (by omega) at0 vo o wx (HKW.out.later (by rw [HTS.out]; exact h)) (HRB.out.later (by rw [HTS.out]; exact h)) (HVO.out.later (by rw [HTS.out]; exact h)) HF.out).mono ?_
    rintro _ w' ⟨g, c, v', rfl, h1, h2, h3, h4⟩
    rw [HEN.out]
    refine ⟨_, fun wy h5 h6 => ?_, rfl, h4⟩
    rw [← HES.out]
    exact gSame_eq en HOK.out ea (some ⟨g, 0, none⟩) n ec c body v10 v' o (by have := HF.out.1; omega) wy (HRE.out.later (by rw [HTS.out]; exact h6)) (h2.reads.later h5) (HCO.out.later (by rw [HTS.out]; exact h6)) (h3.reads.later h5))
  have HGC := hid (show ∀ wx, Below T wb wx → Calls Tryd.prog 26 #[.agg es.toArray] wx (fun x w' => ∃ a n c, x = .returned (.slice a n c) ∧ Reads w' (.slice a n c) (B core) ∧ Below wx.heap.size wx w') from fun wx h => by
    have := gCore_any en HOK.out (.slice ea n ec) v10 body o wx (HRE.out.later (by rw [HTS.out]; exact h)) hbl (HCO.out.later (by rw [HTS.out]; exact h)) HF.out
    rw [HES.out, hcore] at this
    refine this.mono ?_
    rintro _ w' ⟨g, c, rfl, h1, h2, h3⟩
    exact ⟨_, _, c, rfl, h2.reads, h3⟩)
  have HSC := hid (show ∀ wx, Below T wb wx → Calls Tryd.prog 25 #[.agg es.toArray] wx (fun x w' => ∃ a n c, x = .returned (.slice a n c) ∧ Reads w' (.slice a n c) (B core) ∧ Below wx.heap.size wx w') from fun wx h => by
    have := sCore_any en HOK.out (.slice ea n ec) v10 body o wx (HRE.out.later (by rw [HTS.out]; exact h)) hbl (HCO.out.later (by rw [HTS.out]; exact h)) HF.out
    rw [HES.out, hcore] at this
    refine this.mono ?_
    rintro _ w' ⟨a, n, c, rfl, h1, h2, h3, h4⟩
    exact ⟨a, n, c, rfl, h3, h4⟩)
  have HSK := hid (show ∀ (host : Int) wx, Tabs wx → Below T wb wx → Calls Tryd.prog 27 #[.agg ks.toArray, .int .i64 host, .agg es.toArray] wx (fun x w' => x = .returned (.bool (chkE KY host en body o)) ∧ Below wx.heap.size wx w') from fun host wx ht h => by
    rw [← HES.out]
    exact sCheck_any ks KY host en HOK.out _ v10 body o wx ht (HKW.out.later (by rw [HTS.out]; exact h)) (HRE.out.later (by rw [HTS.out]; exact h)) hbl (HCO.out.later (by rw [HTS.out]; exact h)) HF.out)
  have HGK := hid (show ∀ (host : Int) wx, Tabs wx → Below T wb wx → Calls Tryd.prog 28 #[.agg ks.toArray, .int .i64 host, .agg es.toArray] wx (fun x w' => x = .returned (.bool (chkE KY host en body o)) ∧ Below wx.heap.size wx w') from fun host wx ht h => by
    rw [← HES.out]
    exact gCheck_any ks KY host en HOK.out _ v10 body o wx (HKW.out.later (by rw [HTS.out]; exact h)) (HRE.out.later (by rw [HTS.out]; exact h)) hbl (HCO.out.later (by rw [HTS.out]; exact h)) HF.out)
  obtain ⟨SC, hSC⟩ : ∃ S : ByteArray, (⟨core.toArray⟩ : ByteArray) = S := ⟨_, rfl⟩
  have HST := hid (show ∀ wx v, Reads wx v (B core) → (convert 22 9 v).run Tryd.prog wx = .ok (.string SC) wx from fun wx v h => by rw [← hSC]; exact run_string (P := Tryd.prog) wx 22 9 5 Tryd.underlying22 Tryd.underlying5 Tryd.underlying9 h)
  have HB9 := hid (show Below E w7 wb by rw [← HE.out]; exact hB9)
  clear hT hB9 hcore hSC HO7 HB7 HA7 HX9 hsE hE
  -- WALK9
  refine wp_region_held_drew (S := fun w' => HK L T w [(56, E, es), (35, G, ks), (40, L + 1, cs), (26, L, ps)] w' ∧ Below T wb w') (by kernel_rfl) ((by rw [hwb]; exact HS.out)) (fun hHeld => ?_)
  rw [hwb] at hHeld ⊢
  refine wpAnyH_take (i := 0) (v := _) rfl (by kernel_rfl) (by kernel_rfl) (by kernel_rfl) (fun _ _ _ h => h) (yieldsIf_load_mid (by rfl) _ _ rfl _ _ rfl es _ (fun w hSw => (hSw.1.fst.range fun j v hv => by rw [Nat.zero_add]; exact hv)) Tryd.underlying56 rfl (by rw [HEL.out]; exact HIE.out)) hHeld ?_
  try simp only [Act.put, List.setIfInBounds_toArray, List.set_cons_zero, List.set_cons_succ, List.getElem_toArray, List.getElem_cons_zero, List.getElem_cons_succ]
  refine wpAnyH_take (i := 1) (v := _) rfl (by kernel_rfl) (by kernel_rfl) (by kernel_rfl) (fun _ _ _ h => h) (yieldsIf_load_mid (by rfl) _ _ rfl _ _ rfl ks _ (fun w hSw => (hSw.1.tl.fst.range fun j v hv => by rw [Nat.zero_add]; exact hv)) Tryd.underlying35 rfl (by rw [HKL3.out]; exact HIK.out)) hHeld ?_
  try simp only [Act.put, List.setIfInBounds_toArray, List.set_cons_zero, List.set_cons_succ, List.getElem_toArray, List.getElem_cons_zero, List.getElem_cons_succ]
  refine wpAnyH_take (i := 2) (v := .int .i64 (hn3 : Int)) rfl (by kernel_rfl) (by kernel_rfl) (by kernel_rfl) (fun _ _ _ h => h) (Or.inl ⟨by rfl, by intro w hSw; go_simp⟩) hHeld ?_
  try simp only [Act.put, List.setIfInBounds_toArray, List.set_cons_zero, List.set_cons_succ, List.getElem_toArray, List.getElem_cons_zero, List.getElem_cons_succ]
  refine wpAnyH_take (i := 3) (v := _) rfl (by kernel_rfl) (by kernel_rfl) (by kernel_rfl) (fun _ _ _ h => h) (yieldsIf_load_mid (by rfl) _ _ rfl _ _ rfl ps _ (fun w hSw => (hSw.1.tl.tl.tl.fst.range fun j v hv => by rw [Nat.zero_add]; exact hv)) Tryd.underlying26 rfl (by rw [HPL.out]; exact HIH.out)) hHeld ?_
  try simp only [Act.put, List.setIfInBounds_toArray, List.set_cons_zero, List.set_cons_succ, List.getElem_toArray, List.getElem_cons_zero, List.getElem_cons_succ]
  refine wpAnyH_take (i := 4) (v := _) rfl (by kernel_rfl) (by kernel_rfl) (by kernel_rfl) (fun _ _ _ h => h) (yieldsIf_load_mid (by rfl) _ _ rfl _ _ rfl cs _ (fun w hSw => (hSw.1.tl.tl.fst.range fun j v hv => by rw [Nat.zero_add]; exact hv)) Tryd.underlying40 rfl (by rw [HCL.out]; exact HIS.out)) hHeld ?_
  try simp only [Act.put, List.setIfInBounds_toArray, List.set_cons_zero, List.set_cons_succ, List.getElem_toArray, List.getElem_cons_zero, List.getElem_cons_succ]
  refine wpAnyH_take (i := 5) (v := .int .i64 at0) rfl (by kernel_rfl) (by kernel_rfl) (by kernel_rfl) (fun _ _ _ h => h) (Or.inl ⟨by rfl, by intro w hSw; go_simp⟩) hHeld ?_
  try simp only [Act.put, List.setIfInBounds_toArray, List.set_cons_zero, List.set_cons_succ, List.getElem_toArray, List.getElem_cons_zero, List.getElem_cons_succ]
  refine wpAnyH_take (i := 6) (v := vo) rfl (by kernel_rfl) (by kernel_rfl) (by kernel_rfl) (fun _ _ _ h => h) (Or.inl ⟨by rfl, by intro w hSw; go_simp⟩) hHeld ?_
  try simp only [Act.put, List.setIfInBounds_toArray, List.set_cons_zero, List.set_cons_succ, List.getElem_toArray, List.getElem_cons_zero, List.getElem_cons_succ]
  refine wpAnyH_ready (rs := [7]) (by kernel_rfl) (by simp) ?_
  refine AllReadyH.cons rfl (fun K hK => ?_) AllReadyH.nil
  go_simp
  refine (HGE.out _ hHeld.2).mono ?_
  rintro _ y1 ⟨xs, hGS, rfl, hb1⟩
  refine hK.out _ _ (⟨hHeld.1.later hb1, hHeld.2.trans (hb1.mono hHeld.1.size)⟩) (fun hHeld => ?_)
  clear hK K
  try simp only [Act.put, List.setIfInBounds_toArray, List.set_cons_zero, List.set_cons_succ, List.getElem_toArray, List.getElem_cons_zero, List.getElem_cons_succ]
  have HGS := hid hGS
  clear hb1 hGS
  refine wpAnyH_strong (S' := fun w' => (HK L T w [(56, E, es), (35, G, ks), (40, L + 1, cs), (26, L, ps)] w' ∧ Below T wb w') ∧ Below y1.heap.size y1 w') (fun _ h => h.1) _ _ _ _ ?_
  replace hHeld := And.intro hHeld (Below.refl y1.heap.size y1)
  refine wpAnyH_ready (rs := [8]) (by kernel_rfl) (by simp) ?_
  refine AllReadyH.cons rfl (fun K hK => ?_) AllReadyH.nil
  go_simp
  refine (HGS.out _ hHeld.2 hHeld.1.2).mono ?_
  rintro _ y2 ⟨rfl, hb2⟩
  refine hK.out _ _ (⟨⟨hHeld.1.1.later hb2, hHeld.1.2.trans (hb2.mono hHeld.1.1.size)⟩, hHeld.2.trans (hb2.mono hHeld.2.size)⟩) (fun hHeld => ?_)
  clear hK K
  try simp only [Act.put, List.setIfInBounds_toArray, List.set_cons_zero, List.set_cons_succ, List.getElem_toArray, List.getElem_cons_zero, List.getElem_cons_succ]
  clear hb2
  refine wpAnyH_take (i := 9) (v := .bool false) rfl (by kernel_rfl) (by kernel_rfl) (by kernel_rfl) (fun _ _ _ h => h) (Or.inl ⟨by rfl, by intro w hSw; go_simp⟩) hHeld ?_
  try simp only [Act.put, List.setIfInBounds_toArray, List.set_cons_zero, List.set_cons_succ, List.getElem_toArray, List.getElem_cons_zero, List.getElem_cons_succ]
  refine wpAnyH_take (i := 10) (v := .bool false) rfl (by kernel_rfl) (by kernel_rfl) (by kernel_rfl) (fun _ _ _ h => h) (Or.inl ⟨by rfl, by intro w hSw; go_simp⟩) hHeld ?_
  try simp only [Act.put, List.setIfInBounds_toArray, List.set_cons_zero, List.set_cons_succ, List.getElem_toArray, List.getElem_cons_zero, List.getElem_cons_succ]
  refine wpAnyH_take (i := 11) (v := _) rfl (by kernel_rfl) (by kernel_rfl) (by kernel_rfl) (fun _ _ _ h => h) (yieldsIf_load_mid (by rfl) _ _ rfl _ _ rfl es _ (fun w hSw => (hSw.1.1.fst.range fun j v hv => by rw [Nat.zero_add]; exact hv)) Tryd.underlying56 rfl (by rw [HEL.out]; exact HIE.out)) hHeld ?_
  try simp only [Act.put, List.setIfInBounds_toArray, List.set_cons_zero, List.set_cons_succ, List.getElem_toArray, List.getElem_cons_zero, List.getElem_cons_succ]
  refine wpAnyH_take (i := 14) (v := _) rfl (by kernel_rfl) (by kernel_rfl) (by kernel_rfl) (fun _ _ _ h => h) (yieldsIf_load_mid (by rfl) _ _ rfl _ _ rfl es _ (fun w hSw => (hSw.1.1.fst.range fun j v hv => by rw [Nat.zero_add]; exact hv)) Tryd.underlying56 rfl (by rw [HEL.out]; exact HIE.out)) hHeld ?_
  try simp only [Act.put, List.setIfInBounds_toArray, List.set_cons_zero, List.set_cons_succ, List.getElem_toArray, List.getElem_cons_zero, List.getElem_cons_succ]
  refine wpAnyH_ready (rs := [12]) (by kernel_rfl) (by simp) ?_
  refine AllReadyH.cons rfl (fun K hK => ?_) AllReadyH.nil
  go_simp
  refine (HSC.out _ hHeld.1.2).mono ?_
  rintro _ x1 ⟨a12, n12, c12, rfl, hr12, hb12⟩
  refine hK.out _ _ (⟨⟨hHeld.1.1.later hb12, hHeld.1.2.trans (hb12.mono hHeld.1.1.size)⟩, hHeld.2.trans (hb12.mono hHeld.2.size)⟩) (fun hHeld => ?_)
  clear hK K
  try simp only [Act.put, List.setIfInBounds_toArray, List.set_cons_zero, List.set_cons_succ, List.getElem_toArray, List.getElem_cons_zero, List.getElem_cons_succ]
  have HR12 := hid hr12
  clear hr12 hb12
  refine wpAnyH_strong (S' := fun w' => ((HK L T w [(56, E, es), (35, G, ks), (40, L + 1, cs), (26, L, ps)] w' ∧ Below T wb w') ∧ Below y1.heap.size y1 w') ∧ Below x1.heap.size x1 w') (fun _ h => h.1) _ _ _ _ ?_
  replace hHeld := And.intro hHeld (Below.refl x1.heap.size x1)
  refine wpAnyH_take (i := 13) (v := .string SC) rfl (by kernel_rfl) (by kernel_rfl) (by kernel_rfl) (fun _ _ _ h => h) (Or.inl ⟨by rfl, by intro w hSw; have q := HST.out _ _ (HR12.out.later hSw.2); go_simp⟩) hHeld ?_
  try simp only [Act.put, List.setIfInBounds_toArray, List.set_cons_zero, List.set_cons_succ, List.getElem_toArray, List.getElem_cons_zero, List.getElem_cons_succ]
  refine wpAnyH_ready (rs := [15]) (by kernel_rfl) (by simp) ?_
  refine AllReadyH.cons rfl (fun K hK => ?_) AllReadyH.nil
  go_simp
  refine (HGC.out _ hHeld.1.1.2).mono ?_
  rintro _ x2 ⟨a15, n15, c15, rfl, hr15, hb15⟩
  refine hK.out _ _ (⟨⟨⟨hHeld.1.1.1.later hb15, hHeld.1.1.2.trans (hb15.mono hHeld.1.1.1.size)⟩, hHeld.1.2.trans (hb15.mono hHeld.1.2.size)⟩, hHeld.2.trans (hb15.mono hHeld.2.size)⟩) (fun hHeld => ?_)
  clear hK K
  try simp only [Act.put, List.setIfInBounds_toArray, List.set_cons_zero, List.set_cons_succ, List.getElem_toArray, List.getElem_cons_zero, List.getElem_cons_succ]
  have HR15 := hid hr15
  clear hr15 hb15
  refine wpAnyH_strong (S' := fun w' => (((HK L T w [(56, E, es), (35, G, ks), (40, L + 1, cs), (26, L, ps)] w' ∧ Below T wb w') ∧ Below y1.heap.size y1 w') ∧ Below x1.heap.size x1 w') ∧ Below x2.heap.size x2 w') (fun _ h => h.1) _ _ _ _ ?_
  replace hHeld := And.intro hHeld (Below.refl x2.heap.size x2)
  refine wpAnyH_take (i := 16) (v := .string SC) rfl (by kernel_rfl) (by kernel_rfl) (by kernel_rfl) (fun _ _ _ h => h) (Or.inl ⟨by rfl, by intro w hSw; have q := HST.out _ _ (HR15.out.later hSw.2); go_simp⟩) hHeld ?_
  try simp only [Act.put, List.setIfInBounds_toArray, List.set_cons_zero, List.set_cons_succ, List.getElem_toArray, List.getElem_cons_zero, List.getElem_cons_succ]
  refine wpAnyH_take (i := 17) (v := .bool false) rfl (by kernel_rfl) (by kernel_rfl) (by kernel_rfl) (fun _ _ _ h => h) (Or.inl ⟨by rfl, by intro w hSw; go_simp⟩) hHeld ?_
  try simp only [Act.put, List.setIfInBounds_toArray, List.set_cons_zero, List.set_cons_succ, List.getElem_toArray, List.getElem_cons_zero, List.getElem_cons_succ]
  refine wpAnyH_take (i := 18) (v := .bool false) rfl (by kernel_rfl) (by kernel_rfl) (by kernel_rfl) (fun _ _ _ h => h) (Or.inl ⟨by rfl, by intro w hSw; go_simp⟩) hHeld ?_
  try simp only [Act.put, List.setIfInBounds_toArray, List.set_cons_zero, List.set_cons_succ, List.getElem_toArray, List.getElem_cons_zero, List.getElem_cons_succ]
  refine wpAnyH_take (i := 19) (v := .bool false) rfl (by kernel_rfl) (by kernel_rfl) (by kernel_rfl) (fun _ _ _ h => h) (Or.inl ⟨by rfl, by intro w hSw; go_simp⟩) hHeld ?_
  try simp only [Act.put, List.setIfInBounds_toArray, List.set_cons_zero, List.set_cons_succ, List.getElem_toArray, List.getElem_cons_zero, List.getElem_cons_succ]
  refine wpAnyH_take (i := 20) (v := _) rfl (by kernel_rfl) (by kernel_rfl) (by kernel_rfl) (fun _ _ _ h => h) (yieldsIf_load_mid (by rfl) _ _ rfl _ _ rfl ks _ (fun w hSw => (hSw.1.1.1.1.tl.fst.range fun j v hv => by rw [Nat.zero_add]; exact hv)) Tryd.underlying35 rfl (by rw [HKL3.out]; exact HIK.out)) hHeld ?_
  try simp only [Act.put, List.setIfInBounds_toArray, List.set_cons_zero, List.set_cons_succ, List.getElem_toArray, List.getElem_cons_zero, List.getElem_cons_succ]
  refine wpAnyH_take (i := 21) (v := .int .i64 (hn3 : Int)) rfl (by kernel_rfl) (by kernel_rfl) (by kernel_rfl) (fun _ _ _ h => h) (Or.inl ⟨by rfl, by intro w hSw; go_simp⟩) hHeld ?_
  try simp only [Act.put, List.setIfInBounds_toArray, List.set_cons_zero, List.set_cons_succ, List.getElem_toArray, List.getElem_cons_zero, List.getElem_cons_succ]
  refine wpAnyH_take (i := 22) (v := _) rfl (by kernel_rfl) (by kernel_rfl) (by kernel_rfl) (fun _ _ _ h => h) (yieldsIf_load_mid (by rfl) _ _ rfl _ _ rfl es _ (fun w hSw => (hSw.1.1.1.1.fst.range fun j v hv => by rw [Nat.zero_add]; exact hv)) Tryd.underlying56 rfl (by rw [HEL.out]; exact HIE.out)) hHeld ?_
  try simp only [Act.put, List.setIfInBounds_toArray, List.set_cons_zero, List.set_cons_succ, List.getElem_toArray, List.getElem_cons_zero, List.getElem_cons_succ]
  refine wpAnyH_ready (rs := [23]) (by kernel_rfl) (by simp) ?_
  refine AllReadyH.cons rfl (fun K hK => ?_) AllReadyH.nil
  go_simp
  refine (HSK.out (hn3 : Int) _ (HTB.out _ hHeld.1.1.1.1.bel) hHeld.1.1.1.2).mono ?_
  rintro _ y3 ⟨rfl, hby3⟩
  rw [HCT.out]
  refine hK.out _ _ (⟨⟨⟨⟨hHeld.1.1.1.1.later hby3, hHeld.1.1.1.2.trans (hby3.mono hHeld.1.1.1.1.size)⟩, hHeld.1.1.2.trans (hby3.mono hHeld.1.1.2.size)⟩, hHeld.1.2.trans (hby3.mono hHeld.1.2.size)⟩, hHeld.2.trans (hby3.mono hHeld.2.size)⟩) (fun hHeld => ?_)
  clear hK K
  try simp only [Act.put, List.setIfInBounds_toArray, List.set_cons_zero, List.set_cons_succ, List.getElem_toArray, List.getElem_cons_zero, List.getElem_cons_succ]
  clear hby3
  refine wpAnyH_take (i := 24) (v := .bool false) rfl (by kernel_rfl) (by kernel_rfl) (by kernel_rfl) (fun _ _ _ h => h) (Or.inl ⟨by rfl, by intro w hSw; go_simp⟩) hHeld ?_
  try simp only [Act.put, List.setIfInBounds_toArray, List.set_cons_zero, List.set_cons_succ, List.getElem_toArray, List.getElem_cons_zero, List.getElem_cons_succ]
  refine wpAnyH_ready (rs := [25]) (by kernel_rfl) (by simp) ?_
  refine AllReadyH.cons rfl (fun K hK => ?_) AllReadyH.nil
  go_simp
  refine hK.out _ _ (hHeld) (fun hHeld => ?_)
  clear hK K
  try simp only [Act.put, List.setIfInBounds_toArray, List.set_cons_zero, List.set_cons_succ, List.getElem_toArray, List.getElem_cons_zero, List.getElem_cons_succ]
  refine wpAnyH_done (by kernel_rfl) ?_ _
  have HS9 := hid hHeld.1.1.1
  clear hHeld
  obtain ⟨oth, hot⟩ : ∃ oth : Nat, ((hn3 : Int) + 1).tmod 3 = (oth : Int) := ⟨(hn3 + 1) % 3, by rw [Int.tmod_eq_emod_of_nonneg (by omega)]; omega⟩
  have HOT := hid hot
  have HW1 := hid (show IntKind.i64.wrap ((hn3 : Int) + 1) = (hn3 : Int) + 1 by rw [IntKind.wrap_i64]; omega)
  obtain ⟨c1, hc1⟩ : ∃ c, chkE KY host0 en body o = c := ⟨_, rfl⟩
  have HC1 := hid hc1
  obtain ⟨c2, hc2⟩ : ∃ c, chkE KY (oth : Int) en body o = c := ⟨_, rfl⟩
  have HC2 := hid hc2
  clear hot hc1 hc2
  go_upto_region 11 with fail
  -- WALK11
  refine wp_region_held_drew (S := fun w' => HK L T w [(56, E, es), (35, G, ks), (40, L + 1, cs), (26, L, ps)] w' ∧ Below T wb w') (by kernel_rfl) (⟨HS9.out.1.drew, HS9.out.2.drew⟩) (fun hHeld => ?_)
  generalize y3.drew = wv at *
  refine wpAnyH_take (i := 0) (v := _) rfl (by kernel_rfl) (by kernel_rfl) (by kernel_rfl) (fun _ _ _ h => h) (yieldsIf_load_mid (by rfl) _ _ rfl _ _ rfl ks _ (fun w hSw => (hSw.1.tl.fst.range fun j v hv => by rw [Nat.zero_add]; exact hv)) Tryd.underlying35 rfl (by rw [HKL3.out]; exact HIK.out)) hHeld ?_
  try simp only [Act.put, List.setIfInBounds_toArray, List.set_cons_zero, List.set_cons_succ, List.getElem_toArray, List.getElem_cons_zero, List.getElem_cons_succ]
  refine wpAnyH_take (i := 1) (v := .int .i64 host0) rfl (by kernel_rfl) (by kernel_rfl) (by kernel_rfl) (fun _ _ _ h => h) (Or.inl ⟨by rfl, by intro w hSw; go_simp⟩) hHeld ?_
  try simp only [Act.put, List.setIfInBounds_toArray, List.set_cons_zero, List.set_cons_succ, List.getElem_toArray, List.getElem_cons_zero, List.getElem_cons_succ]
  refine wpAnyH_take (i := 2) (v := _) rfl (by kernel_rfl) (by kernel_rfl) (by kernel_rfl) (fun _ _ _ h => h) (yieldsIf_load_mid (by rfl) _ _ rfl _ _ rfl es _ (fun w hSw => (hSw.1.fst.range fun j v hv => by rw [Nat.zero_add]; exact hv)) Tryd.underlying56 rfl (by rw [HEL.out]; exact HIE.out)) hHeld ?_
  try simp only [Act.put, List.setIfInBounds_toArray, List.set_cons_zero, List.set_cons_succ, List.getElem_toArray, List.getElem_cons_zero, List.getElem_cons_succ]
  refine wpAnyH_take (i := 4) (v := _) rfl (by kernel_rfl) (by kernel_rfl) (by kernel_rfl) (fun _ _ _ h => h) (yieldsIf_load_mid (by rfl) _ _ rfl _ _ rfl ks _ (fun w hSw => (hSw.1.tl.fst.range fun j v hv => by rw [Nat.zero_add]; exact hv)) Tryd.underlying35 rfl (by rw [HKL3.out]; exact HIK.out)) hHeld ?_
  try simp only [Act.put, List.setIfInBounds_toArray, List.set_cons_zero, List.set_cons_succ, List.getElem_toArray, List.getElem_cons_zero, List.getElem_cons_succ]
  refine wpAnyH_take (i := 5) (v := .int .i64 host0) rfl (by kernel_rfl) (by kernel_rfl) (by kernel_rfl) (fun _ _ _ h => h) (Or.inl ⟨by rfl, by intro w hSw; go_simp⟩) hHeld ?_
  try simp only [Act.put, List.setIfInBounds_toArray, List.set_cons_zero, List.set_cons_succ, List.getElem_toArray, List.getElem_cons_zero, List.getElem_cons_succ]
  refine wpAnyH_take (i := 6) (v := _) rfl (by kernel_rfl) (by kernel_rfl) (by kernel_rfl) (fun _ _ _ h => h) (yieldsIf_load_mid (by rfl) _ _ rfl _ _ rfl es _ (fun w hSw => (hSw.1.fst.range fun j v hv => by rw [Nat.zero_add]; exact hv)) Tryd.underlying56 rfl (by rw [HEL.out]; exact HIE.out)) hHeld ?_
  try simp only [Act.put, List.setIfInBounds_toArray, List.set_cons_zero, List.set_cons_succ, List.getElem_toArray, List.getElem_cons_zero, List.getElem_cons_succ]
  refine wpAnyH_ready (rs := [3]) (by kernel_rfl) (by simp) ?_
  refine AllReadyH.cons rfl (fun K hK => ?_) AllReadyH.nil
  go_simp
  refine (HSK.out host0 _ (HTB.out _ hHeld.1.bel) hHeld.2).mono ?_
  rintro _ z1 ⟨rfl, hbz1⟩
  rw [HC1.out]
  refine hK.out _ _ (⟨hHeld.1.later hbz1, hHeld.2.trans (hbz1.mono hHeld.1.size)⟩) (fun hHeld => ?_)
  clear hK K
  try simp only [Act.put, List.setIfInBounds_toArray, List.set_cons_zero, List.set_cons_succ, List.getElem_toArray, List.getElem_cons_zero, List.getElem_cons_succ]
  clear hbz1
  refine wpAnyH_ready (rs := [7]) (by kernel_rfl) (by simp) ?_
  refine AllReadyH.cons rfl (fun K hK => ?_) AllReadyH.nil
  go_simp
  refine (HGK.out host0 _ (HTB.out _ hHeld.1.bel) hHeld.2).mono ?_
  rintro _ z2 ⟨rfl, hbz2⟩
  rw [HC1.out]
  refine hK.out _ _ (⟨hHeld.1.later hbz2, hHeld.2.trans (hbz2.mono hHeld.1.size)⟩) (fun hHeld => ?_)
  clear hK K
  try simp only [Act.put, List.setIfInBounds_toArray, List.set_cons_zero, List.set_cons_succ, List.getElem_toArray, List.getElem_cons_zero, List.getElem_cons_succ]
  clear hbz2
  refine wpAnyH_take (i := 8) (v := .bool false) rfl (by kernel_rfl) (by kernel_rfl) (by kernel_rfl) (fun _ _ _ h => h) (Or.inl ⟨by rfl, by intro w hSw; cases c1 <;> go_simp⟩) hHeld ?_
  try simp only [Act.put, List.setIfInBounds_toArray, List.set_cons_zero, List.set_cons_succ, List.getElem_toArray, List.getElem_cons_zero, List.getElem_cons_succ]
  refine wpAnyH_take (i := 9) (v := .bool false) rfl (by kernel_rfl) (by kernel_rfl) (by kernel_rfl) (fun _ _ _ h => h) (Or.inl ⟨by rfl, by intro w hSw; go_simp⟩) hHeld ?_
  try simp only [Act.put, List.setIfInBounds_toArray, List.set_cons_zero, List.set_cons_succ, List.getElem_toArray, List.getElem_cons_zero, List.getElem_cons_succ]
  refine wpAnyH_take (i := 10) (v := _) rfl (by kernel_rfl) (by kernel_rfl) (by kernel_rfl) (fun _ _ _ h => h) (yieldsIf_load_mid (by rfl) _ _ rfl _ _ rfl ks _ (fun w hSw => (hSw.1.tl.fst.range fun j v hv => by rw [Nat.zero_add]; exact hv)) Tryd.underlying35 rfl (by rw [HKL3.out]; exact HIK.out)) hHeld ?_
  try simp only [Act.put, List.setIfInBounds_toArray, List.set_cons_zero, List.set_cons_succ, List.getElem_toArray, List.getElem_cons_zero, List.getElem_cons_succ]
  refine wpAnyH_take (i := 11) (v := .int .i64 (hn3 : Int)) rfl (by kernel_rfl) (by kernel_rfl) (by kernel_rfl) (fun _ _ _ h => h) (Or.inl ⟨by rfl, by intro w hSw; go_simp⟩) hHeld ?_
  try simp only [Act.put, List.setIfInBounds_toArray, List.set_cons_zero, List.set_cons_succ, List.getElem_toArray, List.getElem_cons_zero, List.getElem_cons_succ]
  refine wpAnyH_take (i := 12) (v := .int .i64 ((hn3 : Int) + 1)) rfl (by kernel_rfl) (by kernel_rfl) (by kernel_rfl) (fun _ _ _ h => h) (Or.inl ⟨by rfl, by intro w hSw; have q := HW1.out; go_simp⟩) hHeld ?_
  try simp only [Act.put, List.setIfInBounds_toArray, List.set_cons_zero, List.set_cons_succ, List.getElem_toArray, List.getElem_cons_zero, List.getElem_cons_succ]
  refine wpAnyH_take (i := 13) (v := .int .i64 (oth : Int)) rfl (by kernel_rfl) (by kernel_rfl) (by kernel_rfl) (fun _ _ _ h => h) (Or.inl ⟨by rfl, by intro w hSw; have q := HOT.out; go_simp; first | done | (rw [q])⟩) hHeld ?_
  try simp only [Act.put, List.setIfInBounds_toArray, List.set_cons_zero, List.set_cons_succ, List.getElem_toArray, List.getElem_cons_zero, List.getElem_cons_succ]
  refine wpAnyH_take (i := 14) (v := _) rfl (by kernel_rfl) (by kernel_rfl) (by kernel_rfl) (fun _ _ _ h => h) (yieldsIf_load_mid (by rfl) _ _ rfl _ _ rfl es _ (fun w hSw => (hSw.1.fst.range fun j v hv => by rw [Nat.zero_add]; exact hv)) Tryd.underlying56 rfl (by rw [HEL.out]; exact HIE.out)) hHeld ?_
  try simp only [Act.put, List.setIfInBounds_toArray, List.set_cons_zero, List.set_cons_succ, List.getElem_toArray, List.getElem_cons_zero, List.getElem_cons_succ]
  refine wpAnyH_take (i := 16) (v := _) rfl (by kernel_rfl) (by kernel_rfl) (by kernel_rfl) (fun _ _ _ h => h) (yieldsIf_load_mid (by rfl) _ _ rfl _ _ rfl ks _ (fun w hSw => (hSw.1.tl.fst.range fun j v hv => by rw [Nat.zero_add]; exact hv)) Tryd.underlying35 rfl (by rw [HKL3.out]; exact HIK.out)) hHeld ?_
  try simp only [Act.put, List.setIfInBounds_toArray, List.set_cons_zero, List.set_cons_succ, List.getElem_toArray, List.getElem_cons_zero, List.getElem_cons_succ]
  refine wpAnyH_take (i := 17) (v := .int .i64 (hn3 : Int)) rfl (by kernel_rfl) (by kernel_rfl) (by kernel_rfl) (fun _ _ _ h => h) (Or.inl ⟨by rfl, by intro w hSw; go_simp⟩) hHeld ?_
  try simp only [Act.put, List.setIfInBounds_toArray, List.set_cons_zero, List.set_cons_succ, List.getElem_toArray, List.getElem_cons_zero, List.getElem_cons_succ]
  refine wpAnyH_take (i := 18) (v := .int .i64 ((hn3 : Int) + 1)) rfl (by kernel_rfl) (by kernel_rfl) (by kernel_rfl) (fun _ _ _ h => h) (Or.inl ⟨by rfl, by intro w hSw; have q := HW1.out; go_simp⟩) hHeld ?_
  try simp only [Act.put, List.setIfInBounds_toArray, List.set_cons_zero, List.set_cons_succ, List.getElem_toArray, List.getElem_cons_zero, List.getElem_cons_succ]
  refine wpAnyH_take (i := 19) (v := .int .i64 (oth : Int)) rfl (by kernel_rfl) (by kernel_rfl) (by kernel_rfl) (fun _ _ _ h => h) (Or.inl ⟨by rfl, by intro w hSw; have q := HOT.out; go_simp; first | done | (rw [q])⟩) hHeld ?_
  try simp only [Act.put, List.setIfInBounds_toArray, List.set_cons_zero, List.set_cons_succ, List.getElem_toArray, List.getElem_cons_zero, List.getElem_cons_succ]
  refine wpAnyH_take (i := 20) (v := _) rfl (by kernel_rfl) (by kernel_rfl) (by kernel_rfl) (fun _ _ _ h => h) (yieldsIf_load_mid (by rfl) _ _ rfl _ _ rfl es _ (fun w hSw => (hSw.1.fst.range fun j v hv => by rw [Nat.zero_add]; exact hv)) Tryd.underlying56 rfl (by rw [HEL.out]; exact HIE.out)) hHeld ?_
  try simp only [Act.put, List.setIfInBounds_toArray, List.set_cons_zero, List.set_cons_succ, List.getElem_toArray, List.getElem_cons_zero, List.getElem_cons_succ]
  refine wpAnyH_ready (rs := [15]) (by kernel_rfl) (by simp) ?_
  refine AllReadyH.cons rfl (fun K hK => ?_) AllReadyH.nil
  go_simp
  refine (HSK.out (oth : Int) _ (HTB.out _ hHeld.1.bel) hHeld.2).mono ?_
  rintro _ z3 ⟨rfl, hbz3⟩
  rw [HC2.out]
  refine hK.out _ _ (⟨hHeld.1.later hbz3, hHeld.2.trans (hbz3.mono hHeld.1.size)⟩) (fun hHeld => ?_)
  clear hK K
  try simp only [Act.put, List.setIfInBounds_toArray, List.set_cons_zero, List.set_cons_succ, List.getElem_toArray, List.getElem_cons_zero, List.getElem_cons_succ]
  clear hbz3
  refine wpAnyH_ready (rs := [21]) (by kernel_rfl) (by simp) ?_
  refine AllReadyH.cons rfl (fun K hK => ?_) AllReadyH.nil
  go_simp
  refine (HGK.out (oth : Int) _ (HTB.out _ hHeld.1.bel) hHeld.2).mono ?_
  rintro _ z4 ⟨rfl, hbz4⟩
  rw [HC2.out]
  refine hK.out _ _ (⟨hHeld.1.later hbz4, hHeld.2.trans (hbz4.mono hHeld.1.size)⟩) (fun hHeld => ?_)
  clear hK K
  try simp only [Act.put, List.setIfInBounds_toArray, List.set_cons_zero, List.set_cons_succ, List.getElem_toArray, List.getElem_cons_zero, List.getElem_cons_succ]
  clear hbz4
  refine wpAnyH_take (i := 22) (v := .bool false) rfl (by kernel_rfl) (by kernel_rfl) (by kernel_rfl) (fun _ _ _ h => h) (Or.inl ⟨by rfl, by intro w hSw; cases c2 <;> go_simp⟩) hHeld ?_
  try simp only [Act.put, List.setIfInBounds_toArray, List.set_cons_zero, List.set_cons_succ, List.getElem_toArray, List.getElem_cons_zero, List.getElem_cons_succ]
  refine wpAnyH_ready (rs := [23]) (by kernel_rfl) (by simp) ?_
  refine AllReadyH.cons rfl (fun K hK => ?_) AllReadyH.nil
  go_simp
  refine hK.out _ _ (hHeld) (fun hHeld => ?_)
  clear hK K
  try simp only [Act.put, List.setIfInBounds_toArray, List.set_cons_zero, List.set_cons_succ, List.getElem_toArray, List.getElem_cons_zero, List.getElem_cons_succ]
  refine wpAnyH_done (by kernel_rfl) ?_ _
  have HS11 := hid hHeld
  clear hHeld HS9 HSC HGC HGE HST
  have HZE := hid (HEW.out _ HS11.out.1.fst)
  have HBZ := hid (show Below E w7 z4 from HB9.out.trans (HS11.out.2.mono (by omega)))
  have HFIN := hid (show ∀ w' en' ov' o', EnW w' 56 E en' (.slice ea n ec) ov' → (Below w7.heap.size w7 w' → RC w' ov' o') → FewS o' → Below E w7 w' → AfterE L G E w ks KY (.slice ea n ec) body w' from fun w' en' ov' o' h1 h2 h3 h4 =>
    ⟨en', ov', o', h1, h2 (by rw [HE.out]; exact h4), h3, HRE7.out.later (by rw [HE.out]; exact h4), HK7.out.later (by rw [HE.out]; exact h4), HKW7.out.later (by rw [HE.out]; exact h4), Hb7.out.trans (h4.mono (by omega))⟩)
  obtain ⟨q5, hq5⟩ : ∃ hn : Nat, which % 5 = (hn : Int) := ⟨(which % 5).toNat, by omega⟩
  have HQ5 := hid hq5
  have hq5l : q5 < 5 := by omega
  clear hq5
  go_wp2_with fail
  refine (within9_any which 5 (by omega) (by omega) _).mono ?_
  rintro _ wx ⟨rfl, hwx⟩
  rw [hwx, HQ5.out]
  clear hwx
  go_upto_block 0 with fail
  go_cut [97] (fun s w' => AfterE L G E w ks KY (.slice ea n ec) body w')
  case first =>
    obtain ⟨ix, hix'⟩ : ∃ hn : Nat, at0 % 32 = (hn : Int) := ⟨(at0 % 32).toNat, by omega⟩
    have HIX := hid hix'
    have hix : ix < 32 := by omega
    have hixi : (ix : Int) < 32 := by omega
    clear hix'
    have hq : q5 = 0 ∨ q5 = 1 ∨ q5 = 2 ∨ q5 = 3 ∨ q5 = 4 := by omega
    clear hq5l HQ5 HSK HGK
    rcases hq with rfl | rfl | rfl | rfl | rfl
    · have cx := HZE.out.at_
      have fx := HZE.out.frozen 33
      go_wp2_with fail
      go_meet
      exact HFIN.out _ _ _ _ (HZE.out.put_at _) (fun h => HH7.out.later h) HF.out (HBZ.out.setCell (Nat.le_refl E) _)
    · skip
      obtain ⟨x, hx⟩ := byte_in9 (i := ix) HZE.out.ok.h2 hix
      have cx : z4.cell? ⟨E, 35 + ix, none⟩ = some (.int .u8 x.toNat) := HZE.out.hash ix _ hx
      have fx : z4.frozen? ⟨E, 35 + ix, none⟩ = false := HZE.out.frozen (35 + ix)
      have hadd := byte_add x by_
      go_wp2_with fail
      refine (within9_any at0 32 (by omega) (by omega) _).mono ?_
      rintro _ wj ⟨rfl, hwj⟩
      rw [hwj, HIX.out]
      clear hwj
      go_wp2_with fail
      go_meet
      exact HFIN.out _ _ _ _ (HZE.out.put_hash ix hix (x + by_)) (fun h => HH7.out.later h) HF.out (HBZ.out.setCell (Nat.le_refl E) _)
    · skip
      obtain ⟨x, hx⟩ := byte_in9 (i := ix) HZE.out.ok.h3 hix
      have cx : z4.cell? ⟨E, 67 + ix, none⟩ = some (.int .u8 x.toNat) := HZE.out.mac ix _ hx
      have fx : z4.frozen? ⟨E, 67 + ix, none⟩ = false := HZE.out.frozen (67 + ix)
      have hadd := byte_add x by_
      go_wp2_with fail
      refine (within9_any at0 32 (by omega) (by omega) _).mono ?_
      rintro _ wj ⟨rfl, hwj⟩
      rw [hwj, HIX.out]
      clear hwj
      go_wp2_with fail
      go_meet
      exact HFIN.out _ _ _ _ (HZE.out.put_mac ix hix (x + by_)) (fun h => HH7.out.later h) HF.out (HBZ.out.setCell (Nat.le_refl E) _)
    · skip
      obtain ⟨x, hx⟩ := byte_in9 (i := ix) HZE.out.ok.h1 hix
      have cx : z4.cell? ⟨E, 1 + ix, none⟩ = some (.int .u8 x.toNat) := HZE.out.m1 ix _ hx
      have fx : z4.frozen? ⟨E, 1 + ix, none⟩ = false := HZE.out.frozen (1 + ix)
      have hadd := byte_add x by_
      go_wp2_with fail
      refine (within9_any at0 32 (by omega) (by omega) _).mono ?_
      rintro _ wj ⟨rfl, hwj⟩
      rw [hwj, HIX.out]
      clear hwj
      go_wp2_with fail
      go_meet
      exact HFIN.out _ _ _ _ (HZE.out.put_m1 ix hix (x + by_)) (fun h => HH7.out.later h) HF.out (HBZ.out.setCell (Nat.le_refl E) _)
    · have c34 : ∀ ob, (z4.alloc ob).cell? ⟨E, 34, none⟩ = some v10 := fun ob => (HZE.out.later ((Below.refl _ _).alloc (Nat.le_refl _) ob)).op
      have hEz : E < z4.heap.size := HZE.out.lt
      have HO4 := hid (show RC z4 v10 o from HH7.out.later (by rw [HE.out]; exact HBZ.out))
      have HFX := hid (show FewS (o ++ [⟨2, 0, ⟨#[120]⟩⟩]) from ⟨by have := HLEN.out; simp; omega, fun c hc => by
        rcases List.mem_append.1 hc with h | h
        · exact HF.out.2 c h
        · simp at h; subst h; decide⟩)
      go_wp2_with (first
        | (show wpList _ _ _ (⟨some 142, _, _, _, _, _⟩ :: _) _ _; go_must (refine wpList_append_c rfl (.tmp 139) (.tmp 141) rfl z4.heap.size _ [] rfl (parts_new z4 [] 0 rfl) (by simp) _ o rfl (HO4.out.later ((Below.refl _ _).alloc (Nat.le_refl _) _)) (by have := HF.out.1; simp; omega) ?_); intro v2 w2 hH2 hb2; have HH2 := hid (show HasC w2 z4.heap.size v2 o from hH2); have HZ2 := hid (show EnW w2 56 E en (.slice ea n ec) v10 ∧ Below z4.heap.size z4 w2 from ⟨(HZE.out.later ((Below.refl _ _).alloc (Nat.le_refl _) _)).kept (hb2.block E hEz), ((Below.refl z4.heap.size z4).alloc (Nat.le_refl _) _).trans hb2⟩); clear hH2 hb2)
        | (show wpList _ _ _ (⟨some 145, _, _, _, _, _⟩ :: _) _ _; go_must (refine wpList_append_c rfl (.tmp 142) (.tmp 144) rfl z4.heap.size v2 o rfl (HH2.out.later ((Below.refl _ _).alloc (Nat.le_refl _) _)) (by have := HZ2.out.2.size; simp; omega) _ [⟨2, 0, ⟨#[120]⟩⟩] rfl (one_new w2 ⟨2, 0, ⟨#[120]⟩⟩ w2.heap.size (Nat.le_refl _)).reads (by have := HF.out.1; simp; omega) ?_); intro v3 w3 hH3 hb3; obtain ⟨a3, p3, hv3⟩ := hH3.form; obtain ⟨l3, hl3⟩ : ∃ l, (o ++ [⟨2, 0, ⟨#[120]⟩⟩] : List Cp).length = l := ⟨_, rfl⟩; rw [hl3] at hv3; clear hl3; subst hv3; have HH3 := hid hH3; have HZ3 := hid (show EnW w3 56 E en (.slice ea n ec) v10 ∧ Below z4.heap.size z4 w3 from ⟨(HZ2.out.1.later ((Below.refl _ _).alloc (Nat.le_refl _) _)).kept (hb3.block E hEz), (HZ2.out.2.alloc HZ2.out.2.size _).trans hb3⟩); have c34b := HZ3.out.1.op; have f34b := HZ3.out.1.frozen 34; clear hH3 hb3))
      go_meet
      exact HFIN.out _ _ _ _ (HZ3.out.1.put_op _) (fun _ => (HH3.out.kept9 fun k hk => heap_setCell_other _ _ _ _ (by have := HH3.out.ge9 hk; show k ≠ E; omega)).reads) HFX.out ((HBZ.out.trans (HZ3.out.2.mono (by omega))).setCell (Nat.le_refl E) _)
  case rest =>
  clear HZE HBZ HFIN HSK HGK HS11 HEW HKW HRE HCO HVO HRB HB9 HCT HEL HES HOK HRE7 HK7 HKW7 Hb7 HH7 HLEN HF
  obtain ⟨en', ov', o', hE', hC', hF', hR', hK', hKW', hB'⟩ := hcut
  have HOK := hid hE'.ok
  have HF := hid hF'
  obtain ⟨es', hes'⟩ : ∃ es, en'.cells (.slice ea n ec) ov' = es := ⟨_, rfl⟩
  have HES := hid hes'
  have HEL := hid (show es'.length = 99 by rw [← hes']; exact En.len HOK.out)
  obtain ⟨wd, hwd⟩ : ∃ wd, wc.drew = wd := ⟨_, rfl⟩
  have hEl : E < wc.heap.size := hE'.lt
  obtain ⟨U, hU⟩ : ∃ U, wd.heap.size = U := ⟨_, rfl⟩
  have HUS := hid hU
  have hEU : E < U := by rw [← hU, ← hwd]; exact hEl
  have HS := hid (show HK L U w [(56, E, es'), (35, G, ks)] wd ∧ Below U wd wd from
    ⟨HK.cons (HK.cons (HK.nil (by omega) (by rw [← hwd]; exact hB'.drew) (by omega)) (by rw [← hwd]; exact hK'.drewN 1) (by omega)) (by rw [← hes', ← hwd]; exact hE'.blk.drewN 1) (by omega), Below.refl _ _⟩)
  have hb0 : Below wc.heap.size wc wd := by rw [← hwd]; exact (Below.refl _ _).drew
  have HRE := hid (hR'.later hb0)
  have HCO := hid (hC'.later hb0)
  have HKW := hid (hKW'.later hb0)
  obtain ⟨core', hcore⟩ : ∃ core, coreB en' body o' = core := ⟨_, rfl⟩
  have HGC := hid (show ∀ wx, Below U wd wx → Calls Tryd.prog 26 #[.agg es'.toArray] wx (fun x w' => ∃ a n c, x = .returned (.slice a n c) ∧ Reads w' (.slice a n c) (B core') ∧ Below wx.heap.size wx w') from fun wx h => by
    have := gCore_any en' HOK.out (.slice ea n ec) ov' body o' wx (HRE.out.later (by rw [HUS.out]; exact h)) hbl (HCO.out.later (by rw [HUS.out]; exact h)) HF.out
    rw [HES.out, hcore] at this
    refine this.mono ?_
    rintro _ w' ⟨g, c, rfl, h1, h2, h3⟩
    exact ⟨_, _, c, rfl, h2.reads, h3⟩)
  have HSC := hid (show ∀ wx, Below U wd wx → Calls Tryd.prog 25 #[.agg es'.toArray] wx (fun x w' => ∃ a n c, x = .returned (.slice a n c) ∧ Reads w' (.slice a n c) (B core') ∧ Below wx.heap.size wx w') from fun wx h => by
    have := sCore_any en' HOK.out (.slice ea n ec) ov' body o' wx (HRE.out.later (by rw [HUS.out]; exact h)) hbl (HCO.out.later (by rw [HUS.out]; exact h)) HF.out
    rw [HES.out, hcore] at this
    refine this.mono ?_
    rintro _ w' ⟨a, n, c, rfl, h1, h2, h3, h4⟩
    exact ⟨a, n, c, rfl, h3, h4⟩)
  have HSK := hid (show ∀ (host : Int) wx, Tabs wx → Below U wd wx → Calls Tryd.prog 27 #[.agg ks.toArray, .int .i64 host, .agg es'.toArray] wx (fun x w' => x = .returned (.bool (chkE KY host en' body o')) ∧ Below wx.heap.size wx w') from fun host wx ht h => by
    rw [← HES.out]
    exact sCheck_any ks KY host en' HOK.out _ ov' body o' wx ht (HKW.out.later (by rw [HUS.out]; exact h)) (HRE.out.later (by rw [HUS.out]; exact h)) hbl (HCO.out.later (by rw [HUS.out]; exact h)) HF.out)
  have HGK := hid (show ∀ (host : Int) wx, Tabs wx → Below U wd wx → Calls Tryd.prog 28 #[.agg ks.toArray, .int .i64 host, .agg es'.toArray] wx (fun x w' => x = .returned (.bool (chkE KY host en' body o')) ∧ Below wx.heap.size wx w') from fun host wx ht h => by
    rw [← HES.out]
    exact gCheck_any ks KY host en' HOK.out _ ov' body o' wx (HKW.out.later (by rw [HUS.out]; exact h)) (HRE.out.later (by rw [HUS.out]; exact h)) hbl (HCO.out.later (by rw [HUS.out]; exact h)) HF.out)
  obtain ⟨SC, hSC⟩ : ∃ S : ByteArray, (⟨core'.toArray⟩ : ByteArray) = S := ⟨_, rfl⟩
  have HST := hid (show ∀ wx v, Reads wx v (B core') → (convert 22 9 v).run Tryd.prog wx = .ok (.string SC) wx from fun wx v h => by rw [← hSC]; exact run_string (P := Tryd.prog) wx 22 9 5 Tryd.underlying22 Tryd.underlying5 Tryd.underlying9 h)
  obtain ⟨c3, hc3⟩ : ∃ c, chkE KY (hn3 : Int) en' body o' = c := ⟨_, rfl⟩
  have HC3 := hid hc3
  clear hc3 hSC hcore hU hE' hC' hF' hR' hK' hKW' hB' hes' hb0
  go_upto_region 24 with fail
  -- WALK24
  refine wp_region_held_drew (S := fun w' => HK L U w [(56, E, es'), (35, G, ks)] w' ∧ Below U wd w') (by kernel_rfl) ((by rw [hwd]; exact HS.out)) (fun hHeld => ?_)
  rw [hwd] at hHeld ⊢
  clear hwd
  refine wpAnyH_take (i := 0) (v := _) rfl (by kernel_rfl) (by kernel_rfl) (by kernel_rfl) (fun _ _ _ h => h) (yieldsIf_load_mid (by rfl) _ _ rfl _ _ rfl ks _ (fun w hSw => (hSw.1.tl.fst.range fun j v hv => by rw [Nat.zero_add]; exact hv)) Tryd.underlying35 rfl (by rw [HKL3.out]; exact HIK.out)) hHeld ?_
  try simp only [Act.put, List.setIfInBounds_toArray, List.set_cons_zero, List.set_cons_succ, List.getElem_toArray, List.getElem_cons_zero, List.getElem_cons_succ]
  refine wpAnyH_take (i := 1) (v := .int .i64 (hn3 : Int)) rfl (by kernel_rfl) (by kernel_rfl) (by kernel_rfl) (fun _ _ _ h => h) (Or.inl ⟨by rfl, by intro w hSw; go_simp⟩) hHeld ?_
  try simp only [Act.put, List.setIfInBounds_toArray, List.set_cons_zero, List.set_cons_succ, List.getElem_toArray, List.getElem_cons_zero, List.getElem_cons_succ]
  refine wpAnyH_take (i := 2) (v := _) rfl (by kernel_rfl) (by kernel_rfl) (by kernel_rfl) (fun _ _ _ h => h) (yieldsIf_load_mid (by rfl) _ _ rfl _ _ rfl es' _ (fun w hSw => (hSw.1.fst.range fun j v hv => by rw [Nat.zero_add]; exact hv)) Tryd.underlying56 rfl (by rw [HEL.out]; exact HIE.out)) hHeld ?_
  try simp only [Act.put, List.setIfInBounds_toArray, List.set_cons_zero, List.set_cons_succ, List.getElem_toArray, List.getElem_cons_zero, List.getElem_cons_succ]
  refine wpAnyH_take (i := 4) (v := _) rfl (by kernel_rfl) (by kernel_rfl) (by kernel_rfl) (fun _ _ _ h => h) (yieldsIf_load_mid (by rfl) _ _ rfl _ _ rfl ks _ (fun w hSw => (hSw.1.tl.fst.range fun j v hv => by rw [Nat.zero_add]; exact hv)) Tryd.underlying35 rfl (by rw [HKL3.out]; exact HIK.out)) hHeld ?_
  try simp only [Act.put, List.setIfInBounds_toArray, List.set_cons_zero, List.set_cons_succ, List.getElem_toArray, List.getElem_cons_zero, List.getElem_cons_succ]
  refine wpAnyH_take (i := 5) (v := .int .i64 (hn3 : Int)) rfl (by kernel_rfl) (by kernel_rfl) (by kernel_rfl) (fun _ _ _ h => h) (Or.inl ⟨by rfl, by intro w hSw; go_simp⟩) hHeld ?_
  try simp only [Act.put, List.setIfInBounds_toArray, List.set_cons_zero, List.set_cons_succ, List.getElem_toArray, List.getElem_cons_zero, List.getElem_cons_succ]
  refine wpAnyH_take (i := 6) (v := _) rfl (by kernel_rfl) (by kernel_rfl) (by kernel_rfl) (fun _ _ _ h => h) (yieldsIf_load_mid (by rfl) _ _ rfl _ _ rfl es' _ (fun w hSw => (hSw.1.fst.range fun j v hv => by rw [Nat.zero_add]; exact hv)) Tryd.underlying56 rfl (by rw [HEL.out]; exact HIE.out)) hHeld ?_
  try simp only [Act.put, List.setIfInBounds_toArray, List.set_cons_zero, List.set_cons_succ, List.getElem_toArray, List.getElem_cons_zero, List.getElem_cons_succ]
  refine wpAnyH_ready (rs := [3]) (by kernel_rfl) (by simp) ?_
  refine AllReadyH.cons rfl (fun K hK => ?_) AllReadyH.nil
  go_simp
  refine (HSK.out (hn3 : Int) _ (HTB.out _ hHeld.1.bel) hHeld.2).mono ?_
  rintro _ v1 ⟨rfl, hbv1⟩
  rw [HC3.out]
  refine hK.out _ _ (⟨hHeld.1.later hbv1, hHeld.2.trans (hbv1.mono hHeld.1.size)⟩) (fun hHeld => ?_)
  clear hK K
  try simp only [Act.put, List.setIfInBounds_toArray, List.set_cons_zero, List.set_cons_succ, List.getElem_toArray, List.getElem_cons_zero, List.getElem_cons_succ]
  clear hbv1
  refine wpAnyH_ready (rs := [7]) (by kernel_rfl) (by simp) ?_
  refine AllReadyH.cons rfl (fun K hK => ?_) AllReadyH.nil
  go_simp
  refine (HGK.out (hn3 : Int) _ (HTB.out _ hHeld.1.bel) hHeld.2).mono ?_
  rintro _ v2 ⟨rfl, hbv2⟩
  rw [HC3.out]
  refine hK.out _ _ (⟨hHeld.1.later hbv2, hHeld.2.trans (hbv2.mono hHeld.1.size)⟩) (fun hHeld => ?_)
  clear hK K
  try simp only [Act.put, List.setIfInBounds_toArray, List.set_cons_zero, List.set_cons_succ, List.getElem_toArray, List.getElem_cons_zero, List.getElem_cons_succ]
  clear hbv2
  refine wpAnyH_take (i := 8) (v := .bool true) rfl (by kernel_rfl) (by kernel_rfl) (by kernel_rfl) (fun _ _ _ h => h) (Or.inl ⟨by rfl, by intro w hSw; cases c3 <;> go_simp⟩) hHeld ?_
  try simp only [Act.put, List.setIfInBounds_toArray, List.set_cons_zero, List.set_cons_succ, List.getElem_toArray, List.getElem_cons_zero, List.getElem_cons_succ]
  refine wpAnyH_take (i := 9) (v := .bool true) rfl (by kernel_rfl) (by kernel_rfl) (by kernel_rfl) (fun _ _ _ h => h) (Or.inl ⟨by rfl, by intro w hSw; go_simp⟩) hHeld ?_
  try simp only [Act.put, List.setIfInBounds_toArray, List.set_cons_zero, List.set_cons_succ, List.getElem_toArray, List.getElem_cons_zero, List.getElem_cons_succ]
  refine wpAnyH_take (i := 10) (v := _) rfl (by kernel_rfl) (by kernel_rfl) (by kernel_rfl) (fun _ _ _ h => h) (yieldsIf_load_mid (by rfl) _ _ rfl _ _ rfl es' _ (fun w hSw => (hSw.1.fst.range fun j v hv => by rw [Nat.zero_add]; exact hv)) Tryd.underlying56 rfl (by rw [HEL.out]; exact HIE.out)) hHeld ?_
  try simp only [Act.put, List.setIfInBounds_toArray, List.set_cons_zero, List.set_cons_succ, List.getElem_toArray, List.getElem_cons_zero, List.getElem_cons_succ]
  refine wpAnyH_take (i := 13) (v := _) rfl (by kernel_rfl) (by kernel_rfl) (by kernel_rfl) (fun _ _ _ h => h) (yieldsIf_load_mid (by rfl) _ _ rfl _ _ rfl es' _ (fun w hSw => (hSw.1.fst.range fun j v hv => by rw [Nat.zero_add]; exact hv)) Tryd.underlying56 rfl (by rw [HEL.out]; exact HIE.out)) hHeld ?_
  try simp only [Act.put, List.setIfInBounds_toArray, List.set_cons_zero, List.set_cons_succ, List.getElem_toArray, List.getElem_cons_zero, List.getElem_cons_succ]
  refine wpAnyH_ready (rs := [11]) (by kernel_rfl) (by simp) ?_
  refine AllReadyH.cons rfl (fun K hK => ?_) AllReadyH.nil
  go_simp
  refine (HSC.out _ hHeld.2).mono ?_
  rintro _ u1 ⟨a11, n11, c11, rfl, hr11, hb11⟩
  refine hK.out _ _ (⟨hHeld.1.later hb11, hHeld.2.trans (hb11.mono hHeld.1.size)⟩) (fun hHeld => ?_)
  clear hK K
  try simp only [Act.put, List.setIfInBounds_toArray, List.set_cons_zero, List.set_cons_succ, List.getElem_toArray, List.getElem_cons_zero, List.getElem_cons_succ]
  have HR11 := hid hr11
  clear hr11 hb11
  refine wpAnyH_strong (S' := fun w' => (HK L U w [(56, E, es'), (35, G, ks)] w' ∧ Below U wd w') ∧ Below u1.heap.size u1 w') (fun _ h => h.1) _ _ _ _ ?_
  replace hHeld := And.intro hHeld (Below.refl u1.heap.size u1)
  refine wpAnyH_take (i := 12) (v := .string SC) rfl (by kernel_rfl) (by kernel_rfl) (by kernel_rfl) (fun _ _ _ h => h) (Or.inl ⟨by rfl, by intro w hSw; have q := HST.out _ _ (HR11.out.later hSw.2); go_simp⟩) hHeld ?_
  try simp only [Act.put, List.setIfInBounds_toArray, List.set_cons_zero, List.set_cons_succ, List.getElem_toArray, List.getElem_cons_zero, List.getElem_cons_succ]
  refine wpAnyH_ready (rs := [14]) (by kernel_rfl) (by simp) ?_
  refine AllReadyH.cons rfl (fun K hK => ?_) AllReadyH.nil
  go_simp
  refine (HGC.out _ hHeld.1.2).mono ?_
  rintro _ u2 ⟨a14, n14, c14, rfl, hr14, hb14⟩
  refine hK.out _ _ (⟨⟨hHeld.1.1.later hb14, hHeld.1.2.trans (hb14.mono hHeld.1.1.size)⟩, hHeld.2.trans (hb14.mono hHeld.2.size)⟩) (fun hHeld => ?_)
  clear hK K
  try simp only [Act.put, List.setIfInBounds_toArray, List.set_cons_zero, List.set_cons_succ, List.getElem_toArray, List.getElem_cons_zero, List.getElem_cons_succ]
  have HR14 := hid hr14
  clear hr14 hb14
  refine wpAnyH_strong (S' := fun w' => ((HK L U w [(56, E, es'), (35, G, ks)] w' ∧ Below U wd w') ∧ Below u1.heap.size u1 w') ∧ Below u2.heap.size u2 w') (fun _ h => h.1) _ _ _ _ ?_
  replace hHeld := And.intro hHeld (Below.refl u2.heap.size u2)
  refine wpAnyH_take (i := 15) (v := .string SC) rfl (by kernel_rfl) (by kernel_rfl) (by kernel_rfl) (fun _ _ _ h => h) (Or.inl ⟨by rfl, by intro w hSw; have q := HST.out _ _ (HR14.out.later hSw.2); go_simp⟩) hHeld ?_
  try simp only [Act.put, List.setIfInBounds_toArray, List.set_cons_zero, List.set_cons_succ, List.getElem_toArray, List.getElem_cons_zero, List.getElem_cons_succ]
  refine wpAnyH_take (i := 16) (v := .bool true) rfl (by kernel_rfl) (by kernel_rfl) (by kernel_rfl) (fun _ _ _ h => h) (Or.inl ⟨by rfl, by intro w hSw; go_simp⟩) hHeld ?_
  try simp only [Act.put, List.setIfInBounds_toArray, List.set_cons_zero, List.set_cons_succ, List.getElem_toArray, List.getElem_cons_zero, List.getElem_cons_succ]
  refine wpAnyH_take (i := 17) (v := .bool true) rfl (by kernel_rfl) (by kernel_rfl) (by kernel_rfl) (fun _ _ _ h => h) (Or.inl ⟨by rfl, by intro w hSw; go_simp⟩) hHeld ?_
  try simp only [Act.put, List.setIfInBounds_toArray, List.set_cons_zero, List.set_cons_succ, List.getElem_toArray, List.getElem_cons_zero, List.getElem_cons_succ]
  refine wpAnyH_ready (rs := [18]) (by kernel_rfl) (by simp) ?_
  refine AllReadyH.cons rfl (fun K hK => ?_) AllReadyH.nil
  go_simp
  refine hK.out _ _ (hHeld) (fun hHeld => ?_)
  clear hK K
  try simp only [Act.put, List.setIfInBounds_toArray, List.set_cons_zero, List.set_cons_succ, List.getElem_toArray, List.getElem_cons_zero, List.getElem_cons_succ]
  refine wpAnyH_done (by kernel_rfl) ?_ _
  go_wp2_with fail
  go_ret
  exact ⟨rfl, by first | exact hHeld.1.1.1.bel | (rw [hL]; exact hHeld.1.1.1.bel)⟩
theorem sentries_row (w : World) (a0 : Option Addr) (l0 c0 : Nat) (z0 : List Int) (h0 : IsRow .u8 w a0 l0 c0 z0) (a1 : Int) (_w1 : (Lit.int .i64 a1).wf = true) (ph : List UInt8) (hph : ph.length = 32) (a3 : Option Addr) (n3 c3 : Nat) (z3 : List Int) (m : List UInt8) (hm : m.length = 32) (h3 : IsRow .u8 w a3 n3 c3 z3) (a4 : Int) (_w4 : (Lit.int .i64 a4).wf = true) (a5 : Int) (_w5 : (Lit.int .i64 a5).wf = true) (a6 : Option Addr) (l6 c6 : Nat) (z6 : List Int) (h6 : IsRow .i64 w a6 l6 c6 z6) (a7 : Int) (_w7 : (Lit.int .i64 a7).wf = true) (a8 : Int) (w8 : (Lit.int .u8 a8).wf = true) (ht : Tabs w) :
    Calls Tryd.prog 5 #[.slice a0 l0 c0, .int .i64 a1, .agg (B ph).toArray, .agg (sgC (.slice a3 n3 c3) m).toArray, .int .i64 a4, .int .i64 a5, .slice a6 l6 c6, .int .i64 a7, .int .u8 a8] w fun e w' => e = .returned (.bool true) ∧ Below w.heap.size w w' := by
  obtain ⟨key, k1, k2, k3⟩ := bytes_of_row h0
  obtain ⟨body, b1, b2, b3⟩ := bytes_of_row h3
  obtain ⟨by_, hby⟩ : ∃ y : UInt8, (y.toNat : Int) = a8 := ⟨UInt8.ofNat a8.toNat, by have := wf_u8 w8; rw [UInt8.toNat_ofNat']; omega⟩
  subst k1
  subst b1
  subst hby
  exact sentries_any key a0 _ c0 rfl (row_cap9 h0) (cap_row9 h0) a1 ph hph a3 _ c3 body rfl (cap_row9 h3) (Nat.le_trans (row_cap9 h3) (cap_row9 h3)) m hm a4 a5 a6 l6 c6 (row_cap9 h6) (len_of_row h6) a7 by_ w ht k3 b3 (ns_of_row h6)
end Go.Proofs.YtinifnpajkldbaaDoor

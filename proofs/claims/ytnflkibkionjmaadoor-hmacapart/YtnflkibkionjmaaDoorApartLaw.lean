/- The law HmacApart: with another key, or another text, the sign is what the document says of that one. -/
import Derived.Test.YtnflkibkionjmaaDoorLawBits
namespace Go.Proofs.YtnflkibkionjmaaDoor
open Go.RowKit
set_option linter.unusedSimpArgs false
set_option linter.unusedVariables false

set_option maxRecDepth 100000 in
set_option maxHeartbeats 4000000 in
theorem apart_any (key : List UInt8) (ao : Option Addr) (n cap : Nat) (hn : key.length = n) (text : List UInt8) (bo : Option Addr) (m bc : Nat) (hm : text.length = m) (at0 bt : Int) (hb0 : 0 ≤ bt) (hb1 : bt < 256) (w : World) (ht : Tabs w)
    (hr : Reads w (.slice ao n cap) (B key)) (hcap : cap ≤ maxLen) (htx : Reads w (.slice bo m bc) (B text)) (hbc : bc ≤ maxLen) :
    Calls Tryd.prog 5 #[.slice ao n cap, .slice bo m bc, .int .i64 at0, .int .u8 bt] w fun e w' => e = .returned (.bool true) ∧ Below w.heap.size w w' := by
  obtain ⟨i0, hi, hz0, hz1, hz2⟩ := info_parts Tryd.infoByte
  have HR := hid hr
  have HX := hid htx
  have HT := hid ht
  have HN := hid hn
  have HM := hid hm
  have HC := hid hcap
  have HBc := hid hbc
  have h2 := ht.two
  clear hr htx ht hn hm hcap hbc
  go_enter Tryd.func5, Tryd.ntmps5
  go_wp2_with fail
  refine (known3_any _ HT.out).mono ?_
  rintro _ w1 ⟨rfl, hb1'⟩
  have Hb1 := hid hb1'
  clear hb1'
  by_cases hn0 : n = 0
  · subst hn0
    go_wp2_with fail
    go_ret
    exact ⟨rfl, Hb1.out⟩
  have hn0' : ((n : Int) == 0) = false := by simpa using hn0
  by_cases h1 : (100 : Int) < (n : Int)
  · go_wp2_with fail
    go_ret
    exact ⟨rfl, Hb1.out⟩
  by_cases h3 : (100 : Int) < (m : Int)
  · go_wp2_with fail
    go_ret
    exact ⟨rfl, Hb1.out⟩
  by_cases h4 : at0 < 0
  · go_wp2_with fail
    go_ret
    exact ⟨rfl, Hb1.out⟩
  have hs1 := Hb1.out.size
  obtain ⟨p, hp⟩ : ∃ p : Nat, at0.tmod (n : Int) = (p : Int) := Int.eq_ofNat_of_zero_le (Int.tmod_nonneg _ (by omega))
  have hpn : p < n := by have := Int.tmod_lt_of_pos at0 (show (0 : Int) < (n : Int) by omega); omega
  have hpn' : (p : Int) < (n : Int) := by omega
  have hp0' : (0 : Int) ≤ (p : Int) := by omega
  have HOA := hid (Owns.empty w1 5)
  have HbA := hid (show Below w.heap.size w (w1.alloc (.cells #[] 5)) from below_seq Hb1.out (below_new _ _))
  have HRA := hid (HR.out.later HbA.out)
  go_upto_region 6 with (at_builtin; go_must (refine wpList_append_src _ rfl _ _ 22 22 rfl 5 i0 (.int .u8 0) Tryd.underlying22 hi hz0 hz1 hz2 rfl w1.heap.size 0 0 [] rfl HOA.out _ n _ rfl (Src.ofBytes _ Tryd.underlying22 HN.out HRA.out) (by omega) ?_); intro g2 cap2 w2 hG2; replace hG2 := hid hG2)
  have HO2 := hid (show Owns w2 5 g2 cap2 n (B key) by have h := hG2.out.own; rw [Nat.zero_add, List.nil_append] at h; exact h)
  have Hb2 := hid (show Below w.heap.size w w2 from hG2.out.below HbA.out hs1)
  have hg2 : w.heap.size ≤ g2 := by
    rcases hG2.out.blk with ⟨h, _⟩ | h
    · omega
    · have := HbA.out.size; omega
  clear hG2 HOA HbA HRA
  obtain ⟨x, hx⟩ : ∃ x, key.getD p 0 = x := ⟨_, rfl⟩
  have c := HO2.out.cell (B_getD key p (by rw [HN.out]; exact hpn))
  rw [hx] at c
  have hx255 : (x.toNat : Int) ≤ 255 := by have := x.toNat_lt; omega
  have fr := HO2.out.frozen p
  clear hx
  have hOD := HO2.out.setByte p (((x.toNat : Int) + bt) % 256) (by omega) (by omega)
  have hbD := Hb2.out.setCell (show w.heap.size ≤ (⟨g2, p, none⟩ : Addr).block from hg2) (.int .u8 (((x.toNat : Int) + bt) % 256))
  go_upto_region 7 with fail
  generalize w2.setCell ⟨g2, p, none⟩ (.int .u8 (((x.toNat : Int) + bt) % 256)) = w3 at *
  have Hk2 := hid (show (key.set p (UInt8.ofNat (((x.toNat : Int) + bt) % 256).toNat)).length = n by rw [List.length_set]; exact HN.out)
  generalize key.set p (UInt8.ofNat (((x.toNat : Int) + bt) % 256).toNat) = k2 at *
  have HO3 := hid hOD
  have Hb3 := hid hbD
  have hs3 := hbD.size
  clear hOD hbD c fr HO2 Hb2 hp hpn hpn' hp0'
  have HOA := hid (Owns.empty w3 5)
  have HbA := hid (show Below w.heap.size w (w3.alloc (.cells #[] 5)) from below_seq Hb3.out (below_new _ _))
  have HXA := hid (HX.out.later HbA.out)
  have HKA := hid (HO3.out.alloc (.cells #[] 5))
  go_upto_region 8 with (first
    | (show wpList _ _ _ (⟨some 45, _, _, _, _, _⟩ :: _) _ _; go_must (refine wpList_append_src _ rfl _ _ 22 22 rfl 5 i0 (.int .u8 0) Tryd.underlying22 hi hz0 hz1 hz2 rfl w3.heap.size 0 0 [] rfl HOA.out _ m _ rfl (Src.ofBytes _ Tryd.underlying22 HM.out HXA.out) (by omega) ?_); intro g4 cap4 w4 hG4; have HO4 := hid (show Owns w4 5 g4 cap4 m (B text) by (have h := hG4.own; rw [Nat.zero_add, List.nil_append] at h; exact h)); have Hb4 := hid (show Below w.heap.size w w4 from hG4.below HbA.out hs3); have hg4 : w3.heap.size ≤ g4 := (by (rcases hG4.blk with ⟨h, _⟩ | h; omega; have h5 : (w3.alloc (.cells #[] 5)).heap.size = w3.heap.size + 1 := (by simp); omega)); have HK4 := hid (show Owns w4 5 g2 cap2 n (B k2) from HKA.out.kept (hG4.grown.block g2 HKA.out.lt (by (intro e; injection e with e; have := HO3.out.lt; omega)))); have hs4 := Hb4.out.size; clear hG4 HOA HbA HXA HKA)
    | (show wpList _ _ _ (⟨some 48, _, _, _, _, _⟩ :: _) _ _; go_must (refine wpList_append_src _ rfl _ _ 22 22 rfl 5 i0 (.int .u8 0) Tryd.underlying22 hi hz0 hz1 hz2 rfl g4 cap4 m (B text) rfl (HO4.out.alloc _) _ 1 _ rfl (Src.ofSlice _ Tryd.underlying22 ⟨w4.heap.size, 0, none⟩ 1 1 [_] rfl (cell_one_new _ _ _) (by intro u hu; simp at hu; subst hu; rfl)) (by omega) ?_); intro g5 cap5 w5 hG5; replace hG5 := hid hG5))
  have HbB := hid (show Below w.heap.size w (w4.alloc (.cells #[.int .u8 bt] 5)) from below_seq Hb4.out (below_new _ _))
  have Hb5 := hid (show Below w.heap.size w w5 from hG5.out.below HbB.out (by omega))
  have HK5 := hid (show Owns w5 5 g2 cap2 n (B k2) from (HK4.out.alloc (.cells #[.int .u8 bt] 5)).kept (hG5.out.grown.block g2 (HK4.out.alloc _).lt (by intro e; injection e with e; have := HO3.out.lt; omega)))
  obtain ⟨ct, hct⟩ : ∃ ct, text ++ [UInt8.ofNat bt.toNat] = ct := ⟨_, rfl⟩
  have HCt := hid (show ct.length = m + 1 by rw [← hct, List.length_append, HM.out]; rfl)
  have HO5 := hid (show Owns w5 5 g5 cap5 (m + 1) (B ct) by
    have h := hG5.out.own
    rw [u8_val bt hb0 hb1] at h
    rw [← hct, B_append]
    exact h)
  have HKc := hid (show cap2 ≤ maxLen from HK5.out.2.2.1)
  have HOc := hid (show cap5 ≤ maxLen from HO5.out.2.2.1)
  clear hct hG5 HbB HO4 Hb4 HK4 HO3 Hb3
  go_wp2_with fail
  have HX5 := hid (HX.out.later Hb5.out)
  have HbC := hid (show Below w.heap.size w (w5.alloc (.cells #[.slice bo m bc] 22)) from below_seq Hb5.out (below_new _ _))
  refine (Mac_any k2 _ n cap2 Hk2.out _ 1 1 [text] rfl _ (HT.out.below HbC.out h2) ((HK5.out.alloc _).reads) HKc.out (by omega) (parts_new HX5.out HM.out HBc.out) (by omega) (by simp [HM.out]; omega)).mono ?_
  rintro _ w6 ⟨rfl, hb6⟩
  rw [show [text].flatten = text by simp]
  have Hb6 := hid (below_seq HbC.out hb6)
  have HK6 := hid ((HK5.out.alloc (.cells #[.slice bo m bc] 22)).later hb6)
  have HO6 := hid ((HO5.out.alloc (.cells #[.slice bo m bc] 22)).later hb6)
  have hE := eqM k2 text
  clear hb6 HbC HK5 HO5 Hb5 HX5
  go_wp2_with fail
  refine (refMac_any k2 _ n cap2 Hk2.out text bo m bc HM.out w6 HK6.out.reads (HX.out.later Hb6.out) (by omega) (by omega)).mono ?_
  rintro _ w7 ⟨rfl, hb7⟩
  have Hb7 := hid (below_seq Hb6.out hb7)
  have HO7 := hid (HO6.out.later hb7)
  clear hb7 HK6 HO6 Hb6
  generalize (B (macS k2 text)).toArray = q1 at *
  go_wp2_with fail
  have HbD := hid (show Below w.heap.size w (w7.alloc (.cells #[.slice (some ⟨g5, 0, none⟩) (m + 1) cap5] 22)) from below_seq Hb7.out (below_new _ _))
  refine (Mac_any key ao n cap HN.out _ 1 1 [ct] rfl _ (HT.out.below HbD.out h2) (HR.out.later HbD.out) HC.out (by omega) (parts_new HO7.out.reads HCt.out HOc.out) (by omega) (by simp [HCt.out]; omega)).mono ?_
  rintro _ w8 ⟨rfl, hb8⟩
  rw [show [ct].flatten = ct by simp]
  have Hb8 := hid (below_seq HbD.out hb8)
  have HO8 := hid ((HO7.out.alloc (.cells #[.slice (some ⟨g5, 0, none⟩) (m + 1) cap5] 22)).later hb8)
  have hE2 := eqM key ct
  clear hb8 HbD HO7 Hb7
  go_wp2_with fail
  refine (refMac_any key ao n cap HN.out ct _ (m + 1) cap5 HCt.out w8 (HR.out.later Hb8.out) HO8.out.reads (by omega) (by omega)).mono ?_
  rintro _ w9 ⟨rfl, hb9⟩
  have Hb9 := hid (below_seq Hb8.out hb9)
  clear hb9
  generalize (B (macS key ct)).toArray = q2 at *
  go_wp2_with fail
  go_ret
  exact ⟨rfl, Hb9.out⟩

theorem apart_row (a0 : Option Addr) (len0 cap0 : Nat) (z0 : List Int) (w0 : World) (h0 : IsRow .u8 w0 a0 len0 cap0 z0) (a1 : Option Addr) (len1 cap1 : Nat) (z1 : List Int) (h1 : IsRow .u8 w0 a1 len1 cap1 z1) (a2 : Int) (w2 : (Lit.int .i64 a2).wf = true) (a3 : Int) (w3 : (Lit.int .u8 a3).wf = true) (ht : Tabs w0) :
    Calls Tryd.prog 5 #[.slice a0 len0 cap0, .slice a1 len1 cap1, .int .i64 a2, .int .u8 a3] w0 fun e w' => e = .returned (.bool true) ∧ Below w0.heap.size w0 w' := by
  obtain ⟨l, hl, _, hr⟩ := bytes_of_row h0
  rw [hl] at hr
  obtain ⟨l1, hl1, _, hr1⟩ := bytes_of_row h1
  rw [hl1] at hr1
  have h3 := bounds_u8 w3
  exact apart_any l a0 len0 cap0 hl l1 a1 len1 cap1 hl1 a2 a3 (by omega) (by omega) w0 ht hr h0.cap hr1 h1.cap
end Go.Proofs.YtnflkibkionjmaaDoor

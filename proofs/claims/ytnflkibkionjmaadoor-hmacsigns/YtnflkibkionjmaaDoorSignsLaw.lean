/- The law HmacSigns: any key, any parts, make the document's sign, however they are cut. -/
import Derived.Test.YtnflkibkionjmaaDoorLawBits
namespace Go.Proofs.YtnflkibkionjmaaDoor
open Go.RowKit
set_option linter.unusedSimpArgs false
set_option linter.unusedVariables false

theorem flat_bound : ∀ (ls : List (List UInt8)) (c : Nat), (∀ l ∈ ls, l.length ≤ c) → ls.flatten.length ≤ c * ls.length
  | [], _, _ => by simp
  | l :: ls, c, h => by
    have h1 := flat_bound ls c fun x hx => h x (List.mem_cons_of_mem _ hx)
    have h2 := h l (List.mem_cons_self)
    rw [List.flatten_cons, List.length_append, List.length_cons, Nat.mul_succ]
    omega

set_option maxRecDepth 100000 in
set_option maxHeartbeats 8000000 in
theorem signs_any (key : List UInt8) (ao : Option Addr) (n cap : Nat) (hn : key.length = n) (ls : List (List UInt8)) (pa : Option Addr) (pn pc : Nat) (hpn : ls.length = pn) (w : World) (ht : Tabs w)
    (hr : Reads w (.slice ao n cap) (B key)) (hcap : cap ≤ maxLen) (hp : Parts w (.slice pa pn pc) ls) :
    Calls Tryd.prog 3 #[.slice ao n cap, .slice pa pn pc] w fun e w' => e = .returned (.bool true) ∧ Below w.heap.size w w' := by
  obtain ⟨i0, hi, hz0, hz1, hz2⟩ := info_parts Tryd.infoByte
  have HR := hid hr
  have HP := hid hp
  have HT := hid ht
  have HN := hid hn
  have HPn := hid hpn
  have HC := hid hcap
  have h2 := ht.two
  clear hr hp ht hn hpn hcap
  go_enter Tryd.func3, Tryd.ntmps3
  go_wp2_with fail
  refine (known3_any _ HT.out).mono ?_
  rintro _ w1 ⟨rfl, hb1'⟩
  have Hb1 := hid hb1'
  clear hb1'
  by_cases h1 : (200 : Int) < (n : Int)
  · go_wp2_with fail
    go_ret
    exact ⟨rfl, Hb1.out⟩
  by_cases h3 : (6 : Int) < (pn : Int)
  · go_wp2_with fail
    go_ret
    exact ⟨rfl, Hb1.out⟩
  have hs1 := Hb1.out.size
  go_wp2_with fail
  go_loopw [5] (fun i wr => ∃ j : Nat, j ≤ pn ∧ i = .int .i64 j ∧ (∀ l ∈ ls.take j, l.length ≤ 200) ∧ wr = w1) (fun i _ => pn - (intOf i).toNat)
  case atStart => exact ⟨0, Nat.zero_le _, rfl, by simp, rfl⟩
  case round =>
    obtain ⟨j, hj, rfl, hm, rfl⟩ := hrel
    have HM := hid hm
    clear hm
    by_cases hlt : j < pn
    · have hlt' : (j : Int) < (pn : Int) := by omega
      have hge' : (0 : Int) ≤ (j : Int) := by omega
      obtain ⟨x, hx⟩ : ∃ x, ls[j]? = some x := ⟨_, List.getElem?_eq_getElem (by rw [HPn.out]; exact hlt)⟩
      have Htk := hid (show ls.take (j + 1) = ls.take j ++ [x] by rw [List.take_add_one, hx]; rfl)
      obtain ⟨ad, p, c, rfl, hcell⟩ : ∃ ad p c, pa = some ad ∧ w.cell? (ad.add j) = some (.slice p x.length c) := by
        obtain ⟨ao', c', e, _, hn, hcl⟩ := HP.out
        injection e with e1 e2 e3
        subst e1
        cases pa with
        | none => have := hn rfl; subst this; simp at hx
        | some ad =>
          obtain ⟨p, c, k1, k2, _⟩ := hcl ad rfl j x hx
          exact ⟨ad, p, c, rfl, k1⟩
      have c0 := cell_later Hb1.out hcell
      clear hcell hx
      obtain ⟨N, hN⟩ : ∃ N, x.length = N := ⟨_, rfl⟩
      rw [hN] at c0
      by_cases hbig : (200 : Int) < (N : Int)
      · go_wp2_with fail
        go_ret
        exact ⟨rfl, Hb1.out⟩
      go_wp2_with fail
      go_roundw
      case rel =>
        refine ⟨j + 1, by omega, by go_num, fun l hl => ?_, by first | exact trivial | rfl⟩
        rw [Htk.out, List.mem_append] at hl
        rcases hl with hl | hl
        · exact HM.out l hl
        · rw [List.mem_singleton] at hl
          subst hl
          omega
      case measure => simp [intOf]; omega
    · have hjl : pn = j := by omega
      subst hjl
      have HTot := hid (show ls.flatten.length ≤ 1200 by
        have h := flat_bound (ls.take pn) 200 HM.out
        rw [List.take_of_length_le (by rw [HPn.out]; exact Nat.le_refl _), HPn.out] at h
        omega)
      have HOA := hid (Owns.empty wr 5)
      have HbA := hid (show Below w.heap.size w (wr.alloc (.cells #[] 5)) from below_seq Hb1.out (below_new _ _))
      have HRA := hid (HR.out.later HbA.out)
      clear HM
      go_wp2_with (at_builtin; go_must (refine wpList_append_src _ rfl _ _ 22 22 rfl 5 i0 (.int .u8 0) Tryd.underlying22 hi hz0 hz1 hz2 rfl wr.heap.size 0 0 [] rfl HOA.out _ n _ rfl (Src.ofBytes _ Tryd.underlying22 HN.out HRA.out) (by omega) ?_); intro g2 cap2 w2 hG2; replace hG2 := hid hG2)
      have HO2 := hid (show Owns w2 5 g2 cap2 n (B key) by have h := hG2.out.own; rw [Nat.zero_add, List.nil_append] at h; exact h)
      have Hb2 := hid (show Below w.heap.size w w2 from hG2.out.below HbA.out hs1)
      clear hG2 HOA HbA HRA
      obtain ⟨fl, hfl⟩ : ∃ fl, ls.flatten = fl := ⟨_, rfl⟩
      obtain ⟨M, hM⟩ : ∃ M, fl.length = M := ⟨_, rfl⟩
      have hM12 : M ≤ 1200 := by rw [← hM, ← hfl]; exact HTot.out
      have HFl := hid hfl
      have HFM := hid hM
      clear hfl hM
      obtain ⟨ms, hms⟩ : ∃ ms, B (macS key fl) = ms := ⟨_, rfl⟩
      have hml : ms.length = 32 := by rw [← hms, B_length, macS_len]
      have HMs := hid hms
      have HMl := hid hml
      have Ho := hid (show ∀ v ∈ ms, v.oneCell' = true by rw [← hms]; exact B_one _)
      have Hi := hid (show (Tryd.prog.info? 26).map (·.size) = some ms.length by rw [hml]; kernel_rfl)
      have HE := hid (show ∀ w : World, (Op.equalIn 10000 26 (.agg ms.toArray) (.agg ms.toArray)).run Tryd.prog w = .ok true w by rw [← hms]; exact eqM key fl)
      clear hms hml
      refine (Mac_any key _ n cap2 HN.out pa pn pc ls HPn.out w2 (HT.out.below Hb2.out h2) HO2.out.reads HO2.out.2.2.1 (by omega) (HP.out.later Hb2.out) (by omega) (by have := HTot.out; omega)).mono ?_
      rintro _ w3 ⟨rfl, hb3⟩
      rw [HFl.out, HMs.out]
      have Hb3 := hid (below_seq Hb2.out hb3)
      clear hb3 HO2 Hb2
      obtain ⟨L, hL⟩ : ∃ L, w3.heap.size = L := ⟨_, rfl⟩
      have hwL : w.heap.size ≤ L := by rw [← hL]; exact Hb3.out.size
      go_wp2_with (first
        | (show wpList _ _ _ (⟨some 6, Op.alloc _, _, _, _, _⟩ :: _) _ _; go_must (refine wpList_alloc_blk rfl 26 rfl _ zeroHash L hL ?_); intro w4 hB4 hb4 hs4; replace hB4 := hid hB4; replace hb4 := hid hb4; have ht4 := hid (hB4.out.there (o := 0) (n := ms.length) (by rw [B_length, List.length_replicate, HMl.out]; omega)))
        | (show wpList _ _ _ (⟨none, Op.store _ _ _, _, _, _, _⟩ :: _) _ _; go_must (refine wpList_store_list rfl 26 _ _ rfl L 0 ms rfl rfl ht4.out Hi.out Ho.out ?_); intro w5 hw5; replace hw5 := hid hw5))
      have HB4 := hid (show Blk w5.drew 26 L ms from (show Blk w5 26 L ms by rw [hw5.out]; exact Blk.over (by rw [B_length, List.length_replicate, HMl.out]) hB4.out))
      have Hb4 := hid (show Below w.heap.size w w5.drew from (show Below w.heap.size w w5 by rw [hw5.out]; exact below_setCells hwL _ _ (Hb3.out.trans (hb4.out.mono hwL))).drew)
      clear hw5 ht4 hB4 hb4 hs4 Hb3
      refine wp_region_held_drew (S := fun w' => Blk w' 26 L ms) (by kernel_rfl) (HB4.out) (fun hHeld => ?_)
      refine wpAnyH_take (i := 0) (v := _) rfl (by kernel_rfl) (by kernel_rfl) (by kernel_rfl) (fun _ _ _ h => h) (yieldsIf_load_mid (by rfl) _ _ rfl _ _ rfl ms _ (fun w hSw => hSw.range fun j v hv => by rw [Nat.zero_add]; exact hv) Tryd.underlying26 rfl Hi.out) hHeld ?_
      try simp only [Act.put, List.setIfInBounds_toArray, List.set_cons_zero, List.set_cons_succ, List.getElem_toArray, List.getElem_cons_zero, List.getElem_cons_succ]
      refine wpAnyH_take (i := 1) (v := .slice ao n cap) rfl (by kernel_rfl) (by kernel_rfl) (by kernel_rfl) (fun _ _ _ h => h) (Or.inl ⟨by rfl, by intro w hSw; go_simp⟩) hHeld ?_
      try simp only [Act.put, List.setIfInBounds_toArray, List.set_cons_zero, List.set_cons_succ, List.getElem_toArray, List.getElem_cons_zero, List.getElem_cons_succ]
      refine wpAnyH_take (i := 2) (v := .slice pa pn pc) rfl (by kernel_rfl) (by kernel_rfl) (by kernel_rfl) (fun _ _ _ h => h) (Or.inl ⟨by rfl, by intro w hSw; go_simp⟩) hHeld ?_
      try simp only [Act.put, List.setIfInBounds_toArray, List.set_cons_zero, List.set_cons_succ, List.getElem_toArray, List.getElem_cons_zero, List.getElem_cons_succ]
      refine wpAnyH_ready (rs := [3]) (by kernel_rfl) (by simp) ?_
      refine AllReadyH.cons rfl (fun K hK => ?_) AllReadyH.nil
      go_simp
      refine (all3_any ls pa pn pc HPn.out _ (HP.out.later Hb4.out) (by omega) (by have := HTot.out; omega)).mono ?_
      rintro _ w5 ⟨v5, rfl, hH5, hb5⟩
      rw [HFl.out, HFM.out] at hH5
      obtain ⟨a5, c5, rfl, _, hc5⟩ := hH5.off (g := 0) (by have := Hb4.out.size; omega)
      have HR5 := hid hH5.reads
      have HCm5 := hid hc5
      clear hH5 hc5
      refine hK.out _ _ (HB4.out.later hb5) (fun hHeld => ?_)
      clear hK K
      try simp only [Act.put, List.setIfInBounds_toArray, List.set_cons_zero, List.set_cons_succ, List.getElem_toArray, List.getElem_cons_zero, List.getElem_cons_succ]
      have Hb5 := hid (below_seq Hb4.out hb5)
      have HB5 := hid hHeld
      clear hb5
      refine wpAnyH_ready (rs := [4]) (by kernel_rfl) (by simp) ?_
      refine AllReadyH.cons rfl (fun K hK => ?_) AllReadyH.nil
      go_simp
      refine (refMac_any key ao n cap HN.out fl a5 M c5 HFM.out _ (HR.out.later Hb5.out) HR5.out (by omega) (by omega)).mono ?_
      rintro _ w6 ⟨rfl, hb6⟩
      rw [HMs.out]
      refine hK.out _ _ (HB5.out.later hb6) (fun hHeld => ?_)
      clear hK K
      try simp only [Act.put, List.setIfInBounds_toArray, List.set_cons_zero, List.set_cons_succ, List.getElem_toArray, List.getElem_cons_zero, List.getElem_cons_succ]
      have Hb6 := hid (below_seq Hb5.out hb6)
      have HB6 := hid hHeld
      clear hb6
      refine wpAnyH_take (i := 5) (v := .bool true) rfl (by kernel_rfl) (by kernel_rfl) (by kernel_rfl) (fun _ _ _ h => h) (Or.inl ⟨by rfl, by intro w hSw; have q := HE.out w; go_simp⟩) hHeld ?_
      try simp only [Act.put, List.setIfInBounds_toArray, List.set_cons_zero, List.set_cons_succ, List.getElem_toArray, List.getElem_cons_zero, List.getElem_cons_succ]
      refine wpAnyH_take (i := 6) (v := .bool true) rfl (by kernel_rfl) (by kernel_rfl) (by kernel_rfl) (fun _ _ _ h => h) (Or.inl ⟨by rfl, by intro w hSw; go_simp⟩) hHeld ?_
      try simp only [Act.put, List.setIfInBounds_toArray, List.set_cons_zero, List.set_cons_succ, List.getElem_toArray, List.getElem_cons_zero, List.getElem_cons_succ]
      refine wpAnyH_take (i := 7) (v := _) rfl (by kernel_rfl) (by kernel_rfl) (by kernel_rfl) (fun _ _ _ h => h) (yieldsIf_load_mid (by rfl) _ _ rfl _ _ rfl ms _ (fun w hSw => hSw.range fun j v hv => by rw [Nat.zero_add]; exact hv) Tryd.underlying26 rfl Hi.out) hHeld ?_
      try simp only [Act.put, List.setIfInBounds_toArray, List.set_cons_zero, List.set_cons_succ, List.getElem_toArray, List.getElem_cons_zero, List.getElem_cons_succ]
      refine wpAnyH_take (i := 8) (v := .slice ao n cap) rfl (by kernel_rfl) (by kernel_rfl) (by kernel_rfl) (fun _ _ _ h => h) (Or.inl ⟨by rfl, by intro w hSw; go_simp⟩) hHeld ?_
      try simp only [Act.put, List.setIfInBounds_toArray, List.set_cons_zero, List.set_cons_succ, List.getElem_toArray, List.getElem_cons_zero, List.getElem_cons_succ]
      refine wpAnyH_take (i := 9) (v := .slice pa pn pc) rfl (by kernel_rfl) (by kernel_rfl) (by kernel_rfl) (fun _ _ _ h => h) (Or.inl ⟨by rfl, by intro w hSw; go_simp⟩) hHeld ?_
      try simp only [Act.put, List.setIfInBounds_toArray, List.set_cons_zero, List.set_cons_succ, List.getElem_toArray, List.getElem_cons_zero, List.getElem_cons_succ]
      refine wpAnyH_ready (rs := [10]) (by kernel_rfl) (by simp) ?_
      refine AllReadyH.cons rfl (fun K hK => ?_) AllReadyH.nil
      go_simp
      refine (all3_any ls pa pn pc HPn.out _ (HP.out.later Hb6.out) (by omega) (by have := HTot.out; omega)).mono ?_
      rintro _ w7 ⟨v7, rfl, hH7, hb7⟩
      rw [HFl.out, HFM.out] at hH7
      obtain ⟨a7, c7, rfl, _, hc7⟩ := hH7.off (g := 0) (by have := Hb6.out.size; omega)
      have HR7 := hid hH7.reads
      have HCm7 := hid hc7
      clear hH7 hc7
      refine hK.out _ _ (HB6.out.later hb7) (fun hHeld => ?_)
      clear hK K
      try simp only [Act.put, List.setIfInBounds_toArray, List.set_cons_zero, List.set_cons_succ, List.getElem_toArray, List.getElem_cons_zero, List.getElem_cons_succ]
      have Hb7 := hid (below_seq Hb6.out hb7)
      have HB7 := hid hHeld
      clear hb7
      refine wpAnyH_ready (rs := [11]) (by kernel_rfl) (by simp) ?_
      refine AllReadyH.cons rfl (fun K hK => ?_) AllReadyH.nil
      go_simp
      refine hK.out _ _ (HB7.out.alloc _) (fun hHeld => ?_)
      clear hK K
      try simp only [Act.put, List.setIfInBounds_toArray, List.set_cons_zero, List.set_cons_succ, List.getElem_toArray, List.getElem_cons_zero, List.getElem_cons_succ]
      have HbA := hid (show Below w.heap.size w (w7.alloc (.cells #[.slice a7 M c7] 22)) from below_seq Hb7.out (below_new _ _))
      have HBA := hid hHeld
      refine wpAnyH_ready (rs := [12]) (by kernel_rfl) (by simp) ?_
      refine AllReadyH.cons rfl (fun K hK => ?_) AllReadyH.nil
      go_simp
      refine (Mac_any key ao n cap HN.out _ 1 1 [fl] rfl _ (HT.out.below HbA.out h2) (HR.out.later HbA.out) HC.out (by omega) (parts_new HR7.out HFM.out HCm7.out) (by omega) (by rw [show [fl].flatten = fl by simp, HFM.out]; omega)).mono ?_
      rintro _ w8 ⟨rfl, hb8⟩
      rw [show [fl].flatten = fl by simp, HMs.out]
      refine hK.out _ _ (HBA.out.later hb8) (fun hHeld => ?_)
      clear hK K
      try simp only [Act.put, List.setIfInBounds_toArray, List.set_cons_zero, List.set_cons_succ, List.getElem_toArray, List.getElem_cons_zero, List.getElem_cons_succ]
      have Hb8 := hid (below_seq HbA.out hb8)
      have HB8 := hid hHeld
      clear hb8
      refine wpAnyH_take (i := 13) (v := .bool true) rfl (by kernel_rfl) (by kernel_rfl) (by kernel_rfl) (fun _ _ _ h => h) (Or.inl ⟨by rfl, by intro w hSw; have q := HE.out w; go_simp⟩) hHeld ?_
      try simp only [Act.put, List.setIfInBounds_toArray, List.set_cons_zero, List.set_cons_succ, List.getElem_toArray, List.getElem_cons_zero, List.getElem_cons_succ]
      refine wpAnyH_take (i := 14) (v := .bool true) rfl (by kernel_rfl) (by kernel_rfl) (by kernel_rfl) (fun _ _ _ h => h) (Or.inl ⟨by rfl, by intro w hSw; go_simp⟩) hHeld ?_
      try simp only [Act.put, List.setIfInBounds_toArray, List.set_cons_zero, List.set_cons_succ, List.getElem_toArray, List.getElem_cons_zero, List.getElem_cons_succ]
      refine wpAnyH_take (i := 15) (v := .bool true) rfl (by kernel_rfl) (by kernel_rfl) (by kernel_rfl) (fun _ _ _ h => h) (Or.inl ⟨by rfl, by intro w hSw; go_simp⟩) hHeld ?_
      try simp only [Act.put, List.setIfInBounds_toArray, List.set_cons_zero, List.set_cons_succ, List.getElem_toArray, List.getElem_cons_zero, List.getElem_cons_succ]
      refine wpAnyH_done (by kernel_rfl) ?_ _
      go_wp2_with fail
      go_ret
      exact ⟨rfl, Hb8.out⟩

theorem signs_row (a0 : Option Addr) (len0 cap0 : Nat) (z0 : List Int) (w0 : World) (h0 : IsRow .u8 w0 a0 len0 cap0 z0) (a1 : Option Addr) (len1 cap1 : Nat) (ls : List (List UInt8)) (h1 : IsParts w0 a1 len1 cap1 ls) (ht : Tabs w0) :
    Calls Tryd.prog 3 #[.slice a0 len0 cap0, .slice a1 len1 cap1] w0 fun e w' => e = .returned (.bool true) ∧ Below w0.heap.size w0 w' := by
  obtain ⟨l, hl, _, hr⟩ := bytes_of_row h0
  rw [hl] at hr
  exact signs_any l a0 len0 cap0 hl ls a1 len1 cap1 h1.1 w0 ht hr h0.cap h1.2
end Go.Proofs.YtnflkibkionjmaaDoor

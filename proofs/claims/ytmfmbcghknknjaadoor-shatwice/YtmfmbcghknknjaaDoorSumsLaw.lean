/- The law ShaSums: the sum of any parts, however they are cut, and how it is written. -/
import Derived.Test.YtmfmbcghknknjaaDoorRefHex
import Derived.Test.YtmfmbcghknknjaaDoorHasV
import Derived.Test.YtmfmbcghknknjaaDoorWithin2
namespace Go.Proofs.YtmfmbcghknknjaaDoor
open Go.RowKit
set_option linter.unusedSimpArgs false
set_option linter.unusedVariables false

set_option maxHeartbeats 400000 in
theorem within3_any (a n : Int) (h0 : 0 < n) (h1 : n ≤ 100000) (w : World) :
    Calls Tryd.prog 9 #[.int .i64 a, .int .i64 n] w fun e w' => e = .returned (.int .i64 (a % n)) ∧ w' = w := by
  have h4 := Int.lt_tmod_of_pos a h0
  have h5 := Int.tmod_lt_of_pos a h0
  have hneg := tmod_neg a n h0
  have hpos := tmod_pos a n h0
  have HN : Hid (a.tmod n < 0 → a % n = a.tmod n + n) := hneg
  have HP : Hid (0 ≤ a.tmod n → a % n = a.tmod n) := hpos
  clear hneg hpos
  go_enter Tryd.func9, Tryd.ntmps9
  go_wp2
  · go_ret
    exact ⟨by rw [HN.out (by assumption)]; rfl, rfl⟩
  · go_ret
    exact ⟨by rw [HP.out (by assumption)]; rfl, rfl⟩

set_option maxRecDepth 100000 in
set_option maxHeartbeats 4000000 in
theorem sums_any (ls : List (List UInt8)) (ao : Option Addr) (len cap : Nat) (hlen : ls.length = len) (cut : Int) (l : List UInt8) (hl : l.length = 32) (w : World) (ht : Tabs w) (hp : Parts w (.slice ao len cap) ls) :
    Calls Tryd.prog 3 #[.slice ao len cap, .int .i64 cut, .agg (B l).toArray] w fun e w' => e = .returned (.bool true) ∧ Below w.heap.size w w' := by
  obtain ⟨i0, hi, hz0, hz1, hz2⟩ := info_parts Tryd.infoByte
  obtain ⟨bs, hbs⟩ : ∃ bs, B l = bs := ⟨_, rfl⟩
  rw [hbs]
  obtain ⟨L, hL⟩ : ∃ L, w.heap.size = L := ⟨_, rfl⟩
  have HBS := hid hbs
  have HLl := hid hl
  have HLen := hid hlen
  have HT := hid ht
  have HP := hid hp
  have h2 := ht.two
  clear hbs hl ht hp hlen
  go_enter Tryd.func3, Tryd.ntmps3
  go_wp2_with (show wpList _ _ _ (⟨some 5, Op.box _ _, _, _, _, _⟩ :: _) _ _; go_must (refine wpList_box_blk rfl 24 _ rfl bs rfl L hL ?_); intro w0 hB0 hb0 hs0; replace hB0 := hid hB0; replace hb0 := hid hb0)
  have Hb0 := hid (show Below w.heap.size w w0 by rw [hL]; exact hb0.out)
  refine (known_any _ (HT.out.below Hb0.out h2)).mono ?_
  rintro _ w1 ⟨rfl, hb1⟩
  have Hb1 := hid (below_seq Hb0.out hb1)
  have HB1 := hid (hB0.out.later hb1)
  have hs1 : L + 1 ≤ w1.heap.size := by have := hb1.size; omega
  clear hb1 hB0 hb0 Hb0 hs0
  by_cases hc2 : (10 : Int) < (len : Int)
  · go_wp2_with fail
    go_ret
    exact ⟨rfl, Hb1.out⟩
  go_wp2_with fail
  go_loopw [7, 8] (fun v i wr => ∃ j : Nat, j ≤ len ∧ i = .int .i64 j ∧ (ls.take j).flatten.length ≤ 200 * j ∧ Has wr 5 (L + 1) v (ls.take j).flatten.length (B (ls.take j).flatten) ∧ Below w.heap.size w wr ∧ Blk wr 24 L bs ∧ L + 1 ≤ wr.heap.size) (fun _ i _ => len - (intOf i).toNat)
  case atStart => exact ⟨0, Nat.zero_le _, rfl, by simp, Has.nil _ _ _, Hb1.out, HB1.out, hs1⟩
  case round =>
    obtain ⟨j, hj, rfl, hm, hH, hb, hB, hsz⟩ := hrel
    have HH := hid hH
    have Hb := hid hb
    have HB := hid hB
    clear hH hb hB
    by_cases hlt : j < len
    · have hlt' : (j : Int) < (len : Int) := by omega
      have hge' : (0 : Int) ≤ (j : Int) := by omega
      obtain ⟨x, hx⟩ : ∃ x, ls[j]? = some x := ⟨_, List.getElem?_eq_getElem (by rw [HLen.out]; exact hlt)⟩
      have Htk := hid (show (ls.take (j + 1)).flatten = (ls.take j).flatten ++ x by
        rw [List.take_add_one, hx]; simp)
      obtain ⟨ad, p, c, rfl, hcell, hrd⟩ : ∃ ad p c, ao = some ad ∧ w.cell? (ad.add j) = some (.slice p x.length c) ∧ Reads w (.slice p x.length c) (B x) := by
        obtain ⟨ao', c', e, _, hn, hcl⟩ := HP.out
        injection e with e1 e2 e3
        subst e1
        cases ao with
        | none => have := hn rfl; subst this; simp at hx
        | some ad =>
          obtain ⟨p, c, k1, k2, _⟩ := hcl ad rfl j x hx
          exact ⟨ad, p, c, rfl, k1, k2⟩
      have c0 := cell_later Hb.out hcell
      have HR := hid (hrd.later Hb.out)
      clear hcell hrd hx
      obtain ⟨N, hN⟩ : ∃ N, x.length = N := ⟨_, rfl⟩
      rw [hN] at c0 HR
      by_cases hbig : (200 : Int) < (N : Int)
      · go_wp2_with fail
        go_ret
        exact ⟨rfl, Hb.out⟩
      obtain ⟨M, hM⟩ : ∃ M, (ls.take j).flatten.length = M := ⟨_, rfl⟩
      rw [hM] at HH hm
      go_wp2_with (at_builtin; go_must (refine wpList_append_any rfl _ _ 26 26 rfl 5 i0 (.int .u8 0) Tryd.underlying26 hi hz0 hz1 hz2 rfl (L + 1) _ M _ rfl HH.out hsz _ N (B x) rfl (Src.ofBytes _ Tryd.underlying26 hN HR.out) (by omega) ?_); intro v2 w2 hH2 hb2; replace hH2 := hid hH2; replace hb2 := hid hb2)
      go_roundw
      case rel => exact ⟨j + 1, by omega, by go_num, by rw [Htk.out, List.length_append, hM, hN]; omega, by rw [Htk.out, List.length_append, hM, hN, B_append]; exact hH2.out, Hb.out.trans (hb2.out.mono (by omega)), HB.out.kept (hb2.out.block L (by omega)), by have := hb2.out.size; omega⟩
      case measure => simp [intOf]; omega
    · have hjl : j = len := by omega
      subst hjl
      rw [List.take_of_length_le (by rw [HLen.out]; exact Nat.le_refl _)] at hm HH
      obtain ⟨m, hmm⟩ : ∃ m, ls.flatten = m := ⟨_, rfl⟩
      rw [hmm] at hm HH
      have Hm := hid hmm
      clear hmm
      obtain ⟨M, hM⟩ : ∃ M, m.length = M := ⟨_, rfl⟩
      rw [hM] at HH hm
      have HR := hid HH.out.reads
      obtain ⟨bo, bc, rfl⟩ := HH.out.form
      have hM2 : M ≤ 2000 := by omega
      go_wp2_with fail
      refine (within3_any cut ((M : Int) + 1) (by omega) (by omega) _).mono ?_
      rintro _ wC ⟨rfl, rfl⟩
      obtain ⟨k, hk⟩ : ∃ k : Nat, cut % ((M : Int) + 1) = (k : Int) := Int.eq_ofNat_of_zero_le (Int.emod_nonneg _ (by omega))
      have hkb : k ≤ M := by have := Int.emod_lt_of_pos cut (show (0 : Int) < (M : Int) + 1 by omega); omega
      rw [hk]
      go_wp2_with fail
      have hbc : bc ≤ maxLen := by
        rcases HH.out with ⟨e, _, _⟩ | ⟨g, cp, e, _, h⟩
        · injection e with e1 e2 e3; subst e3; exact Nat.zero_le _
        · injection e with e1 e2 e3; subst e3; exact h.2.2.1
      have hMc : M ≤ bc := by
        obtain ⟨_, c, e, h, _⟩ := HR.out
        injection e with e1 e2 e3
        subst e3
        rw [B_length, hM] at h
        exact h
      obtain ⟨p1, c1, hc1, hlo, hlo2⟩ := cut_low bo M bc k m hM hkb hMc hbc
      obtain ⟨p2, c2, hc2, hup, hup2⟩ := cut_up bo M bc k m hM hkb hMc hbc
      have Hlo := hid hlo2
      have Hup := hid hup2
      clear hlo2 hup2 hk
      have Hf1 := hid (show [m.take k, m.drop k].flatten = m by simp)
      have Hf2 := hid (show [m, []].flatten = m by simp)
      obtain ⟨hm0, h0⟩ : ∃ x, (B (shaS m)).toArray = x := ⟨_, rfl⟩
      have hE := eqH (shaS m) (shaS_len m)
      rw [h0] at hE
      have HE := hid hE
      have H0 := hid h0
      clear hE h0
      have hi32 := hid (show (Tryd.prog.info? 24).map (·.size) = some bs.length by rw [← HBS.out, B_length, HLl.out]; kernel_rfl)
      have HX1 := hid (fun wx => HBS.out ▸ Hex_any l HLl.out wx)
      have HX2 := hid (fun wx => HBS.out ▸ refHex_any l HLl.out wx)
      -- the drawn region
      have HbC := hid (show Below w.heap.size w wC.drew from Hb.out.drew)
      have HRC := hid (show Reads wC.drew (.slice bo M bc) (B m) from reads_drew HR.out)
      have HBC := hid (show Blk wC.drew 24 L bs from HB.out)
      clear Hb HR HB HH
      refine wp_region_held_drew (S := fun w' => Blk w' 24 L bs) (by kernel_rfl) (HBC.out) (fun hHeld => ?_)
      refine wpAnyH_take (i := 0) (v := .slice ao j cap) rfl (by kernel_rfl) (by kernel_rfl) (by kernel_rfl) (fun _ _ _ h => h) (Or.inl ⟨by rfl, by intro w hSw; go_simp⟩) hHeld ?_
      try simp only [Act.put, List.setIfInBounds_toArray, List.set_cons_zero, List.set_cons_succ, List.getElem_toArray, List.getElem_cons_zero, List.getElem_cons_succ]
      refine wpAnyH_take (i := 2) (v := .slice bo M bc) rfl (by kernel_rfl) (by kernel_rfl) (by kernel_rfl) (fun _ _ _ h => h) (Or.inl ⟨by rfl, by intro w hSw; go_simp⟩) hHeld ?_
      try simp only [Act.put, List.setIfInBounds_toArray, List.set_cons_zero, List.set_cons_succ, List.getElem_toArray, List.getElem_cons_zero, List.getElem_cons_succ]
      refine wpAnyH_ready (rs := [1]) (by kernel_rfl) (by simp) ?_
      refine AllReadyH.cons rfl (fun K hK => ?_) AllReadyH.nil
      go_simp
      refine (Sum_any wC.drew (HT.out.below HbC.out h2) _ ls (HP.out.later HbC.out) (by rw [HLen.out]; omega) (by rw [Hm.out, hM]; omega)).mono ?_
      rintro _ w3 ⟨rfl, hb3⟩
      rw [Hm.out, H0.out]
      refine hK.out _ _ (HBC.out.later hb3) (fun hHeld => ?_)
      clear hK K
      try simp only [Act.put, List.setIfInBounds_toArray, List.set_cons_zero, List.set_cons_succ, List.getElem_toArray, List.getElem_cons_zero, List.getElem_cons_succ]
      have Hb3 := hid (below_seq HbC.out hb3)
      have HR3 := hid (HRC.out.later hb3)
      have HB3 := hid hHeld
      have h23 := Hb3.out.size
      clear hb3
      refine wpAnyH_ready (rs := [3]) (by kernel_rfl) (by simp) ?_
      refine AllReadyH.cons rfl (fun K hK => ?_) AllReadyH.nil
      go_simp
      refine (refSum_any m bo M bc hM _ HR3.out (by omega)).mono ?_
      rintro _ w4 ⟨rfl, hb4⟩
      rw [H0.out]
      refine hK.out _ _ (HB3.out.later hb4) (fun hHeld => ?_)
      clear hK K
      try simp only [Act.put, List.setIfInBounds_toArray, List.set_cons_zero, List.set_cons_succ, List.getElem_toArray, List.getElem_cons_zero, List.getElem_cons_succ]
      have Hb4 := hid (below_seq Hb3.out hb4)
      have HR4 := hid (HR3.out.later hb4)
      have HB4 := hid hHeld
      have h24 := Hb4.out.size
      clear hb4
      refine wpAnyH_take (i := 4) (v := .bool true) rfl (by kernel_rfl) (by kernel_rfl) (by kernel_rfl) (fun _ _ _ h => h) (Or.inl ⟨by rfl, by intro w hSw; have q := HE.out w; go_simp⟩) hHeld ?_
      try simp only [Act.put, List.setIfInBounds_toArray, List.set_cons_zero, List.set_cons_succ, List.getElem_toArray, List.getElem_cons_zero, List.getElem_cons_succ]
      refine wpAnyH_take (i := 5) (v := .bool true) rfl (by kernel_rfl) (by kernel_rfl) (by kernel_rfl) (fun _ _ _ h => h) (Or.inl ⟨by rfl, by intro w hSw; go_simp⟩) hHeld ?_
      try simp only [Act.put, List.setIfInBounds_toArray, List.set_cons_zero, List.set_cons_succ, List.getElem_toArray, List.getElem_cons_zero, List.getElem_cons_succ]
      refine wpAnyH_take (i := 6) (v := .slice bo M bc) rfl (by kernel_rfl) (by kernel_rfl) (by kernel_rfl) (fun _ _ _ h => h) (Or.inl ⟨by rfl, by intro w hSw; go_simp⟩) hHeld ?_
      try simp only [Act.put, List.setIfInBounds_toArray, List.set_cons_zero, List.set_cons_succ, List.getElem_toArray, List.getElem_cons_zero, List.getElem_cons_succ]
      refine wpAnyH_take (i := 7) (v := .int .i64 k) rfl (by kernel_rfl) (by kernel_rfl) (by kernel_rfl) (fun _ _ _ h => h) (Or.inl ⟨by rfl, by intro w hSw; go_simp⟩) hHeld ?_
      try simp only [Act.put, List.setIfInBounds_toArray, List.set_cons_zero, List.set_cons_succ, List.getElem_toArray, List.getElem_cons_zero, List.getElem_cons_succ]
      refine wpAnyH_take (i := 8) (v := .slice p1 k c1) rfl (by kernel_rfl) (by kernel_rfl) (by kernel_rfl) (fun _ _ _ h => h) (Or.inl ⟨by rfl, by intro w hSw; have q := hlo w; go_simp⟩) hHeld ?_
      try simp only [Act.put, List.setIfInBounds_toArray, List.set_cons_zero, List.set_cons_succ, List.getElem_toArray, List.getElem_cons_zero, List.getElem_cons_succ]
      refine wpAnyH_take (i := 9) (v := .slice bo M bc) rfl (by kernel_rfl) (by kernel_rfl) (by kernel_rfl) (fun _ _ _ h => h) (Or.inl ⟨by rfl, by intro w hSw; go_simp⟩) hHeld ?_
      try simp only [Act.put, List.setIfInBounds_toArray, List.set_cons_zero, List.set_cons_succ, List.getElem_toArray, List.getElem_cons_zero, List.getElem_cons_succ]
      refine wpAnyH_take (i := 10) (v := .int .i64 k) rfl (by kernel_rfl) (by kernel_rfl) (by kernel_rfl) (fun _ _ _ h => h) (Or.inl ⟨by rfl, by intro w hSw; go_simp⟩) hHeld ?_
      try simp only [Act.put, List.setIfInBounds_toArray, List.set_cons_zero, List.set_cons_succ, List.getElem_toArray, List.getElem_cons_zero, List.getElem_cons_succ]
      refine wpAnyH_take (i := 11) (v := .slice p2 (M - k) c2) rfl (by kernel_rfl) (by kernel_rfl) (by kernel_rfl) (fun _ _ _ h => h) (Or.inl ⟨by rfl, by intro w hSw; have q := hup w; go_simp⟩) hHeld ?_
      try simp only [Act.put, List.setIfInBounds_toArray, List.set_cons_zero, List.set_cons_succ, List.getElem_toArray, List.getElem_cons_zero, List.getElem_cons_succ]
      refine wpAnyH_take (i := 14) (v := .slice bo M bc) rfl (by kernel_rfl) (by kernel_rfl) (by kernel_rfl) (fun _ _ _ h => h) (Or.inl ⟨by rfl, by intro w hSw; go_simp⟩) hHeld ?_
      try simp only [Act.put, List.setIfInBounds_toArray, List.set_cons_zero, List.set_cons_succ, List.getElem_toArray, List.getElem_cons_zero, List.getElem_cons_succ]
      refine wpAnyH_ready (rs := [12]) (by kernel_rfl) (by simp) ?_
      refine AllReadyH.cons rfl (fun K hK => ?_) AllReadyH.nil
      go_simp
      refine hK.out _ _ (HB4.out.alloc _) (fun hHeld => ?_)
      clear hK K
      try simp only [Act.put, List.setIfInBounds_toArray, List.set_cons_zero, List.set_cons_succ, List.getElem_toArray, List.getElem_cons_zero, List.getElem_cons_succ]
      have HbA5 := hid (Hb4.out.alloc Hb4.out.size (.cells #[.slice p1 k c1, .slice p2 (M - k) c2] 26))
      have HRA5 := hid (show Reads (w4.alloc (.cells #[.slice p1 k c1, .slice p2 (M - k) c2] 26)) (.slice bo M bc) (B m) from HR4.out.later (Below.alloc (Below.refl _ _) (Nat.le_refl _) _))
      have HBA5 := hid hHeld
      have HPt5 := hid (Parts.pair (t := 26) (fr := (0, 0)) (w := w4.alloc (.cells #[.slice p1 k c1, .slice p2 (M - k) c2] 26)) (g := w4.heap.size) (by rw [heap_of_alloc, if_pos rfl]) (Hlo.out _ HRA5.out) (by rw [List.length_take, hM]; omega) hc1 (Hup.out _ HRA5.out) (by rw [List.length_drop, hM]) hc2)
      refine wpAnyH_ready (rs := [13]) (by kernel_rfl) (by simp) ?_
      refine AllReadyH.cons rfl (fun K hK => ?_) AllReadyH.nil
      go_simp
      refine (Sum_any _ (HT.out.below HbA5.out h2) _ [m.take k, m.drop k] HPt5.out (by simp) (by rw [Hf1.out, hM]; omega)).mono ?_
      rintro _ w6 ⟨rfl, hb6⟩
      rw [Hf1.out, H0.out]
      refine hK.out _ _ (HBA5.out.later hb6) (fun hHeld => ?_)
      clear hK K
      try simp only [Act.put, List.setIfInBounds_toArray, List.set_cons_zero, List.set_cons_succ, List.getElem_toArray, List.getElem_cons_zero, List.getElem_cons_succ]
      have Hb6 := hid (below_seq HbA5.out hb6)
      have HR6 := hid (HRA5.out.later hb6)
      have HB6 := hid hHeld
      have h26 := Hb6.out.size
      clear hb6
      refine wpAnyH_ready (rs := [15]) (by kernel_rfl) (by simp) ?_
      refine AllReadyH.cons rfl (fun K hK => ?_) AllReadyH.nil
      go_simp
      refine (refSum_any m bo M bc hM _ HR6.out (by omega)).mono ?_
      rintro _ w7 ⟨rfl, hb7⟩
      rw [H0.out]
      refine hK.out _ _ (HB6.out.later hb7) (fun hHeld => ?_)
      clear hK K
      try simp only [Act.put, List.setIfInBounds_toArray, List.set_cons_zero, List.set_cons_succ, List.getElem_toArray, List.getElem_cons_zero, List.getElem_cons_succ]
      have Hb7 := hid (below_seq Hb6.out hb7)
      have HR7 := hid (HR6.out.later hb7)
      have HB7 := hid hHeld
      have h27 := Hb7.out.size
      clear hb7
      refine wpAnyH_take (i := 16) (v := .bool true) rfl (by kernel_rfl) (by kernel_rfl) (by kernel_rfl) (fun _ _ _ h => h) (Or.inl ⟨by rfl, by intro w hSw; have q := HE.out w; go_simp⟩) hHeld ?_
      try simp only [Act.put, List.setIfInBounds_toArray, List.set_cons_zero, List.set_cons_succ, List.getElem_toArray, List.getElem_cons_zero, List.getElem_cons_succ]
      refine wpAnyH_take (i := 17) (v := .bool true) rfl (by kernel_rfl) (by kernel_rfl) (by kernel_rfl) (fun _ _ _ h => h) (Or.inl ⟨by rfl, by intro w hSw; go_simp⟩) hHeld ?_
      try simp only [Act.put, List.setIfInBounds_toArray, List.set_cons_zero, List.set_cons_succ, List.getElem_toArray, List.getElem_cons_zero, List.getElem_cons_succ]
      refine wpAnyH_take (i := 18) (v := .bool true) rfl (by kernel_rfl) (by kernel_rfl) (by kernel_rfl) (fun _ _ _ h => h) (Or.inl ⟨by rfl, by intro w hSw; go_simp⟩) hHeld ?_
      try simp only [Act.put, List.setIfInBounds_toArray, List.set_cons_zero, List.set_cons_succ, List.getElem_toArray, List.getElem_cons_zero, List.getElem_cons_succ]
      refine wpAnyH_take (i := 19) (v := .slice bo M bc) rfl (by kernel_rfl) (by kernel_rfl) (by kernel_rfl) (fun _ _ _ h => h) (Or.inl ⟨by rfl, by intro w hSw; go_simp⟩) hHeld ?_
      try simp only [Act.put, List.setIfInBounds_toArray, List.set_cons_zero, List.set_cons_succ, List.getElem_toArray, List.getElem_cons_zero, List.getElem_cons_succ]
      refine wpAnyH_take (i := 22) (v := .slice bo M bc) rfl (by kernel_rfl) (by kernel_rfl) (by kernel_rfl) (fun _ _ _ h => h) (Or.inl ⟨by rfl, by intro w hSw; go_simp⟩) hHeld ?_
      try simp only [Act.put, List.setIfInBounds_toArray, List.set_cons_zero, List.set_cons_succ, List.getElem_toArray, List.getElem_cons_zero, List.getElem_cons_succ]
      refine wpAnyH_ready (rs := [20]) (by kernel_rfl) (by simp) ?_
      refine AllReadyH.cons rfl (fun K hK => ?_) AllReadyH.nil
      go_simp
      refine hK.out _ _ (HB7.out.alloc _) (fun hHeld => ?_)
      clear hK K
      try simp only [Act.put, List.setIfInBounds_toArray, List.set_cons_zero, List.set_cons_succ, List.getElem_toArray, List.getElem_cons_zero, List.getElem_cons_succ]
      have HbA8 := hid (Hb7.out.alloc Hb7.out.size (.cells #[.slice bo M bc, .slice none 0 0] 26))
      have HRA8 := hid (show Reads (w7.alloc (.cells #[.slice bo M bc, .slice none 0 0] 26)) (.slice bo M bc) (B m) from HR7.out.later (Below.alloc (Below.refl _ _) (Nat.le_refl _) _))
      have HBA8 := hid hHeld
      have HPt8 := hid (Parts.pair (t := 26) (fr := (0, 0)) (q := none) (n' := 0) (c' := 0) (l' := []) (w := w7.alloc (.cells #[.slice bo M bc, .slice none 0 0] 26)) (g := w7.heap.size) (by rw [heap_of_alloc, if_pos rfl]) HRA8.out hM hbc (Has.nil _ 5 0).reads rfl (Nat.zero_le _))
      refine wpAnyH_ready (rs := [21]) (by kernel_rfl) (by simp) ?_
      refine AllReadyH.cons rfl (fun K hK => ?_) AllReadyH.nil
      go_simp
      refine (Sum_any _ (HT.out.below HbA8.out h2) _ [m, []] HPt8.out (by simp) (by rw [Hf2.out, hM]; omega)).mono ?_
      rintro _ w9 ⟨rfl, hb9⟩
      rw [Hf2.out, H0.out]
      refine hK.out _ _ (HBA8.out.later hb9) (fun hHeld => ?_)
      clear hK K
      try simp only [Act.put, List.setIfInBounds_toArray, List.set_cons_zero, List.set_cons_succ, List.getElem_toArray, List.getElem_cons_zero, List.getElem_cons_succ]
      have Hb9 := hid (below_seq HbA8.out hb9)
      have HR9 := hid (HRA8.out.later hb9)
      have HB9 := hid hHeld
      have h29 := Hb9.out.size
      clear hb9
      refine wpAnyH_ready (rs := [23]) (by kernel_rfl) (by simp) ?_
      refine AllReadyH.cons rfl (fun K hK => ?_) AllReadyH.nil
      go_simp
      refine (refSum_any m bo M bc hM _ HR9.out (by omega)).mono ?_
      rintro _ w10 ⟨rfl, hb10⟩
      rw [H0.out]
      refine hK.out _ _ (HB9.out.later hb10) (fun hHeld => ?_)
      clear hK K
      try simp only [Act.put, List.setIfInBounds_toArray, List.set_cons_zero, List.set_cons_succ, List.getElem_toArray, List.getElem_cons_zero, List.getElem_cons_succ]
      have Hb10 := hid (below_seq Hb9.out hb10)
      have HR10 := hid (HR9.out.later hb10)
      have HB10 := hid hHeld
      have h210 := Hb10.out.size
      clear hb10
      refine wpAnyH_take (i := 24) (v := .bool true) rfl (by kernel_rfl) (by kernel_rfl) (by kernel_rfl) (fun _ _ _ h => h) (Or.inl ⟨by rfl, by intro w hSw; have q := HE.out w; go_simp⟩) hHeld ?_
      try simp only [Act.put, List.setIfInBounds_toArray, List.set_cons_zero, List.set_cons_succ, List.getElem_toArray, List.getElem_cons_zero, List.getElem_cons_succ]
      refine wpAnyH_take (i := 25) (v := .bool true) rfl (by kernel_rfl) (by kernel_rfl) (by kernel_rfl) (fun _ _ _ h => h) (Or.inl ⟨by rfl, by intro w hSw; go_simp⟩) hHeld ?_
      try simp only [Act.put, List.setIfInBounds_toArray, List.set_cons_zero, List.set_cons_succ, List.getElem_toArray, List.getElem_cons_zero, List.getElem_cons_succ]
      refine wpAnyH_take (i := 26) (v := .bool true) rfl (by kernel_rfl) (by kernel_rfl) (by kernel_rfl) (fun _ _ _ h => h) (Or.inl ⟨by rfl, by intro w hSw; go_simp⟩) hHeld ?_
      try simp only [Act.put, List.setIfInBounds_toArray, List.set_cons_zero, List.set_cons_succ, List.getElem_toArray, List.getElem_cons_zero, List.getElem_cons_succ]
      refine wpAnyH_take (i := 27) (v := _) rfl (by kernel_rfl) (by kernel_rfl) (by kernel_rfl) (fun _ _ _ h => h) (yieldsIf_load_mid (by rfl) _ _ rfl _ _ rfl bs _ (fun w hSw => hSw.range fun j v hv => by rw [Nat.zero_add]; exact hv) Tryd.underlying24 rfl hi32.out) hHeld ?_
      try simp only [Act.put, List.setIfInBounds_toArray, List.set_cons_zero, List.set_cons_succ, List.getElem_toArray, List.getElem_cons_zero, List.getElem_cons_succ]
      refine wpAnyH_take (i := 29) (v := _) rfl (by kernel_rfl) (by kernel_rfl) (by kernel_rfl) (fun _ _ _ h => h) (yieldsIf_load_mid (by rfl) _ _ rfl _ _ rfl bs _ (fun w hSw => hSw.range fun j v hv => by rw [Nat.zero_add]; exact hv) Tryd.underlying24 rfl hi32.out) hHeld ?_
      try simp only [Act.put, List.setIfInBounds_toArray, List.set_cons_zero, List.set_cons_succ, List.getElem_toArray, List.getElem_cons_zero, List.getElem_cons_succ]
      refine wpAnyH_ready (rs := [28]) (by kernel_rfl) (by simp) ?_
      refine AllReadyH.cons rfl (fun K hK => ?_) AllReadyH.nil
      go_simp
      refine (HX1.out w10).mono ?_
      rintro _ w11 ⟨rfl, hb11⟩
      refine hK.out _ _ (HB10.out.later hb11) (fun hHeld => ?_)
      clear hK K
      try simp only [Act.put, List.setIfInBounds_toArray, List.set_cons_zero, List.set_cons_succ, List.getElem_toArray, List.getElem_cons_zero, List.getElem_cons_succ]
      have Hb11 := hid (below_seq Hb10.out hb11)
      have HR11 := hid (HR10.out.later hb11)
      have HB11 := hid hHeld
      have h211 := Hb11.out.size
      clear hb11
      refine wpAnyH_ready (rs := [30]) (by kernel_rfl) (by simp) ?_
      refine AllReadyH.cons rfl (fun K hK => ?_) AllReadyH.nil
      go_simp
      refine (HX2.out w11).mono ?_
      rintro _ w12 ⟨rfl, hb12⟩
      refine hK.out _ _ (HB11.out.later hb12) (fun hHeld => ?_)
      clear hK K
      try simp only [Act.put, List.setIfInBounds_toArray, List.set_cons_zero, List.set_cons_succ, List.getElem_toArray, List.getElem_cons_zero, List.getElem_cons_succ]
      have Hb12 := hid (below_seq Hb11.out hb12)
      have HR12 := hid (HR11.out.later hb12)
      have HB12 := hid hHeld
      have h212 := Hb12.out.size
      clear hb12
      refine wpAnyH_take (i := 31) (v := .bool true) rfl (by kernel_rfl) (by kernel_rfl) (by kernel_rfl) (fun _ _ _ h => h) (Or.inl ⟨by rfl, by intro w hSw; go_simp⟩) hHeld ?_
      try simp only [Act.put, List.setIfInBounds_toArray, List.set_cons_zero, List.set_cons_succ, List.getElem_toArray, List.getElem_cons_zero, List.getElem_cons_succ]
      refine wpAnyH_take (i := 32) (v := .bool true) rfl (by kernel_rfl) (by kernel_rfl) (by kernel_rfl) (fun _ _ _ h => h) (Or.inl ⟨by rfl, by intro w hSw; go_simp⟩) hHeld ?_
      try simp only [Act.put, List.setIfInBounds_toArray, List.set_cons_zero, List.set_cons_succ, List.getElem_toArray, List.getElem_cons_zero, List.getElem_cons_succ]
      refine wpAnyH_take (i := 33) (v := .bool true) rfl (by kernel_rfl) (by kernel_rfl) (by kernel_rfl) (fun _ _ _ h => h) (Or.inl ⟨by rfl, by intro w hSw; go_simp⟩) hHeld ?_
      try simp only [Act.put, List.setIfInBounds_toArray, List.set_cons_zero, List.set_cons_succ, List.getElem_toArray, List.getElem_cons_zero, List.getElem_cons_succ]
      refine wpAnyH_done (by kernel_rfl) ?_ _
      go_wp2_with fail
      go_ret
      exact ⟨rfl, Hb12.out⟩
end Go.Proofs.YtmfmbcghknknjaaDoor

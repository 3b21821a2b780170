/- The contract of the second say's Mac. -/
import Derived.Test.YtinifnpajkldbaaDoorMacSign
import Derived.Test.YtinifnpajkldbaaDoorMakeB
import Derived.Deep.DeepCutAuto
namespace Go.Proofs.YtinifnpajkldbaaDoor
open Go.RowKit
set_option linter.unusedSimpArgs false
set_option linter.unusedVariables false

theorem Blk.owns {w : World} {e : TypeId} {g n : Nat} {xs : List Value} (h : Blk w e g xs) (hl : xs.length = n) (hm : n ≤ maxLen) : Owns w e g n n xs := by
  subst hl
  exact ⟨rfl, Nat.le_refl _, hm, xs.toArray, h, by simp, by simp⟩

/-- As far as j the bytes are masked, noughts behind. -/
def laidI (m : UInt8) (l : List UInt8) (j : Nat) : List UInt8 := maskS m (l.take j) ++ List.replicate (64 - j) 0
theorem laidI_len (m : UInt8) (l : List UInt8) (hl : l.length = 64) (j : Nat) (h : j ≤ 64) : (laidI m l j).length = 64 := by simp [laidI, maskS_len, hl]; omega
theorem laidI_set (m : UInt8) (l : List UInt8) (hl : l.length = 64) (j : Nat) (h : j < 64) : (laidI m l j).set j (m ^^^ l.getD j 0) = laidI m l (j + 1) := by
  unfold laidI
  have hk : (maskS m (l.take j)).length = j := by rw [maskS_len, List.length_take]; omega
  have e : l.getD j 0 = l[j]'(by omega) := by rw [List.getD_eq_getElem?_getD, List.getElem?_eq_getElem (by omega)]; rfl
  rw [List.set_append_right _ _ (by omega), hk, Nat.sub_self, show 64 - j = (64 - (j + 1)) + 1 by omega, List.replicate_succ, List.set_cons_zero, List.take_succ_eq_append_getElem (by omega), e]
  simp only [maskS, List.map_append, List.map_cons, List.map_nil, List.append_assoc]
  rfl
theorem laidI_end (m : UInt8) (l : List UInt8) (hl : l.length = 64) : laidI m l 64 = maskS m l := by
  rw [laidI, List.take_of_length_le (by omega), Nat.sub_self, List.replicate_zero, List.append_nil]

theorem bxorc (b : UInt8) (m : Nat) (hm : m < 256) : bits .xor .u8 (b.toNat : Int) ((m : Nat) : Int) = ((UInt8.ofNat m ^^^ b).toNat : Int) := by
  rw [u8_xor_nat _ _ b.toNat_lt hm, UInt8.toNat_xor, UInt8.toNat_ofNat', Nat.mod_eq_of_lt hm, Nat.xor_comm]

/-- What the second say's Mac holds on the way: the place of its result, the key's row. -/
structure F3 (w wN : World) (L gk : Nat) (kf : List UInt8) : Prop where
  b : Below w.heap.size w wN
  r : Blk wN 26 L (B (List.replicate 32 0))
  k : Blk wN 5 gk (B kf)
  lw : w.heap.size ≤ L
theorem F3.later {w wN wM : World} {L gk : Nat} {kf : List UInt8} (h : F3 w wN L gk kf) (hb : Below wN.heap.size wN wM) : F3 w wM L gk kf := ⟨below_seq h.b hb, h.r.later hb, h.k.later hb, h.lw⟩
theorem F3.set {w wN : World} {L gk : Nat} {kf : List UInt8} (h : F3 w wN L gk kf) {g : Nat} (h1 : L < g) (h2 : gk ≠ g) (j : Nat) (v : Value) : F3 w (wN.setCell ⟨g, j, none⟩ v) L gk kf :=
  ⟨h.b.setCell (by show w.heap.size ≤ g; have := h.lw; omega) _, h.r.kept (heap_setCell_other _ _ _ _ (show L ≠ g by omega)), h.k.kept (heap_setCell_other _ _ _ _ (show gk ≠ g from h2)), h.lw⟩

set_option maxRecDepth 100000 in
set_option maxHeartbeats 8000000 in
theorem refMac_any (key : List UInt8) (ao : Option Addr) (n cap : Nat) (hn : key.length = n) (text : List UInt8) (bo : Option Addr) (m bc : Nat) (hm : text.length = m) (w : World)
    (hr : Reads w (.slice ao n cap) (B key)) (ht : Reads w (.slice bo m bc) (B text)) (hb : n ≤ 9000) (hmb : m ≤ 9000) :
    Calls Tryd.prog 20 #[.slice ao n cap, .slice bo m bc] w fun e w' => e = .returned (.agg (B (macS key text)).toArray) ∧ Below w.heap.size w w' := by
  obtain ⟨i0, hi, hz0, hz1, hz2⟩ := info_parts Tryd.infoByte
  have HR := hid hr
  have HRt := hid ht
  have HN := hid hn
  have HM := hid hm
  obtain ⟨L, hL⟩ : ∃ L, w.heap.size = L := ⟨_, rfl⟩
  obtain ⟨kf, hkf⟩ : ∃ kf, fitS key = kf := ⟨_, rfl⟩
  have hkl : kf.length = 64 := by rw [← hkf, fitS_len]
  have HKF := hid hkf
  have HKL := hid hkl
  obtain ⟨bs, hbs⟩ : ∃ bs, B (shaS key) = bs := ⟨_, rfl⟩
  have hbl : bs.length = 32 := by rw [← hbs, B_length, shaS_len]
  have hob := hid (show ∀ v ∈ bs, v.oneCell' = true by rw [← hbs]; exact B_one _)
  have hib := hid (show (Tryd.prog.info? 26).map (·.size) = some bs.length by rw [hbl]; kernel_rfl)
  have HBS := hid hbs
  have HBL := hid hbl
  have HLn := hid (show (B key).length = n by rw [B_length, hn])
  clear hr ht hn hm hkf hkl hbs hbl
  go_enter Tryd.func20, Tryd.ntmps20
  go_upto_if 14 with (first
    | (show wpList _ _ _ (⟨some 4, Op.alloc _, _, _, _, _⟩ :: _) _ _; go_must (refine wpList_alloc_blk rfl 26 rfl _ zeroHash L hL ?_); intro w1 hB1 hb1 hs1; replace hB1 := hid hB1; replace hb1 := hid hb1)
    | (show wpList _ _ _ (⟨some 11, Op.makeSlice _ _ _, _, _, _, _⟩ :: _) _ _; go_must (refine wpList_make_blk rfl _ _ 22 rfl 5 i0 Tryd.underlying22 hi hz0 hz1 hz2 .i64 .i64 64 rfl rfl (by omega) (L + 1) hs1 ?_); intro w2 hB2 hb2 hs2; replace hB2 := hid hB2; replace hb2 := hid hb2))
  have Hb2 := hid (show Below w.heap.size w w2 by rw [hL]; exact hb1.out.trans (hb2.out.mono (by omega)))
  have HB1 := hid (show Blk w2 26 L (B (List.replicate 32 0)) from hB1.out.kept (hb2.out.block L (by omega)))
  obtain ⟨gk, hgk⟩ : ∃ gk, L + 1 = gk := ⟨_, rfl⟩
  rw [hgk] at hB2 ⊢
  have hLgk : L < gk := by omega
  have hs2' : w2.heap.size = gk + 1 := by omega
  clear hB1 hb1 hb2 hs1 hs2 hgk
  go_cut [] (fun wc => F3 w wc L gk kf)
  case first =>
    by_cases h64 : (64 : Int) < (n : Int)
    · go_wp2_with fail
      refine (refSum_any key ao n cap HN.out w2 (HR.out.later Hb2.out) (by omega)).mono ?_
      rintro _ w3 ⟨rfl, hb3⟩
      rw [HBS.out]
      have Hb3 := hid (below_seq Hb2.out hb3)
      have HB31 := hid (HB1.out.later hb3)
      have HB32 := hid (hB2.out.later hb3)
      clear hb3
      obtain ⟨L3, hL3⟩ : ∃ L3, w3.heap.size = L3 := ⟨_, rfl⟩
      have hlt3 : gk < L3 := by rw [← hL3]; exact HB32.out.lt
      go_wp2_with (first
        | (show wpList _ _ _ (⟨some 6, Op.alloc _, _, _, _, _⟩ :: _) _ _; go_must (refine wpList_alloc_blk rfl 26 rfl _ zeroHash L3 hL3 ?_); intro w4 hB4 hb4 hs4; replace hB4 := hid hB4; replace hb4 := hid hb4; have ht4 := hid (hB4.out.there (o := 0) (n := bs.length) (by rw [B_length, List.length_replicate, HBL.out]; omega)))
        | (show wpList _ _ _ (⟨none, Op.store _ _ _, _, _, _, _⟩ :: _) _ _; go_must (refine wpList_store_list rfl 26 _ _ rfl L3 0 bs rfl rfl ht4.out hib.out hob.out ?_); intro w5 hw5; replace hw5 := hid hw5; have HR5 := hid (show Reads w5 (.slice (some ⟨L3, 0, none⟩) 32 32) bs by (have hB5 : Blk w5 26 L3 bs := (by rw [hw5.out]; exact Blk.over (by rw [B_length, List.length_replicate, HBL.out]) hB4.out); rw [← HBS.out] at hB5 ⊢; exact hB5.whole (shaS_len key))); have HB52 := hid (show Blk w5 5 gk (B (List.replicate 64 0)) by (rw [hw5.out]; exact (HB32.out.kept (hb4.out.block gk (by omega))).kept (setCells_heap (by omega) _ _ _))); have ht5 := hid (HB52.out.there (o := 0) (n := 32) (by rw [B_length, List.length_replicate]; omega)))
        | (show wpList _ _ _ (⟨some 19, _, _, _, _, _⟩ :: _) _ _; go_must (refine wpList_copy_list rfl _ _ 22 22 rfl 5 Tryd.underlying22 Tryd.size1 gk 0 64 64 rfl _ rfl bs HR5.out 32 (by rw [HBL.out]; rfl) ht5.out hob.out ?_); intro w6 hw6; replace hw6 := hid hw6))
      go_meet
      case rel =>
        rw [hw6.out]
        refine ⟨below_setCells (by omega) _ _ ?_, (show Blk w5 26 L (B (List.replicate 32 0)) by rw [hw5.out]; exact (HB31.out.kept (hb4.out.block L (by omega))).kept (setCells_heap (by omega) _ _ _)).kept (setCells_heap (by omega) _ _ _), ?_, by omega⟩
        · rw [hw5.out]
          exact below_setCells (by omega) _ _ (Hb3.out.trans (hb4.out.mono (by omega)))
        · rw [← HKF.out, fitS, if_pos (by rw [HN.out]; omega), List.take_of_length_le (by rw [HBL.out]; omega), ← HBS.out]
          exact Blk.front (shaS key) 32 (shaS_len key) (by omega) HB52.out
    · have hn64 : n ≤ 64 := by omega
      have HR2 := hid (HR.out.later Hb2.out)
      have ht2 := hid (show w2.there gk 0 n from hB2.out.there (by rw [B_length, List.length_replicate]; omega))
      go_wp2_with (show wpList _ _ _ (⟨some 22, _, _, _, _, _⟩ :: _) _ _; go_must (refine wpList_copy_list rfl _ _ 22 22 rfl 5 Tryd.underlying22 Tryd.size1 gk 0 64 64 rfl _ rfl (B key) HR2.out n (by rw [HLn.out]; exact (Nat.min_eq_left hn64).symm) ht2.out (B_one key) ?_); intro w6 hw6; replace hw6 := hid hw6)
      go_meet
      case rel =>
        rw [hw6.out]
        refine ⟨below_setCells (by omega) _ _ Hb2.out, HB1.out.kept (setCells_heap (by omega) _ _ _), ?_, by omega⟩
        rw [List.take_of_length_le (by rw [HLn.out]; exact Nat.le_refl _), ← HKF.out, fitS, if_neg (by rw [HN.out]; omega), HN.out]
        exact Blk.front key n HN.out hn64 hB2.out
  case rest =>
  have HF := hid hcut
  clear hcut hB2 HB1 Hb2 hs2'
  go_upto_region 6 with fail
  go_cut [7, 8] (fun s7 s8 w' => ∃ gi go, s7 = .slice (some ⟨gi, 0, none⟩) 64 64 ∧ s8 = .slice (some ⟨go, 0, none⟩) 64 64 ∧ L < gi ∧ L < go ∧ gk ≠ gi ∧ gk ≠ go ∧ gi ≠ go ∧ Blk w' 5 gi (B (List.replicate 64 0)) ∧ Blk w' 5 go (B (List.replicate 64 0)) ∧ F3 w w' L gk kf)
  case first =>
    have HF0 := HF
    have HF := hid (show F3 w wc.drew L gk kf from HF0.out.later ((Below.refl _ _).drew))
    clear HF0
    refine wp_region_held_drew (S := fun w' => True) (by kernel_rfl) (trivial) (fun hHeld => ?_)
    refine wpAnyH_ready (rs := [0, 1]) (by kernel_rfl) (by simp) ?_
    refine AllReadyH.cons rfl (fun K hK => ?_) (AllReadyH.cons rfl (fun K hK => ?_) AllReadyH.nil)
    · obtain ⟨gi, hgi⟩ : ∃ N, wc.drew.heap.size = N := ⟨_, rfl⟩
      refine Eq.mpr (if_pos (by rfl)) ?_
      refine wp_make_blk _ _ 22 rfl 5 i0 Tryd.underlying22 hi hz0 hz1 hz2 .i64 .i64 64 rfl rfl (by omega) gi hgi ?_
      intro v1 hB hb hz
      have hb' : Below wc.drew.heap.size wc.drew v1 := by rw [hgi]; exact hb
      have HF' := hid (HF.out.later hb')
      have hgi' := hid hB
      have hlgi : L < gi := by have := HF.out.r.lt; omega
      have hkgi : gk ≠ gi := by have := HF.out.k.lt; omega
      clear HF hB hb hb'
      refine hK.out _ _ trivial (fun hHeld => ?_)
      clear hK K
      try simp only [Act.put, List.setIfInBounds_toArray, List.set_cons_zero, List.set_cons_succ, List.getElem_toArray, List.getElem_cons_zero, List.getElem_cons_succ]
      refine wpAnyH_take (i := 2) (v := .slice (some ⟨gi, 0, none⟩) 64 64) rfl (by kernel_rfl) (by kernel_rfl) (by kernel_rfl) (fun _ _ _ h => h) (Or.inl ⟨by rfl, by intro w hSw; go_simp⟩) hHeld ?_
      try simp only [Act.put, List.setIfInBounds_toArray, List.set_cons_zero, List.set_cons_succ, List.getElem_toArray, List.getElem_cons_zero, List.getElem_cons_succ]
      refine wpAnyH_ready (rs := [1]) (by kernel_rfl) (by simp) ?_
      refine AllReadyH.cons rfl (fun K hK => ?_) AllReadyH.nil
      obtain ⟨go, hgo⟩ : ∃ N, v1.heap.size = N := ⟨_, rfl⟩
      refine Eq.mpr (if_pos (by rfl)) ?_
      refine wp_make_blk _ _ 22 rfl 5 i0 Tryd.underlying22 hi hz0 hz1 hz2 .i64 .i64 64 rfl rfl (by omega) go hgo ?_
      intro v2 hB hb hz
      have hb' : Below v1.heap.size v1 v2 := by rw [hgo]; exact hb
      have HF2 := hid (HF'.out.later hb')
      have hgi2 := hid (hgi'.out.later hb')
      have hgo2 := hid hB
      have hlgo : L < go := by have := HF'.out.r.lt; omega
      have hkgo : gk ≠ go := by have := HF'.out.k.lt; omega
      have hne : gi ≠ go := by have := hgi'.out.lt; omega
      clear HF' hgi' hB hb hb'
      refine hK.out _ _ trivial (fun hHeld => ?_)
      clear hK K
      try simp only [Act.put, List.setIfInBounds_toArray, List.set_cons_zero, List.set_cons_succ, List.getElem_toArray, List.getElem_cons_zero, List.getElem_cons_succ]
      refine wpAnyH_take (i := 3) (v := .slice (some ⟨go, 0, none⟩) 64 64) rfl (by kernel_rfl) (by kernel_rfl) (by kernel_rfl) (fun _ _ _ h => h) (Or.inl ⟨by rfl, by intro w hSw; go_simp⟩) hHeld ?_
      try simp only [Act.put, List.setIfInBounds_toArray, List.set_cons_zero, List.set_cons_succ, List.getElem_toArray, List.getElem_cons_zero, List.getElem_cons_succ]
      refine wpAnyH_done (by kernel_rfl) ?_ _
      go_wp2_with fail
      go_meet
      case rel => exact ⟨gi, go, rfl, rfl, hlgi, hlgo, hkgi, hkgo, hne, hgi2.out, hgo2.out, HF2.out⟩
    · obtain ⟨go, hgo⟩ : ∃ N, wc.drew.heap.size = N := ⟨_, rfl⟩
      refine Eq.mpr (if_pos (by rfl)) ?_
      refine wp_make_blk _ _ 22 rfl 5 i0 Tryd.underlying22 hi hz0 hz1 hz2 .i64 .i64 64 rfl rfl (by omega) go hgo ?_
      intro v1 hB hb hz
      have hb' : Below wc.drew.heap.size wc.drew v1 := by rw [hgo]; exact hb
      have HF' := hid (HF.out.later hb')
      have hgo' := hid hB
      have hlgo : L < go := by have := HF.out.r.lt; omega
      have hkgo : gk ≠ go := by have := HF.out.k.lt; omega
      clear HF hB hb hb'
      refine hK.out _ _ trivial (fun hHeld => ?_)
      clear hK K
      try simp only [Act.put, List.setIfInBounds_toArray, List.set_cons_zero, List.set_cons_succ, List.getElem_toArray, List.getElem_cons_zero, List.getElem_cons_succ]
      refine wpAnyH_ready (rs := [0]) (by kernel_rfl) (by simp) ?_
      refine AllReadyH.cons rfl (fun K hK => ?_) AllReadyH.nil
      obtain ⟨gi, hgi⟩ : ∃ N, v1.heap.size = N := ⟨_, rfl⟩
      refine Eq.mpr (if_pos (by rfl)) ?_
      refine wp_make_blk _ _ 22 rfl 5 i0 Tryd.underlying22 hi hz0 hz1 hz2 .i64 .i64 64 rfl rfl (by omega) gi hgi ?_
      intro v2 hB hb hz
      have hb' : Below v1.heap.size v1 v2 := by rw [hgi]; exact hb
      have HF2 := hid (HF'.out.later hb')
      have hgo2 := hid (hgo'.out.later hb')
      have hgi2 := hid hB
      have hlgi : L < gi := by have := HF'.out.r.lt; omega
      have hkgi : gk ≠ gi := by have := HF'.out.k.lt; omega
      have hne : gi ≠ go := by have := hgo'.out.lt; omega
      clear HF' hgo' hB hb hb'
      refine hK.out _ _ trivial (fun hHeld => ?_)
      clear hK K
      try simp only [Act.put, List.setIfInBounds_toArray, List.set_cons_zero, List.set_cons_succ, List.getElem_toArray, List.getElem_cons_zero, List.getElem_cons_succ]
      refine wpAnyH_take (i := 2) (v := .slice (some ⟨gi, 0, none⟩) 64 64) rfl (by kernel_rfl) (by kernel_rfl) (by kernel_rfl) (fun _ _ _ h => h) (Or.inl ⟨by rfl, by intro w hSw; go_simp⟩) hHeld ?_
      try simp only [Act.put, List.setIfInBounds_toArray, List.set_cons_zero, List.set_cons_succ, List.getElem_toArray, List.getElem_cons_zero, List.getElem_cons_succ]
      refine wpAnyH_take (i := 3) (v := .slice (some ⟨go, 0, none⟩) 64 64) rfl (by kernel_rfl) (by kernel_rfl) (by kernel_rfl) (fun _ _ _ h => h) (Or.inl ⟨by rfl, by intro w hSw; go_simp⟩) hHeld ?_
      try simp only [Act.put, List.setIfInBounds_toArray, List.set_cons_zero, List.set_cons_succ, List.getElem_toArray, List.getElem_cons_zero, List.getElem_cons_succ]
      refine wpAnyH_done (by kernel_rfl) ?_ _
      go_wp2_with fail
      go_meet
      case rel => exact ⟨gi, go, rfl, rfl, hlgi, hlgo, hkgi, hkgo, hne, hgi2.out, hgo2.out, HF2.out⟩
  case rest =>
  obtain ⟨gi, go, rfl, rfl, hlgi, hlgo, hkgi, hkgo, hne, hBi, hBo, hF⟩ := hcut
  have HI0 := hid (show Blk wc 5 gi (B (laidI 54 kf 0)) from hBi)
  have HO0 := hid (show Blk wc 5 go (B (laidI 92 kf 0)) from hBo)
  have HF0 := hid hF
  clear hBi hBo hF HF
  go_wp2_with fail
  go_loopw [9] (fun i wr => ∃ j : Nat, j ≤ 64 ∧ i = .int .i64 j ∧ Blk wr 5 gi (B (laidI 54 kf j)) ∧ Blk wr 5 go (B (laidI 92 kf j)) ∧ F3 w wr L gk kf) (fun i _ => 64 - (intOf i).toNat)
  case atStart => exact ⟨0, Nat.zero_le _, rfl, HI0.out, HO0.out, HF0.out⟩
  case round =>
    clear HI0 HO0 HF0
    obtain ⟨j, hj, rfl, hI, hO, hF⟩ := hrel
    have HI := hid hI
    have HO := hid hO
    have HF := hid hF
    by_cases hlt : j < 64
    · have hlt' : (j : Int) < 64 := by omega
      obtain ⟨b, hb0⟩ : ∃ b, kf.getD j 0 = b := ⟨_, rfl⟩
      have ck : wr.cell? ⟨gk, j, none⟩ = some (.int .u8 b.toNat) := by rw [← hb0]; exact hF.k.cell (B_getD kf j (by rw [HKL.out]; exact hlt))
      have oi := cellD_of (hI.cell (B_getD (laidI 54 kf j) j (by rw [laidI_len 54 kf HKL.out j hj]; exact hlt)))
      have oo := cellD_of (hO.cell (B_getD (laidI 92 kf j) j (by rw [laidI_len 92 kf HKL.out j hj]; exact hlt)))
      have fi := hI.frozen j
      have fo := hO.frozen j
      obtain ⟨x5, h5⟩ : ∃ x : UInt8, 54 ^^^ b = x := ⟨_, rfl⟩
      obtain ⟨x9, h9⟩ : ∃ x : UInt8, 92 ^^^ b = x := ⟨_, rfl⟩
      have hx54 : bits .xor .u8 (b.toNat : Int) 54 = (x5.toNat : Int) := by rw [← h5]; exact bxorc b 54 (by omega)
      have hx92 : bits .xor .u8 (b.toNat : Int) 92 = (x9.toNat : Int) := by rw [← h9]; exact bxorc b 92 (by omega)
      have HSI := hid (show (laidI 54 kf j).set j x5 = laidI 54 kf (j + 1) by rw [← h5, ← hb0]; exact laidI_set 54 kf HKL.out j hlt)
      have HSO := hid (show (laidI 92 kf j).set j x9 = laidI 92 kf (j + 1) by rw [← h9, ← hb0]; exact laidI_set 92 kf HKL.out j hlt)
      clear hI hO hF hb0 h5 h9
      go_wp2_with fail
      have HS0 : Hid (∀ (w'' : World) (v : Value), (w''.cell? ⟨gk, j, none⟩ = some (.int .u8 b.toNat) ∧ w''.cell? ⟨gi, j, none⟩ = some (cellD w'' ⟨gi, j, none⟩) ∧ w''.frozen? ⟨gi, j, none⟩ = false ∧ w''.cell? ⟨go, j, none⟩ = some (cellD w'' ⟨go, j, none⟩) ∧ w''.frozen? ⟨go, j, none⟩ = false) → (w''.setCell ⟨gi, j, none⟩ v).cell? ⟨gk, j, none⟩ = some (.int .u8 b.toNat) ∧ (w''.setCell ⟨gi, j, none⟩ v).cell? ⟨gi, j, none⟩ = some (cellD (w''.setCell ⟨gi, j, none⟩ v) ⟨gi, j, none⟩) ∧ (w''.setCell ⟨gi, j, none⟩ v).frozen? ⟨gi, j, none⟩ = false ∧ (w''.setCell ⟨gi, j, none⟩ v).cell? ⟨go, j, none⟩ = some (cellD (w''.setCell ⟨gi, j, none⟩ v) ⟨go, j, none⟩) ∧ (w''.setCell ⟨gi, j, none⟩ v).frozen? ⟨go, j, none⟩ = false) := by
        rintro w'' v ⟨a1, p1, q1, p2, q2⟩
        refine ⟨?_, cellD_set p1, by rw [World.frozen?_setCell]; exact q1, cellD_other (by intro h; injection h; omega) p2, by rw [World.frozen?_setCell]; exact q2⟩
        rw [World.cell?_setCell_other _ _ _ _ (by intro h; injection h; omega)]; exact a1
      have HS1 : Hid (∀ (w'' : World) (v : Value), (w''.cell? ⟨gk, j, none⟩ = some (.int .u8 b.toNat) ∧ w''.cell? ⟨gi, j, none⟩ = some (cellD w'' ⟨gi, j, none⟩) ∧ w''.frozen? ⟨gi, j, none⟩ = false ∧ w''.cell? ⟨go, j, none⟩ = some (cellD w'' ⟨go, j, none⟩) ∧ w''.frozen? ⟨go, j, none⟩ = false) → (w''.setCell ⟨go, j, none⟩ v).cell? ⟨gk, j, none⟩ = some (.int .u8 b.toNat) ∧ (w''.setCell ⟨go, j, none⟩ v).cell? ⟨gi, j, none⟩ = some (cellD (w''.setCell ⟨go, j, none⟩ v) ⟨gi, j, none⟩) ∧ (w''.setCell ⟨go, j, none⟩ v).frozen? ⟨gi, j, none⟩ = false ∧ (w''.setCell ⟨go, j, none⟩ v).cell? ⟨go, j, none⟩ = some (cellD (w''.setCell ⟨go, j, none⟩ v) ⟨go, j, none⟩) ∧ (w''.setCell ⟨go, j, none⟩ v).frozen? ⟨go, j, none⟩ = false) := by
        rintro w'' v ⟨a1, p1, q1, p2, q2⟩
        refine ⟨?_, cellD_other (by intro h; injection h; omega) p1, by rw [World.frozen?_setCell]; exact q1, cellD_set p2, by rw [World.frozen?_setCell]; exact q2⟩
        rw [World.cell?_setCell_other _ _ _ _ (by intro h; injection h; omega)]; exact a1
      refine wp_region_held_drew (S := fun w' => w'.cell? ⟨gk, j, none⟩ = some (.int .u8 b.toNat) ∧ w'.cell? ⟨gi, j, none⟩ = some (cellD w' ⟨gi, j, none⟩) ∧ w'.frozen? ⟨gi, j, none⟩ = false ∧ w'.cell? ⟨go, j, none⟩ = some (cellD w' ⟨go, j, none⟩) ∧ w'.frozen? ⟨go, j, none⟩ = false) (by kernel_rfl) (⟨ck, oi, fi, oo, fo⟩) (fun hHeld => ?_)
      refine wpAnyH_take (i := 0) (v := .slice (some ⟨gi, 0, none⟩) 64 64) rfl (by kernel_rfl) (by kernel_rfl) (by kernel_rfl) (fun _ _ _ h => h) (Or.inl ⟨by rfl, by intro w hSw; go_simp⟩) hHeld ?_
      try simp only [Act.put, List.setIfInBounds_toArray, List.set_cons_zero, List.set_cons_succ, List.getElem_toArray, List.getElem_cons_zero, List.getElem_cons_succ]
      refine wpAnyH_take (i := 1) (v := .int .i64 (j : Int)) rfl (by kernel_rfl) (by kernel_rfl) (by kernel_rfl) (fun _ _ _ h => h) (Or.inl ⟨by rfl, by intro w hSw; go_simp⟩) hHeld ?_
      try simp only [Act.put, List.setIfInBounds_toArray, List.set_cons_zero, List.set_cons_succ, List.getElem_toArray, List.getElem_cons_zero, List.getElem_cons_succ]
      refine wpAnyH_take (i := 2) (v := .slice (some ⟨go, 0, none⟩) 64 64) rfl (by kernel_rfl) (by kernel_rfl) (by kernel_rfl) (fun _ _ _ h => h) (Or.inl ⟨by rfl, by intro w hSw; go_simp⟩) hHeld ?_
      try simp only [Act.put, List.setIfInBounds_toArray, List.set_cons_zero, List.set_cons_succ, List.getElem_toArray, List.getElem_cons_zero, List.getElem_cons_succ]
      refine wpAnyH_take (i := 3) (v := .int .i64 (j : Int)) rfl (by kernel_rfl) (by kernel_rfl) (by kernel_rfl) (fun _ _ _ h => h) (Or.inl ⟨by rfl, by intro w hSw; go_simp⟩) hHeld ?_
      try simp only [Act.put, List.setIfInBounds_toArray, List.set_cons_zero, List.set_cons_succ, List.getElem_toArray, List.getElem_cons_zero, List.getElem_cons_succ]
      refine wpAnyH_take (i := 4) (v := .slice (some ⟨gk, 0, none⟩) 64 64) rfl (by kernel_rfl) (by kernel_rfl) (by kernel_rfl) (fun _ _ _ h => h) (Or.inl ⟨by rfl, by intro w hSw; go_simp⟩) hHeld ?_
      try simp only [Act.put, List.setIfInBounds_toArray, List.set_cons_zero, List.set_cons_succ, List.getElem_toArray, List.getElem_cons_zero, List.getElem_cons_succ]
      refine wpAnyH_take (i := 5) (v := .int .i64 (j : Int)) rfl (by kernel_rfl) (by kernel_rfl) (by kernel_rfl) (fun _ _ _ h => h) (Or.inl ⟨by rfl, by intro w hSw; go_simp⟩) hHeld ?_
      try simp only [Act.put, List.setIfInBounds_toArray, List.set_cons_zero, List.set_cons_succ, List.getElem_toArray, List.getElem_cons_zero, List.getElem_cons_succ]
      refine wpAnyH_take (i := 6) (v := .pointer (some ⟨gk, j, none⟩)) rfl (by kernel_rfl) (by kernel_rfl) (by kernel_rfl) (fun _ _ _ h => h) (Or.inl ⟨by rfl, by intro w hSw; go_simp⟩) hHeld ?_
      try simp only [Act.put, List.setIfInBounds_toArray, List.set_cons_zero, List.set_cons_succ, List.getElem_toArray, List.getElem_cons_zero, List.getElem_cons_succ]
      refine wpAnyH_take (i := 7) (v := .int .u8 b.toNat) rfl (by kernel_rfl) (by kernel_rfl) (by kernel_rfl) (fun _ _ _ h => h) (Or.inl ⟨by rfl, by intro w hSw; have q := hSw.1; go_simp⟩) hHeld ?_
      try simp only [Act.put, List.setIfInBounds_toArray, List.set_cons_zero, List.set_cons_succ, List.getElem_toArray, List.getElem_cons_zero, List.getElem_cons_succ]
      refine wpAnyH_take (i := 8) (v := .int .u8 x5.toNat) rfl (by kernel_rfl) (by kernel_rfl) (by kernel_rfl) (fun _ _ _ h => h) (Or.inl ⟨by rfl, by intro w hSw; go_simp⟩) hHeld ?_
      try simp only [Act.put, List.setIfInBounds_toArray, List.set_cons_zero, List.set_cons_succ, List.getElem_toArray, List.getElem_cons_zero, List.getElem_cons_succ]
      refine wpAnyH_take (i := 9) (v := .slice (some ⟨gk, 0, none⟩) 64 64) rfl (by kernel_rfl) (by kernel_rfl) (by kernel_rfl) (fun _ _ _ h => h) (Or.inl ⟨by rfl, by intro w hSw; go_simp⟩) hHeld ?_
      try simp only [Act.put, List.setIfInBounds_toArray, List.set_cons_zero, List.set_cons_succ, List.getElem_toArray, List.getElem_cons_zero, List.getElem_cons_succ]
      refine wpAnyH_take (i := 10) (v := .int .i64 (j : Int)) rfl (by kernel_rfl) (by kernel_rfl) (by kernel_rfl) (fun _ _ _ h => h) (Or.inl ⟨by rfl, by intro w hSw; go_simp⟩) hHeld ?_
      try simp only [Act.put, List.setIfInBounds_toArray, List.set_cons_zero, List.set_cons_succ, List.getElem_toArray, List.getElem_cons_zero, List.getElem_cons_succ]
      refine wpAnyH_take (i := 11) (v := .pointer (some ⟨gk, j, none⟩)) rfl (by kernel_rfl) (by kernel_rfl) (by kernel_rfl) (fun _ _ _ h => h) (Or.inl ⟨by rfl, by intro w hSw; go_simp⟩) hHeld ?_
      try simp only [Act.put, List.setIfInBounds_toArray, List.set_cons_zero, List.set_cons_succ, List.getElem_toArray, List.getElem_cons_zero, List.getElem_cons_succ]
      refine wpAnyH_take (i := 12) (v := .int .u8 b.toNat) rfl (by kernel_rfl) (by kernel_rfl) (by kernel_rfl) (fun _ _ _ h => h) (Or.inl ⟨by rfl, by intro w hSw; have q := hSw.1; go_simp⟩) hHeld ?_
      try simp only [Act.put, List.setIfInBounds_toArray, List.set_cons_zero, List.set_cons_succ, List.getElem_toArray, List.getElem_cons_zero, List.getElem_cons_succ]
      refine wpAnyH_take (i := 13) (v := .int .u8 x9.toNat) rfl (by kernel_rfl) (by kernel_rfl) (by kernel_rfl) (fun _ _ _ h => h) (Or.inl ⟨by rfl, by intro w hSw; go_simp⟩) hHeld ?_
      try simp only [Act.put, List.setIfInBounds_toArray, List.set_cons_zero, List.set_cons_succ, List.getElem_toArray, List.getElem_cons_zero, List.getElem_cons_succ]
      refine wpAnyH_take (i := 14) (v := .pointer (some ⟨gi, j, none⟩)) rfl (by kernel_rfl) (by kernel_rfl) (by kernel_rfl) (fun _ _ _ h => h) (Or.inl ⟨by rfl, by intro w hSw; go_simp⟩) hHeld ?_
      try simp only [Act.put, List.setIfInBounds_toArray, List.set_cons_zero, List.set_cons_succ, List.getElem_toArray, List.getElem_cons_zero, List.getElem_cons_succ]
      refine wpAnyH_ready (rs := [15]) (by kernel_rfl) (by simp) ?_
      refine AllReadyH.cons rfl (fun K hK => ?_) AllReadyH.nil
      go_simp
      refine hK.out _ _ (HS0.out _ _ hHeld) (fun hHeld => ?_)
      clear hK K
      try simp only [Act.put, List.setIfInBounds_toArray, List.set_cons_zero, List.set_cons_succ, List.getElem_toArray, List.getElem_cons_zero, List.getElem_cons_succ]
      refine wpAnyH_take (i := 16) (v := .pointer (some ⟨go, j, none⟩)) rfl (by kernel_rfl) (by kernel_rfl) (by kernel_rfl) (fun _ _ _ h => h) (Or.inl ⟨by rfl, by intro w hSw; go_simp⟩) hHeld ?_
      try simp only [Act.put, List.setIfInBounds_toArray, List.set_cons_zero, List.set_cons_succ, List.getElem_toArray, List.getElem_cons_zero, List.getElem_cons_succ]
      refine wpAnyH_ready (rs := [17]) (by kernel_rfl) (by simp) ?_
      refine AllReadyH.cons rfl (fun K hK => ?_) AllReadyH.nil
      go_simp
      refine hK.out _ _ (HS1.out _ _ hHeld) (fun hHeld => ?_)
      clear hK K
      try simp only [Act.put, List.setIfInBounds_toArray, List.set_cons_zero, List.set_cons_succ, List.getElem_toArray, List.getElem_cons_zero, List.getElem_cons_succ]
      refine wpAnyH_done (by kernel_rfl) ?_ _
      clear ck oi oo fi fo hx54 hx92
      have HI2 := hid (show Blk ((wr.setCell ⟨gi, j, none⟩ (.int .u8 x5.toNat)).setCell ⟨go, j, none⟩ (.int .u8 x9.toNat)) 5 gi (B (laidI 54 kf (j + 1))) by
        refine Blk.kept (w := wr.setCell ⟨gi, j, none⟩ (.int .u8 x5.toNat)) ?_ (heap_setCell_other _ _ _ _ (show gi ≠ go from hne))
        rw [← HSI.out, ← B_set]
        exact Blk.setCell HI.out j _)
      have HO2 := hid (show Blk ((wr.setCell ⟨gi, j, none⟩ (.int .u8 x5.toNat)).setCell ⟨go, j, none⟩ (.int .u8 x9.toNat)) 5 go (B (laidI 92 kf (j + 1))) by
        rw [← HSO.out, ← B_set]
        exact Blk.setCell (Blk.kept HO.out (heap_setCell_other _ _ _ _ (show go ≠ gi from hne.symm))) j _)
      have HF2 := hid ((HF.out.set hlgi hkgi j (.int .u8 x5.toNat)).set hlgo hkgo j (.int .u8 x9.toNat))
      go_wp2_with fail
      go_roundw
      case rel => exact ⟨j + 1, by omega, by go_num, HI2.out, HO2.out, HF2.out.later ((Below.refl _ _).drew)⟩
      case measure => simp [intOf]; omega
    · have hj64 : j = 64 := by omega
      subst hj64
      obtain ⟨il, hil⟩ : ∃ il, maskS 54 kf = il := ⟨_, rfl⟩
      obtain ⟨ol, hol⟩ : ∃ ol, maskS 92 kf = ol := ⟨_, rfl⟩
      have hill : il.length = 64 := by rw [← hil, maskS_len, HKL.out]
      have holl : ol.length = 64 := by rw [← hol, maskS_len, HKL.out]
      rw [laidI_end 54 kf HKL.out, hil] at hI
      rw [laidI_end 92 kf HKL.out, hol] at hO
      have HI := hid (hI.owns (n := 64) (by rw [B_length, hill]) (by unfold maxLen; omega))
      have HO := hid (hO.owns (n := 64) (by rw [B_length, holl]) (by unfold maxLen; omega))
      have HMac := hid (show macS key text = shaS (ol ++ shaS (il ++ text)) by rw [macS, HKF.out, hol, hil])
      have Hill := hid hill
      have Holl := hid holl
      have HRr := hid (HRt.out.later HF.out.b)
      have hlr : gi < wr.heap.size := hI.lt
      have hlo : go < wr.heap.size := hO.lt
      clear hI hO hF hil hol hill holl
      go_wp2_with (at_builtin; go_must (refine wpList_append_src _ rfl _ _ 22 22 rfl 5 i0 (.int .u8 0) Tryd.underlying22 hi hz0 hz1 hz2 rfl gi 64 64 _ rfl HI.out _ m _ rfl (Src.ofBytes _ Tryd.underlying22 HM.out HRr.out) (by omega) ?_); intro g4 cap4 w4 hG4; replace hG4 := hid hG4)
      have HR4 := hid (show Reads w4 (.slice (some ⟨g4, 0, none⟩) (64 + m) cap4) (B (il ++ text)) by rw [B_append]; exact hG4.out.own.reads)
      have HF4 := hid (show Below w.heap.size w w4 from hG4.out.below HF.out.b (by have := HF.out.lw; omega))
      have HB4 := hid (show Blk w4 26 L (B (List.replicate 32 0)) from HF.out.r.kept (hG4.out.grown.block L HF.out.r.lt (by intro e; injection e; omega)))
      have HO4 := hid (HO.out.kept (hG4.out.grown.block go hlo (by intro e; injection e; omega)))
      have hLw : w.heap.size ≤ L := HF.out.lw
      clear hG4 HI HO HRr HF
      obtain ⟨sl, hsl⟩ : ∃ sl, shaS (il ++ text) = sl := ⟨_, rfl⟩
      have hsll : sl.length = 32 := by rw [← hsl, shaS_len]
      obtain ⟨ss, hss⟩ : ∃ ss, B sl = ss := ⟨_, rfl⟩
      have hssl : ss.length = 32 := by rw [← hss, B_length, hsll]
      have Hsso := hid (show ∀ v ∈ ss, v.oneCell' = true by rw [← hss]; exact B_one _)
      have Hssi := hid (show (Tryd.prog.info? 26).map (·.size) = some ss.length by rw [hssl]; kernel_rfl)
      have Hssl := hid hssl
      have HSL := hid hsl
      have HSS := hid hss
      have HSLL := hid hsll
      clear hsl hss hssl hsll
      refine (refSum_any (il ++ text) _ (64 + m) cap4 (by rw [List.length_append, Hill.out, HM.out]) w4 HR4.out (by omega)).mono ?_
      rintro _ w5 ⟨rfl, hb5⟩
      rw [HSL.out, HSS.out]
      have HF5 := hid (below_seq HF4.out hb5)
      have HB5 := hid (HB4.out.later hb5)
      have HO5 := hid (HO4.out.later hb5)
      clear hb5 HF4 HB4 HO4 HR4
      obtain ⟨L5, hL5⟩ : ∃ L5, w5.heap.size = L5 := ⟨_, rfl⟩
      have hlt5 : L < L5 := by rw [← hL5]; exact HB5.out.lt
      have hlo5 : go < L5 := by rw [← hL5]; exact HO5.out.lt
      go_wp2_with (first
        | (show wpList _ _ _ (⟨some 10, Op.alloc _, _, _, _, _⟩ :: _) _ _; go_must (refine wpList_alloc_blk rfl 26 rfl _ zeroHash L5 hL5 ?_); intro w6 hB6 hb6 hs6; replace hB6 := hid hB6; replace hb6 := hid hb6; have ht6 := hid (hB6.out.there (o := 0) (n := ss.length) (by rw [B_length, List.length_replicate, Hssl.out]; omega)))
        | (show wpList _ _ _ (⟨none, Op.store _ (Operand.tmp 10) _, _, _, _, _⟩ :: _) _ _; go_must (refine wpList_store_list rfl 26 _ _ rfl L5 0 ss rfl rfl ht6.out Hssi.out Hsso.out ?_); intro w7 hw7; replace hw7 := hid hw7; have HR7 := hid (show Reads w7 (.slice (some ⟨L5, 0, none⟩) 32 32) (B sl) by (have hB7 : Blk w7 26 L5 ss := (by rw [hw7.out]; exact Blk.over (by rw [B_length, List.length_replicate, Hssl.out]) hB6.out); rw [← HSS.out] at hB7; exact hB7.whole HSLL.out)); have HO7 := hid (show Owns w7 5 go 64 64 (B ol) by (rw [hw7.out]; exact (HO5.out.kept (hb6.out.block go (by omega))).kept (setCells_heap (by omega) _ _ _))); have HB7 := hid (show Blk w7 26 L (B (List.replicate 32 0)) by (rw [hw7.out]; exact (HB5.out.kept (hb6.out.block L (by omega))).kept (setCells_heap (by omega) _ _ _))); have HF7 := hid (show Below w.heap.size w w7 by (rw [hw7.out]; exact below_setCells (by omega) _ _ (HF5.out.trans (hb6.out.mono (by omega))))); have hs7 : L < w7.heap.size := HB7.out.lt; clear hw7 ht6 hB6 hb6)
        | (show wpList _ _ _ (⟨some 51, _, _, _, _, _⟩ :: _) _ _; go_must (refine wpList_append_src _ rfl _ _ 22 22 rfl 5 i0 (.int .u8 0) Tryd.underlying22 hi hz0 hz1 hz2 rfl go 64 64 _ rfl HO7.out _ 32 _ rfl (Src.ofBytes _ Tryd.underlying22 HSLL.out HR7.out) (by omega) ?_); intro g8 cap8 w8 hG8; replace hG8 := hid hG8))
      have HR8 := hid (show Reads w8 (.slice (some ⟨g8, 0, none⟩) (64 + 32) cap8) (B (ol ++ sl)) by rw [B_append]; exact hG8.out.own.reads)
      have HF8 := hid (show Below w.heap.size w w8 from hG8.out.below HF7.out (by omega))
      have HB8 := hid (show Blk w8 26 L (B (List.replicate 32 0)) from HB7.out.kept (hG8.out.grown.block L hs7 (by intro e; injection e; omega)))
      clear hG8 HO7 HB7 HF7 HR7
      obtain ⟨rs, hrs⟩ : ∃ rs, B (shaS (ol ++ sl)) = rs := ⟨_, rfl⟩
      have hrsl : rs.length = 32 := by rw [← hrs, B_length, shaS_len]
      have HRS := hid (show B (macS key text) = rs by rw [HMac.out, HSL.out, ← hrs])
      have Hrso := hid (show ∀ v ∈ rs, v.oneCell' = true by rw [← hrs]; exact B_one _)
      have Hrsi := hid (show (Tryd.prog.info? 26).map (·.size) = some rs.length by rw [hrsl]; kernel_rfl)
      have Hrsl := hid hrsl
      have Hrs := hid hrs
      clear hrs hrsl
      refine (refSum_any (ol ++ sl) _ 96 cap8 (by rw [List.length_append, Holl.out, HSLL.out]) w8 HR8.out (by omega)).mono ?_
      rintro _ w9 ⟨rfl, hb9⟩
      rw [Hrs.out]
      have HF9 := hid (below_seq HF8.out hb9)
      have ht9 := hid (show w9.there L 0 rs.length from (HB8.out.later hb9).there (by rw [B_length, List.length_replicate, Hrsl.out]; omega))
      clear hb9 HF8 HB8 HR8
      go_wp2_with (show wpList _ _ _ (⟨none, Op.store _ _ _, _, _, _, _⟩ :: _) _ _; go_must (refine wpList_store_list rfl 26 _ _ rfl L 0 rs rfl rfl ht9.out Hrsi.out Hrso.out ?_); intro w10 hw10; replace hw10 := hid hw10)
      refine ret_cell 4 26 rfl L rfl rs _ ?_ Tryd.underlying26 rfl Hrsi.out rfl ⟨by rw [HRS.out], ?_⟩
      · rw [hw10.out]
        exact World.rangeAt_setCells_same w9 L 0 rs ht9.out
      · rw [hw10.out]
        exact below_setCells (by omega) _ _ HF9.out
end Go.Proofs.YtinifnpajkldbaaDoor

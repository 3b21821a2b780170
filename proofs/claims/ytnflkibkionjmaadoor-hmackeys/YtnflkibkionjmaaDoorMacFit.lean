/- What the document says of a sign, and the contract of fit: the key as a block. -/
import Derived.Test.YtnflkibkionjmaaDoorGen2
namespace Go.Proofs.YtnflkibkionjmaaDoor
open Go.RowKit
set_option linter.unusedSimpArgs false
set_option linter.unusedVariables false

/-- The key as a block: one of more than 64 bytes by its sum; noughts behind. -/
def fitS (k : List UInt8) : List UInt8 := if 64 < k.length then shaS k ++ List.replicate 32 0 else k ++ List.replicate (64 - k.length) 0
def maskS (m : UInt8) (k : List UInt8) : List UInt8 := k.map fun b => m ^^^ b
/-- HMAC (RFC 2104) by SHA-256. -/
def macS (k t : List UInt8) : List UInt8 := shaS (maskS 92 (fitS k) ++ shaS (maskS 54 (fitS k) ++ t))

theorem fitS_len (k : List UInt8) : (fitS k).length = 64 := by
  unfold fitS
  split
  · rw [List.length_append, shaS_len, List.length_replicate]
  · rw [List.length_append, List.length_replicate]; omega
theorem maskS_len (m : UInt8) (k : List UInt8) : (maskS m k).length = k.length := by rw [maskS, List.length_map]
theorem macS_len (k t : List UInt8) : (macS k t).length = 32 := shaS_len _

theorem zeroBlk : (Tryd.prog.info? 36).bind (fun i => i.zero.map fun z => z.cells.toList) = some (B (List.replicate 64 0)) := by kernel_rfl

/-- A front of a block of noughts is written over. -/
theorem Blk.front {w : World} {t : TypeId} {g n : Nat} (l : List UInt8) (k : Nat) (hk : l.length = k) (hkn : k ≤ n) (h : Blk w t g (B (List.replicate n 0))) : Blk (w.setCells g 0 (B l)) t g (B (l ++ List.replicate (n - k) 0)) := by
  have e : B (List.replicate n 0) = [] ++ B (List.replicate k 0) ++ B (List.replicate (n - k) 0) := by
    rw [List.nil_append, ← B_append, List.replicate_append_replicate, Nat.add_sub_cancel' hkn]
  have := Blk.setCells (t := t) (g := g) (B l) [] (B (List.replicate k 0)) (B (List.replicate (n - k) 0)) (w := w) (o := 0) (by rw [← e]; exact h) (by rw [B_length, B_length, List.length_replicate, hk]) rfl
  rw [List.nil_append, ← B_append] at this
  exact this

set_option maxRecDepth 100000 in
set_option maxHeartbeats 4000000 in
theorem fit_any (key : List UInt8) (ao : Option Addr) (n cap : Nat) (hn : key.length = n) (w : World) (ht : Tabs w) (hr : Reads w (.slice ao n cap) (B key)) (hcap : cap ≤ maxLen) (hb : n ≤ 100000) :
    Calls Tryd.prog 13 #[.slice ao n cap] w fun e w' => e = .returned (.agg (B (fitS key)).toArray) ∧ Below w.heap.size w w' := by
  have HR := hid hr
  have HT := hid ht
  have HN := hid hn
  have HCap := hid hcap
  have h2 := ht.two
  obtain ⟨L, hL⟩ : ∃ L, w.heap.size = L := ⟨_, rfl⟩
  obtain ⟨fs, hfs⟩ : ∃ fs, B (fitS key) = fs := ⟨_, rfl⟩
  rw [hfs]
  have hfl : fs.length = 64 := by rw [← hfs, B_length, fitS_len]
  have ho := hid (show ∀ v ∈ fs, v.oneCell' = true by rw [← hfs]; exact B_one _)
  have hi := hid (show (Tryd.prog.info? 36).map (·.size) = some fs.length by rw [hfl]; kernel_rfl)
  have HF := hid hfs
  have HFL := hid hfl
  clear hr ht hn hcap hfs hfl
  by_cases h64 : (64 : Int) < (n : Int)
  · obtain ⟨bs, hbs⟩ : ∃ bs, B (shaS key) = bs := ⟨_, rfl⟩
    have hbl : bs.length = 32 := by rw [← hbs, B_length, shaS_len]
    have hob := hid (show ∀ v ∈ bs, v.oneCell' = true by rw [← hbs]; exact B_one _)
    have hib := hid (show (Tryd.prog.info? 26).map (·.size) = some bs.length by rw [hbl]; kernel_rfl)
    have HBS := hid hbs
    have HBL := hid hbl
    clear hbs hbl
    go_enter Tryd.func13, Tryd.ntmps13
    go_wp2_with (first
      | (show wpList _ _ _ (⟨some 2, Op.alloc _, _, _, _, _⟩ :: _) _ _; go_must (refine wpList_alloc_blk rfl 36 rfl _ zeroBlk L hL ?_); intro w1 hB1 hb1 hs1; replace hB1 := hid hB1; replace hb1 := hid hb1)
      | (show wpList _ _ _ (⟨some 3, Op.alloc _, _, _, _, _⟩ :: _) _ _; go_must (refine wpList_alloc_blk rfl 36 rfl _ zeroBlk (L + 1) hs1 ?_); intro w2 hB2 hb2 hs2; replace hB2 := hid hB2; replace hb2 := hid hb2))
    have Hb2 := hid (show Below w.heap.size w w2 by rw [hL]; exact hb1.out.trans (hb2.out.mono (by omega)))
    have HB1 := hid (show Blk w2 36 L (B (List.replicate 64 0)) from hB1.out.kept (hb2.out.block L (by omega)))
    have HbA := hid (Hb2.out.alloc Hb2.out.size (.cells #[.slice ao n cap] 22))
    have HRA := hid (show Reads (w2.alloc (.cells #[.slice ao n cap] 22)) (.slice ao n cap) (B key) from HR.out.later HbA.out)
    have HBA1 := hid (HB1.out.alloc (.cells #[.slice ao n cap] 22))
    have HBA2 := hid (hB2.out.alloc (.cells #[.slice ao n cap] 22))
    clear hB1 hb1 hB2 hb2 HB1
    refine (Sum_any _ (HT.out.below HbA.out h2) _ [key] (Parts.one (t := 22) (fr := (0, 0)) (by rw [heap_of_alloc, if_pos hs2.symm]) HRA.out HN.out HCap.out) (by simp) (by simp [HN.out]; omega)).mono ?_
    rintro _ w3 ⟨rfl, hb3⟩
    rw [show [key].flatten = key by simp, HBS.out]
    have Hb3 := hid (below_seq HbA.out hb3)
    have HB31 := hid (HBA1.out.later hb3)
    have HB32 := hid (HBA2.out.later hb3)
    clear hb3 HbA HRA HBA1 HBA2
    obtain ⟨L3, hL3⟩ : ∃ L3, w3.heap.size = L3 := ⟨_, rfl⟩
    have hlt3 : L + 1 < L3 := by rw [← hL3]; exact HB32.out.lt
    go_wp2_with (first
      | (show wpList _ _ _ (⟨some 4, Op.alloc _, _, _, _, _⟩ :: _) _ _; go_must (refine wpList_alloc_blk rfl 26 rfl _ zeroHash L3 hL3 ?_); intro w4 hB4 hb4 hs4; replace hB4 := hid hB4; replace hb4 := hid hb4; have ht4 := hid (hB4.out.there (o := 0) (n := bs.length) (by rw [B_length, List.length_replicate, HBL.out]; omega)))
      | (show wpList _ _ _ (⟨none, Op.store _ _ _, _, _, _, _⟩ :: _) _ _; go_must (refine wpList_store_list rfl 26 _ _ rfl L3 0 bs rfl rfl ht4.out hib.out hob.out ?_); intro w5 hw5; replace hw5 := hid hw5))
    have hB5 : Blk w5 26 L3 bs := by
      rw [hw5.out]
      have := Blk.setCells (t := 26) (g := L3) bs [] (B (List.replicate 32 0)) [] (w := w4) (o := 0) (by rw [List.nil_append, List.append_nil]; exact hB4.out) (by rw [B_length, List.length_replicate, HBL.out]) rfl
      rw [List.nil_append, List.append_nil] at this
      exact this
    have HR5 := hid (show Reads w5.drew (.slice (some ⟨L3, 0, none⟩) 32 32) bs by
      rw [← HBS.out] at hB5 ⊢
      have h := Blk.reads hB5 32 32 (by rw [shaS_len]; omega) (Nat.le_refl _)
      rw [List.take_of_length_le (by rw [shaS_len]; omega)] at h
      exact h.later ((Below.refl _ _).drew))
    have HB51 := hid (show Blk w5 36 L (B (List.replicate 64 0)) by rw [hw5.out]; exact ((HB31.out.kept (hb4.out.block L (by omega)))).kept (setCells_heap (by omega) _ _ _))
    have HB52 := hid (show Blk w5 36 (L + 1) (B (List.replicate 64 0)) by rw [hw5.out]; exact ((HB32.out.kept (hb4.out.block (L + 1) (by omega)))).kept (setCells_heap (by omega) _ _ _))
    have Hb5 := hid (show Below w.heap.size w w5 by rw [hw5.out]; exact below_setCells (by omega) _ _ (Hb3.out.trans (hb4.out.mono (by omega))))
    have hs5 : w5.heap.size = w5.drew.heap.size := rfl
    clear hB4 hb4 hw5 ht4 HB31 HB32 Hb3 hB5
    refine wp_region_held_drew (S := fun w' => True) (by kernel_rfl) (trivial) (fun hHeld => ?_)
    refine wpAnyH_take (i := 0) (v := .slice (some ⟨L + 1, 0, none⟩) 64 64) rfl (by kernel_rfl) (by kernel_rfl) (by kernel_rfl) (fun _ _ _ h => h) (Or.inl ⟨by rfl, by intro w hSw; go_simp⟩) hHeld ?_
    try simp only [Act.put, List.setIfInBounds_toArray, List.set_cons_zero, List.set_cons_succ, List.getElem_toArray, List.getElem_cons_zero, List.getElem_cons_succ]
    refine wpAnyH_take (i := 1) (v := .slice (some ⟨L3, 0, none⟩) 32 32) rfl (by kernel_rfl) (by kernel_rfl) (by kernel_rfl) (fun _ _ _ h => h) (Or.inl ⟨by rfl, by intro w hSw; go_simp⟩) hHeld ?_
    try simp only [Act.put, List.setIfInBounds_toArray, List.set_cons_zero, List.set_cons_succ, List.getElem_toArray, List.getElem_cons_zero, List.getElem_cons_succ]
    refine wpAnyH_ready (rs := [2]) (by kernel_rfl) (by simp) ?_
    refine AllReadyH.cons rfl (fun K hK => ?_) AllReadyH.nil
    refine Eq.mpr (if_pos (by rfl)) ?_
    refine wp_copy_list _ _ 22 22 rfl 5 Tryd.underlying22 Tryd.size1 (L + 1) 0 64 64 rfl _ rfl bs HR5.out 32 (by rw [HBL.out]; rfl) (show w5.there (L + 1) 0 32 from HB52.out.there (by rw [B_length, List.length_replicate]; omega)) hob.out ?_
    refine hK.out _ _ trivial (fun hHeld => ?_)
    clear hK K
    try simp only [Act.put, List.setIfInBounds_toArray, List.set_cons_zero, List.set_cons_succ, List.getElem_toArray, List.getElem_cons_zero, List.getElem_cons_succ]
    refine wpAnyH_done (by kernel_rfl) ?_ _
    have HB6 := hid (show Blk (w5.drew.setCells (L + 1) 0 (bs.take 32)) 36 (L + 1) fs by
      rw [← HF.out, fitS, if_pos (by rw [HN.out]; omega), List.take_of_length_le (by rw [HBL.out]; omega), ← HBS.out]
      exact Blk.front (shaS key) 32 (shaS_len key) (by omega) (show Blk w5.drew 36 (L + 1) (B (List.replicate 64 0)) from HB52.out))
    have HB61 := hid (show Blk (w5.drew.setCells (L + 1) 0 (bs.take 32)) 36 L (B (List.replicate 64 0)) from (show Blk w5.drew 36 L (B (List.replicate 64 0)) from HB51.out).kept (setCells_heap (by omega) _ _ _))
    have Hb6 := hid (show Below w.heap.size w (w5.drew.setCells (L + 1) 0 (bs.take 32)) from below_setCells (by omega) _ _ Hb5.out.drew)
    generalize w5.drew.setCells (L + 1) 0 (bs.take 32) = w6 at *
    have hr6 := hid (show w6.rangeAt (L + 1) 0 fs from HB6.out.range fun j v hv => by rw [Nat.zero_add]; exact hv)
    have ht6 := hid (show w6.there L 0 fs.length from HB61.out.there (by rw [B_length, List.length_replicate, HFL.out]; omega))
    clear HB6 HB61
    go_wp2_with (first
      | (show wpList _ _ _ (⟨some 14, Op.load _ _, _, _, _, _⟩ :: _) _ _; go_must (refine wpList_load_mid rfl 36 _ rfl (L + 1) 0 rfl fs _ hr6.out Tryd.underlying36 rfl hi.out ?_))
      | (show wpList _ _ _ (⟨none, Op.store _ _ _, _, _, _, _⟩ :: _) _ _; go_must (refine wpList_store_list rfl 36 _ _ rfl L 0 fs rfl rfl ht6.out hi.out ho.out ?_); intro w7 hw7; replace hw7 := hid hw7))
    refine ret_cell 2 36 rfl L rfl fs _ ?_ Tryd.underlying36 rfl hi.out rfl ⟨rfl, ?_⟩
    · rw [hw7.out]
      exact World.rangeAt_setCells_same w6 L 0 fs ht6.out
    · rw [hw7.out]
      exact below_setCells (by omega) _ _ Hb6.out
  · have hn64 : n ≤ 64 := by omega
    have HLn := hid (show (B key).length = n by rw [B_length, HN.out])
    go_enter Tryd.func13, Tryd.ntmps13
    go_wp2_with (first
      | (show wpList _ _ _ (⟨some 2, Op.alloc _, _, _, _, _⟩ :: _) _ _; go_must (refine wpList_alloc_blk rfl 36 rfl _ zeroBlk L hL ?_); intro w1 hB1 hb1 hs1; replace hB1 := hid hB1; replace hb1 := hid hb1)
      | (show wpList _ _ _ (⟨some 3, Op.alloc _, _, _, _, _⟩ :: _) _ _; go_must (refine wpList_alloc_blk rfl 36 rfl _ zeroBlk (L + 1) hs1 ?_); intro w2 hB2 hb2 hs2; replace hB2 := hid hB2; replace hb2 := hid hb2; have Hb2 := hid (show Below w.heap.size w w2 by rw [hL]; exact hb1.out.trans (hb2.out.mono (by omega))); have HR2 := hid (HR.out.later Hb2.out); have ht2 := hid (show w2.there (L + 1) 0 n from hB2.out.there (by rw [B_length, List.length_replicate]; omega)))
      | (show wpList _ _ _ (⟨some 17, _, _, _, _, _⟩ :: _) _ _; go_must (refine wpList_copy_list rfl _ _ 22 22 rfl 5 Tryd.underlying22 Tryd.size1 (L + 1) 0 64 64 rfl _ rfl (B key) HR2.out n (by rw [HLn.out]; exact (Nat.min_eq_left hn64).symm) ht2.out (B_one key) ?_); intro w6 hw6; replace hw6 := hid hw6; have HB6 := hid (show Blk w6 36 (L + 1) fs by (rw [hw6.out, List.take_of_length_le (by rw [HLn.out]; exact Nat.le_refl _), ← HF.out, fitS, if_neg (by rw [HN.out]; omega), HN.out]; exact Blk.front key n HN.out hn64 hB2.out)); have HB61 := hid (show Blk w6 36 L (B (List.replicate 64 0)) by (rw [hw6.out]; exact (hB1.out.kept (hb2.out.block L (by omega))).kept (setCells_heap (by omega) _ _ _))); have Hb6 := hid (show Below w.heap.size w w6 by (rw [hw6.out]; exact below_setCells (by omega) _ _ Hb2.out)); have hr6 := hid (show w6.rangeAt (L + 1) 0 fs from HB6.out.range fun j v hv => (by rw [Nat.zero_add]; exact hv)); have ht6 := hid (show w6.there L 0 fs.length from HB61.out.there (by rw [B_length, List.length_replicate, HFL.out]; omega)); clear hB2 hB1 hb1 hb2 HR2 ht2 hw6)
      | (show wpList _ _ _ (⟨some 18, Op.load _ _, _, _, _, _⟩ :: _) _ _; go_must (refine wpList_load_mid rfl 36 _ rfl (L + 1) 0 rfl fs _ hr6.out Tryd.underlying36 rfl hi.out ?_))
      | (show wpList _ _ _ (⟨none, Op.store _ _ _, _, _, _, _⟩ :: _) _ _; go_must (refine wpList_store_list rfl 36 _ _ rfl L 0 fs rfl rfl ht6.out hi.out ho.out ?_); intro w7 hw7; replace hw7 := hid hw7))
    refine ret_cell 2 36 rfl L rfl fs _ ?_ Tryd.underlying36 rfl hi.out rfl ⟨rfl, ?_⟩
    · rw [hw7.out]
      exact World.rangeAt_setCells_same w6 L 0 fs ht6.out
    · rw [hw7.out]
      have h := Hb6.out
      rw [hL] at h
      exact below_setCells (by omega) _ _ h
end Go.Proofs.YtnflkibkionjmaaDoor

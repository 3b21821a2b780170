/- The law HmacKeys: a key of up to 64 bytes is as one with noughts behind it; a longer one as its sum. -/
import Derived.Test.YtnflkibkionjmaaDoorLaysLaw
import Derived.Lib.AppendZerosOnto
namespace Go.Proofs.YtnflkibkionjmaaDoor
open Go.RowKit
set_option linter.unusedSimpArgs false
set_option linter.unusedVariables false

theorem zero_bytes (k : Nat) : Builtin.zeroCells (Value.int .u8 0).cells k = (B (List.replicate k 0)).toArray := by
  apply Array.ext'
  apply List.ext_getElem?
  intro j
  simp [Builtin.zeroCells, B, Value.cells, List.getElem?_replicate, List.getElem?_range]
  by_cases h : j < k
  · simp [h, Nat.mod_one]
  · simp [h]

section
variable {P : Program} (w : World)
theorem run_append_zeros (t tn ty e : TypeId) (i : TypeInfo) (kq kn : IntKind) (ht : P.underlying t = some (.slice e)) (htn : P.underlying tn = some (.int kn)) (hi : P.info? e = some i) (hz : i.zero = some (.int .u8 0))
    (hsize : i.size = 1) (hby : i.bytes = 1) (g cap n : Nat) (xs : List Value) (hown : Owns w e g cap n xs) (k : Nat) (hb : n + k ≤ 140737488355328) :
    ∃ g' cap' w', (Builtin.append_ #[t, tn] ty #[.slice (some ⟨g, 0, none⟩) n cap, .int kq (k : Int)]).run P w = .ok (.slice (some ⟨g', 0, none⟩) (n + k) cap') w' ∧
      Grew e w g cap n xs w' g' cap' (n + k) (xs ++ B (List.replicate k 0)) := by
  have h0 := hown
  obtain ⟨h1, h2, h3, cur, hg, hcs, htake⟩ := h0
  have hl : (B (List.replicate k 0)).length = k := by rw [B_length, List.length_replicate]
  have h63 : n + k ≤ maxLen := by unfold maxLen; omega
  have hlen : (xs ++ B (List.replicate k 0)).length = n + k := by rw [List.length_append, h1, hl]
  have hw : IntKind.i64.wrap (k : Int) = k := by rw [IntKind.wrap_i64]; omega
  have hneg : ¬ ((k : Int) < 0) := by omega
  have h48i : ¬ (281474976710656 < (k : Int) * (i.bytes : Int)) := by rw [hby]; omega
  have hw0 : IntKind.i64.wrap 0 = 0 := by decide
  by_cases hroom : n + k ≤ cap
  · have hst := run_storeCells_at P g n e (B (List.replicate k 0)) 0 cur w hg (by rw [hl]; omega) (B_one _)
    simp only [Nat.add_zero] at hst
    have hr : (Builtin.append_ #[t, tn] ty #[.slice (some ⟨g, 0, none⟩) n cap, .int kq (k : Int)]).run P w = .ok (.slice (some ⟨g, 0, none⟩) (n + k) cap) (w.setRow g (cur.toList.take n ++ B (List.replicate k 0) ++ cur.toList.drop (n + (B (List.replicate k 0)).length)).toArray) := by
      by_cases hk : k = 0
      · subst hk
        simp only [List.replicate_zero, show B [] = ([] : List Value) from rfl] at hst ⊢
        simp [Builtin.append_, run_underlying ht, run_underlying htn, sizeOf, typeInfo, zeroValue, hi, hz, asInt, asIntOf, hw0, hsize, h2, Addr.add_lit] at hst ⊢
        simp [hst]
      · simp [Builtin.append_, run_underlying ht, run_underlying htn, sizeOf, typeInfo, zeroValue, hi, hz, asInt, asIntOf, hw, hneg, h48i, hk, hsize, hroom, Addr.add_lit, zero_bytes, hst]
    have hnew : Owns (w.setRow g (cur.toList.take n ++ B (List.replicate k 0) ++ cur.toList.drop (n + (B (List.replicate k 0)).length)).toArray) e g cap (n + k) (xs ++ B (List.replicate k 0)) := by
      refine ⟨hlen, hroom, h3, _, setRow_heap w g cur _ e _ hg, ?_, ?_⟩
      · simp only [List.size_toArray, List.length_append, List.length_take, List.length_drop, Array.length_toList]
        omega
      · rw [htake]
        simp only [List.append_assoc]
        rw [← List.append_assoc, ← hlen]
        exact List.take_left
    exact ⟨g, cap, _, hr, ⟨hnew, hnew.pre h1, ⟨rfl, rfl, rfl, by simp, fun j _ hj => setRow_other w g j _ (fun e => hj (by simp [e]))⟩, .inl ⟨rfl, rfl⟩, hown.lt, _, rfl⟩⟩
  · have hgc := grownCap_ge w (n + k) cap e
    have hcm := grownCap_le_maxLen w (n + k) cap e h63
    have hf : (Builtin.firstCells i.size n (.slice (some ⟨g, 0, none⟩) n cap)).run P w.drew = .ok xs.toArray w.drew :=
      run_firstCells_some (P := P) w.drew i.size n ⟨g, 0, none⟩ n cap xs (by rw [hsize, h1, Nat.mul_one]) (by intro j u hj; rw [Addr.add_lit, Nat.zero_add]; exact hown.drew.cell hj)
    have hr := Lib.run_append_grow_zeros (P := P) w t tn ty e i _ kq kn ht htn hi hz (some ⟨g, 0, none⟩) n cap xs hf k (by omega) (by omega) (by omega) (by omega) (by rw [hby]; omega) (growslice_fits (by omega) (by rw [hby]; omega))
    rw [zero_bytes, show xs.toArray ++ (B (List.replicate k 0)).toArray = (xs ++ B (List.replicate k 0)).toArray by simp] at hr
    refine ⟨w.heap.size, grownCap w (n + k) cap e, _, hr, ⟨⟨hlen, hgc, hcm, _, heap_alloc_new w.drew _, ?_, ?_⟩, hown.drew.alloc _, ⟨rfl, rfl, rfl, by simp, fun j hj _ => Below.heap_alloc w.drew _ j hj⟩, .inr (Nat.le_refl _), hown.lt, _, rfl⟩⟩
    · simp only [Array.size_append, List.size_toArray, zero_bytes, B_length, List.length_replicate, hlen]
      omega
    · simp only [Array.toList_append]
      rw [← hlen]
      exact List.take_left

theorem wp_append_zeros {o : Oper} {a : Act} {K : Act → World → Prop} {Q : Exit → Act → World → Prop} (s x : Operand) (t tx : TypeId)
    (ho : o.op = .call { callee := .builtin .append, args := #[s, x], argTypes := #[t, tx] })
    (e : TypeId) (i : TypeInfo) (kq kn : IntKind) (ht : P.underlying t = some (.slice e)) (htn : P.underlying tx = some (.int kn)) (hi : P.info? e = some i) (hz : i.zero = some (.int .u8 0)) (hsize : i.size = 1) (hby : i.bytes = 1)
    (g cap n : Nat) (xs : List Value) (hs : a.eval s = .slice (some ⟨g, 0, none⟩) n cap) (hown : Owns w e g cap n xs)
    (k : Nat) (hx : a.eval x = .int kq (k : Int)) (hb : n + k ≤ 140737488355328)
    (h : ∀ g' cap' w', Grew e w g cap n xs w' g' cap' (n + k) (xs ++ B (List.replicate k 0)) → K (a.put o.dst (.slice (some ⟨g', 0, none⟩) (n + k) cap')) w') : o.wp P a w K Q := by
  obtain ⟨g', cap', w', hr, hG⟩ := run_append_zeros (P := P) w t tx o.type e i kq kn ht htn hi hz hsize hby g cap n xs hown k hb
  unfold Oper.wp execOp
  simp only [ho, resolve, invoke, builtin, Sem.run_bind, Sem.run_pure, Result.andThen_ok, List.map_toArray, List.map_cons, List.map_nil, hs, hx, hr]
  exact h g' cap' w' hG
end

theorem fit_long (key : List UInt8) (h : 64 < key.length) : fitS (shaS key) = fitS key := by
  rw [fitS, fitS, if_pos h, if_neg (by rw [shaS_len]; omega), shaS_len]
theorem fit_zeros (key : List UInt8) (k : Nat) (h : key.length + k ≤ 64) : fitS (key ++ List.replicate k 0) = fitS key := by
  rw [fitS, fitS, if_neg (by rw [List.length_append, List.length_replicate]; omega), if_neg (by omega), List.append_assoc, List.replicate_append_replicate, List.length_append, List.length_replicate]
  congr 2
  omega

set_option maxRecDepth 100000 in
set_option maxHeartbeats 8000000 in
theorem keys_any (key : List UInt8) (ao : Option Addr) (n cap : Nat) (hn : key.length = n) (num : Int) (text : List UInt8) (bo : Option Addr) (m bc : Nat) (hm : text.length = m) (w : World) (ht : Tabs w)
    (hr : Reads w (.slice ao n cap) (B key)) (hcap : cap ≤ maxLen) (htx : Reads w (.slice bo m bc) (B text)) (hbc : bc ≤ maxLen) :
    Calls Tryd.prog 4 #[.slice ao n cap, .int .i64 num, .slice bo m bc] w fun e w' => e = .returned (.bool true) ∧ Below w.heap.size w w' := by
  obtain ⟨i0, hi, hz0, hz1, hz2⟩ := info_parts Tryd.infoByte
  have HR := hid hr
  have HX := hid htx
  have HT := hid ht
  have HN := hid hn
  have HM := hid hm
  have HC := hid hcap
  have HBc := hid hbc
  have h2 := ht.two
  clear hr htx ht hn hm hcap hbc
  go_enter Tryd.func4, Tryd.ntmps4
  go_wp2_with fail
  refine (known3_any _ HT.out).mono ?_
  rintro _ w1 ⟨rfl, hb1'⟩
  have Hb1 := hid hb1'
  clear hb1'
  by_cases h1 : (200 : Int) < (n : Int)
  · go_wp2_with fail
    go_ret
    exact ⟨rfl, Hb1.out⟩
  by_cases h3 : (200 : Int) < (m : Int)
  · go_wp2_with fail
    go_ret
    exact ⟨rfl, Hb1.out⟩
  have hn1 : n ≤ 200 := by omega
  have hm1 : m ≤ 200 := by omega
  obtain ⟨ms, hms⟩ : ∃ ms, B (macS key text) = ms := ⟨_, rfl⟩
  have hml : ms.length = 32 := by rw [← hms, B_length, macS_len]
  have HMs := hid hms
  have HMl := hid hml
  have Ho := hid (show ∀ v ∈ ms, v.oneCell' = true by rw [← hms]; exact B_one _)
  have Hi := hid (show (Tryd.prog.info? 26).map (·.size) = some ms.length by rw [hml]; kernel_rfl)
  have HE := hid (show ∀ w : World, (Op.equalIn 10000 26 (.agg ms.toArray) (.agg ms.toArray)).run Tryd.prog w = .ok true w by rw [← hms]; exact eqM key text)
  clear hms hml
  go_wp2_with fail
  have HbA := hid (show Below w.heap.size w (w1.alloc (.cells #[.slice bo m bc] 22)) from below_seq Hb1.out (below_new _ _))
  refine (Mac_any key ao n cap HN.out _ 1 1 [text] rfl _ (HT.out.below HbA.out h2) (HR.out.later HbA.out) HC.out (by omega) (parts_new (HX.out.later Hb1.out) HM.out HBc.out) (by omega) (by rw [show [text].flatten = text by simp, HM.out]; omega)).mono ?_
  rintro _ w3 ⟨rfl, hb3⟩
  rw [show [text].flatten = text by simp, HMs.out]
  have Hb3 := hid (below_seq HbA.out hb3)
  clear hb3 HbA Hb1
  obtain ⟨L, hL⟩ : ∃ L, w3.heap.size = L := ⟨_, rfl⟩
  have hwL : w.heap.size ≤ L := by rw [← hL]; exact Hb3.out.size
  go_upto_if 26 with (first
    | (show wpList _ _ _ (⟨some 7, Op.alloc _, _, _, _, _⟩ :: _) _ _; go_must (refine wpList_alloc_blk rfl 26 rfl _ zeroHash L hL ?_); intro w4 hB4 hb4 hs4; replace hB4 := hid hB4; replace hb4 := hid hb4; have ht4 := hid (hB4.out.there (o := 0) (n := ms.length) (by rw [B_length, List.length_replicate, HMl.out]; omega)))
    | (show wpList _ _ _ (⟨none, Op.store _ _ _, _, _, _, _⟩ :: _) _ _; go_must (refine wpList_store_list rfl 26 _ _ rfl L 0 ms rfl rfl ht4.out Hi.out Ho.out ?_); intro w5 hw5; replace hw5 := hid hw5))
  have HB5 := hid (show Blk w5 26 L ms by rw [hw5.out]; exact Blk.over (by rw [B_length, List.length_replicate, HMl.out]) hB4.out)
  have Hb5 := hid (show Below w.heap.size w w5 by rw [hw5.out]; exact below_setCells hwL _ _ (Hb3.out.trans (hb4.out.mono hwL)))
  clear hw5 ht4 hB4 hb4 hs4 Hb3
  by_cases h64 : (64 : Int) < (n : Int)
  · obtain ⟨sk, hsk⟩ : ∃ sk, shaS key = sk := ⟨_, rfl⟩
    have HSk := hid (show sk.length = 32 by rw [← hsk, shaS_len])
    have HMk := hid (show B (macS sk text) = ms by
      rw [← HMs.out, ← hsk, macS, macS, fit_long key (by rw [HN.out]; omega)])
    obtain ⟨ss, hss⟩ : ∃ ss, B sk = ss := ⟨_, rfl⟩
    have hssl : ss.length = 32 := by rw [← hss, B_length, HSk.out]
    have Hsso := hid (show ∀ v ∈ ss, v.oneCell' = true by rw [← hss]; exact B_one _)
    have Hssi := hid (show (Tryd.prog.info? 26).map (·.size) = some ss.length by rw [hssl]; kernel_rfl)
    have Hssl := hid hssl
    have HSS := hid hss
    have HSK := hid hsk
    clear hsk hss hssl
    go_wp2_with fail
    refine (refSum_any key ao n cap HN.out w5 (HR.out.later Hb5.out) (by omega)).mono ?_
    rintro _ w6 ⟨rfl, hb6⟩
    rw [HSK.out, HSS.out]
    have Hb6 := hid (below_seq Hb5.out hb6)
    have HB6 := hid (HB5.out.later hb6)
    clear hb6 Hb5 HB5
    obtain ⟨L6, hL6⟩ : ∃ L6, w6.heap.size = L6 := ⟨_, rfl⟩
    have hwL6 : w.heap.size ≤ L6 := by rw [← hL6]; exact Hb6.out.size
    have hLL6 : L < L6 := by rw [← hL6]; exact HB6.out.lt
    go_wp2_with (first
      | (show wpList _ _ _ (⟨some 8, Op.alloc _, _, _, _, _⟩ :: _) _ _; go_must (refine wpList_alloc_blk rfl 26 rfl _ zeroHash L6 hL6 ?_); intro w6' hB6 hb6 hs6; replace hB6 := hid hB6; replace hb6 := hid hb6; have ht6 := hid (hB6.out.there (o := 0) (n := ss.length) (by rw [B_length, List.length_replicate, Hssl.out]; omega)))
      | (show wpList _ _ _ (⟨none, Op.store _ _ _, _, _, _, _⟩ :: _) _ _; go_must (refine wpList_store_list rfl 26 _ _ rfl L6 0 ss rfl rfl ht6.out Hssi.out Hsso.out ?_); intro w7 hw7; replace hw7 := hid hw7))
    have HB7 := hid (show Blk w7.drew 26 L ms from (show Blk w7 26 L ms by rw [hw7.out]; exact (HB6.out.kept (hb6.out.block L (by omega))).kept (setCells_heap (by omega) _ _ _)))
    have Hb7 := hid (show Below w.heap.size w w7.drew from (show Below w.heap.size w w7 by rw [hw7.out]; exact below_setCells hwL6 _ _ (Hb6.out.trans (hb6.out.mono hwL6))).drew)
    have HR7 := hid (show Reads w7.drew (.slice (some ⟨L6, 0, none⟩) 32 32) (B sk) by
      have hB7 : Blk w7.drew 26 L6 ss := (show Blk w7 26 L6 ss by rw [hw7.out]; exact Blk.over (by rw [B_length, List.length_replicate, Hssl.out]) hB6.out)
      rw [← HSS.out] at hB7
      exact hB7.whole HSk.out)
    clear hw7 ht6 hB6 hb6 hs6 Hb6 HB6
    refine wp_region_held_drew (S := fun w' => Blk w' 26 L ms) (by kernel_rfl) (HB7.out) (fun hHeld => ?_)
    refine wpAnyH_take (i := 0) (v := _) rfl (by kernel_rfl) (by kernel_rfl) (by kernel_rfl) (fun _ _ _ h => h) (yieldsIf_load_mid (by rfl) _ _ rfl _ _ rfl ms _ (fun w hSw => hSw.range fun j v hv => by rw [Nat.zero_add]; exact hv) Tryd.underlying26 rfl Hi.out) hHeld ?_
    try simp only [Act.put, List.setIfInBounds_toArray, List.set_cons_zero, List.set_cons_succ, List.getElem_toArray, List.getElem_cons_zero, List.getElem_cons_succ]
    refine wpAnyH_take (i := 1) (v := .slice (some ⟨L6, 0, none⟩) 32 32) rfl (by kernel_rfl) (by kernel_rfl) (by kernel_rfl) (fun _ _ _ h => h) (Or.inl ⟨by rfl, by intro w hSw; go_simp⟩) hHeld ?_
    try simp only [Act.put, List.setIfInBounds_toArray, List.set_cons_zero, List.set_cons_succ, List.getElem_toArray, List.getElem_cons_zero, List.getElem_cons_succ]
    refine wpAnyH_take (i := 2) (v := .slice bo m bc) rfl (by kernel_rfl) (by kernel_rfl) (by kernel_rfl) (fun _ _ _ h => h) (Or.inl ⟨by rfl, by intro w hSw; go_simp⟩) hHeld ?_
    try simp only [Act.put, List.setIfInBounds_toArray, List.set_cons_zero, List.set_cons_succ, List.getElem_toArray, List.getElem_cons_zero, List.getElem_cons_succ]
    refine wpAnyH_ready (rs := [3]) (by kernel_rfl) (by simp) ?_
    refine AllReadyH.cons rfl (fun K hK => ?_) AllReadyH.nil
    go_simp
    refine hK.out _ _ (HB7.out.alloc _) (fun hHeld => ?_)
    clear hK K
    try simp only [Act.put, List.setIfInBounds_toArray, List.set_cons_zero, List.set_cons_succ, List.getElem_toArray, List.getElem_cons_zero, List.getElem_cons_succ]
    have HbA := hid (show Below w.heap.size w (w7.drew.alloc (.cells #[.slice bo m bc] 22)) from below_seq Hb7.out (below_new _ _))
    have HRA := hid (show Reads (w7.drew.alloc (.cells #[.slice bo m bc] 22)) (.slice (some ⟨L6, 0, none⟩) 32 32) (B sk) from HR7.out.later (below_new _ _))
    have HBA := hid hHeld
    refine wpAnyH_ready (rs := [4]) (by kernel_rfl) (by simp) ?_
    refine AllReadyH.cons rfl (fun K hK => ?_) AllReadyH.nil
    go_simp
    refine (Mac_any sk _ 32 32 HSk.out _ 1 1 [text] rfl _ (HT.out.below HbA.out h2) HRA.out (by unfold maxLen; omega) (by omega) (parts_new (w := w7.drew) (HX.out.later Hb7.out) HM.out HBc.out) (by omega) (by rw [show [text].flatten = text by simp, HM.out]; omega)).mono ?_
    rintro _ w8 ⟨rfl, hb8⟩
    rw [show [text].flatten = text by simp, HMk.out]
    refine hK.out _ _ (HBA.out.later hb8) (fun hHeld => ?_)
    clear hK K
    try simp only [Act.put, List.setIfInBounds_toArray, List.set_cons_zero, List.set_cons_succ, List.getElem_toArray, List.getElem_cons_zero, List.getElem_cons_succ]
    have Hb8 := hid (below_seq HbA.out hb8)
    clear hb8
    refine wpAnyH_take (i := 5) (v := .bool true) rfl (by kernel_rfl) (by kernel_rfl) (by kernel_rfl) (fun _ _ _ h => h) (Or.inl ⟨by rfl, by intro w hSw; have q := HE.out w; go_simp⟩) hHeld ?_
    try simp only [Act.put, List.setIfInBounds_toArray, List.set_cons_zero, List.set_cons_succ, List.getElem_toArray, List.getElem_cons_zero, List.getElem_cons_succ]
    refine wpAnyH_take (i := 6) (v := .bool true) rfl (by kernel_rfl) (by kernel_rfl) (by kernel_rfl) (fun _ _ _ h => h) (Or.inl ⟨by rfl, by intro w hSw; go_simp⟩) hHeld ?_
    try simp only [Act.put, List.setIfInBounds_toArray, List.set_cons_zero, List.set_cons_succ, List.getElem_toArray, List.getElem_cons_zero, List.getElem_cons_succ]
    refine wpAnyH_done (by kernel_rfl) ?_ _
    go_wp2_with fail
    go_ret
    exact ⟨rfl, Hb8.out⟩
  · have hn64 : n ≤ 64 := by omega
    have t1 := Int.lt_tmod_of_pos num (show (0 : Int) < 65 by omega)
    have t2 := Int.tmod_lt_of_pos num (show (0 : Int) < 65 by omega)
    obtain ⟨x, hx⟩ : ∃ x : Int, (if num.tmod 65 < 0 then 0 else num.tmod 65) = x := ⟨_, rfl⟩
    have hx0 : 0 ≤ x := by rw [← hx]; split <;> omega
    obtain ⟨k, hk⟩ : ∃ k : Nat, (if 64 - (n : Int) < x then 64 - (n : Int) else x) = (k : Int) := Int.eq_ofNat_of_zero_le (by split <;> omega)
    have hkn : n + k ≤ 64 := by
      have : (k : Int) ≤ 64 - (n : Int) := by rw [← hk]; split <;> omega
      omega
    go_upto_region 10 with fail
    obtain ⟨kz, hkz⟩ : ∃ kz, key ++ List.replicate k 0 = kz := ⟨_, rfl⟩
    have HKe := hid hkz
    have HKz := hid (show kz.length = n + k by rw [← hkz, List.length_append, HN.out, List.length_replicate])
    have HMz := hid (show B (macS kz text) = ms by
      rw [← HMs.out, ← hkz, macS, macS, fit_zeros key k (by rw [HN.out]; exact hkn)])
    have HB4 := hid (show Blk w5.drew 26 L ms from HB5.out)
    have Hb4 := hid (show Below w.heap.size w w5.drew from Hb5.out.drew)
    clear hkz hx hk hx0 t1 t2 HB5 Hb5
    refine wp_region_held_drew (S := fun w' => Blk w' 26 L ms) (by kernel_rfl) (HB4.out) (fun hHeld => ?_)
    refine wpAnyH_take (i := 0) (v := _) rfl (by kernel_rfl) (by kernel_rfl) (by kernel_rfl) (fun _ _ _ h => h) (yieldsIf_load_mid (by rfl) _ _ rfl _ _ rfl ms _ (fun w hSw => hSw.range fun j v hv => by rw [Nat.zero_add]; exact hv) Tryd.underlying26 rfl Hi.out) hHeld ?_
    try simp only [Act.put, List.setIfInBounds_toArray, List.set_cons_zero, List.set_cons_succ, List.getElem_toArray, List.getElem_cons_zero, List.getElem_cons_succ]
    refine wpAnyH_take (i := 2) (v := .slice ao n cap) rfl (by kernel_rfl) (by kernel_rfl) (by kernel_rfl) (fun _ _ _ h => h) (Or.inl ⟨by rfl, by intro w hSw; go_simp⟩) hHeld ?_
    try simp only [Act.put, List.setIfInBounds_toArray, List.set_cons_zero, List.set_cons_succ, List.getElem_toArray, List.getElem_cons_zero, List.getElem_cons_succ]
    refine wpAnyH_take (i := 4) (v := .int .i64 (k : Int)) rfl (by kernel_rfl) (by kernel_rfl) (by kernel_rfl) (fun _ _ _ h => h) (Or.inl ⟨by rfl, by intro w hSw; go_simp⟩) hHeld ?_
    try simp only [Act.put, List.setIfInBounds_toArray, List.set_cons_zero, List.set_cons_succ, List.getElem_toArray, List.getElem_cons_zero, List.getElem_cons_succ]
    refine wpAnyH_take (i := 6) (v := .slice bo m bc) rfl (by kernel_rfl) (by kernel_rfl) (by kernel_rfl) (fun _ _ _ h => h) (Or.inl ⟨by rfl, by intro w hSw; go_simp⟩) hHeld ?_
    try simp only [Act.put, List.setIfInBounds_toArray, List.set_cons_zero, List.set_cons_succ, List.getElem_toArray, List.getElem_cons_zero, List.getElem_cons_succ]
    have Hb := Hb4
    have HB := HB4
    clear Hb4 HB4 hHeld
    have hHeld := HB.out
    generalize w5.drew = v0 at *
    refine wpAnyH_ready (rs := [1, 7]) (by kernel_rfl) (by simp) ?_
    refine AllReadyH.cons rfl (fun K hK => ?_) (AllReadyH.cons rfl (fun K hK => ?_) AllReadyH.nil)
    · go_simp
      have Hb' := hid (below_seq Hb.out (below_new v0 (.cells #[] 5)))
      have HB' := hid (HB.out.alloc (.cells #[] 5))
      have hLn := HB.out.lt
      have hwn := Hb.out.size
      have HO' := hid (Owns.empty v0 5)
      clear Hb HB
      generalize v0.alloc (.cells #[] 5) = v1 at *
      generalize v0.heap.size = g1 at *
      have hLg : L ≠ g1 := by omega
      have hwg : w.heap.size ≤ g1 := hwn
      clear hLn hwn
      have Hb := Hb'
      have HB := HB'
      clear Hb' HB'
      have HO := HO'
      clear HO'
      refine hK.out _ _ HB.out (fun hHeld => ?_)
      clear hK K
      try simp only [Act.put, List.setIfInBounds_toArray, List.set_cons_zero, List.set_cons_succ, List.getElem_toArray, List.getElem_cons_zero, List.getElem_cons_succ]
      refine wpAnyH_ready (rs := [3, 7]) (by kernel_rfl) (by simp) ?_
      refine AllReadyH.cons rfl (fun K hK => ?_) (AllReadyH.cons rfl (fun K hK => ?_) AllReadyH.nil)
      · refine Eq.mpr (if_pos (by rfl)) ?_
        refine wp_append_src _ _ _ 22 22 rfl 5 i0 (.int .u8 0) Tryd.underlying22 hi hz0 hz1 hz2 rfl g1 0 0 _ rfl HO.out _ n _ rfl (Src.ofBytes _ Tryd.underlying22 HN.out (HR.out.later Hb.out)) (by omega) ?_
        intro g3 cap3 v2 hG
        rw [Nat.zero_add] at hG ⊢
        have Hb' := hid (show Below w.heap.size w v2 from hG.below Hb.out hwg)
        have HB' := hid (show Blk v2 26 L ms from HB.out.kept (hG.grown.block L HB.out.lt (by intro e; injection e; omega)))
        have HO' := hid (show Owns v2 5 g3 cap3 n (B key) by have h := hG.own; rw [List.nil_append] at h; exact h)
        have hbk : g3 = g1 ∨ v1.heap.size ≤ g3 := by rcases hG.blk with ⟨h, _⟩ | h; exact .inl h; exact .inr h
        have hL' : L ≠ g3 := by have := HB.out.lt; omega
        have hw' : w.heap.size ≤ g3 := by have := Hb.out.size; omega
        clear HO Hb HB hG hLg hwg hbk
        have hLg := hL'
        have hwg := hw'
        clear hL' hw'
        have Hb := Hb'
        have HB := HB'
        clear Hb' HB'
        have HO := HO'
        clear HO'
        refine hK.out _ _ HB.out (fun hHeld => ?_)
        clear hK K
        try simp only [Act.put, List.setIfInBounds_toArray, List.set_cons_zero, List.set_cons_succ, List.getElem_toArray, List.getElem_cons_zero, List.getElem_cons_succ]
        refine wpAnyH_ready (rs := [5, 7]) (by kernel_rfl) (by simp) ?_
        refine AllReadyH.cons rfl (fun K hK => ?_) (AllReadyH.cons rfl (fun K hK => ?_) AllReadyH.nil)
        · refine Eq.mpr (if_pos (by rfl)) ?_
          refine wp_append_zeros _ _ _ 22 3 rfl 5 i0 .i64 .i64 Tryd.underlying22 Tryd.underlying3 hi hz0 hz1 hz2 g3 cap3 n _ rfl HO.out k rfl (by omega) ?_
          intro g5 cap5 v3 hG
          have Hb' := hid (show Below w.heap.size w v3 from hG.below Hb.out hwg)
          have HB' := hid (show Blk v3 26 L ms from HB.out.kept (hG.grown.block L HB.out.lt (by intro e; injection e; omega)))
          have HO' := hid (show Owns v3 5 g5 cap5 (n + k) (B kz) by have h := hG.own; rw [← B_append, HKe.out] at h; exact h)
          have hbk : g5 = g3 ∨ v2.heap.size ≤ g5 := by rcases hG.blk with ⟨h, _⟩ | h; exact .inl h; exact .inr h
          have hL' : L ≠ g5 := by have := HB.out.lt; omega
          have hw' : w.heap.size ≤ g5 := by have := Hb.out.size; omega
          clear HO Hb HB hG hLg hwg hbk
          have hLg := hL'
          have hwg := hw'
          clear hL' hw'
          have Hb := Hb'
          have HB := HB'
          clear Hb' HB'
          have HO := HO'
          clear HO'
          refine hK.out _ _ HB.out (fun hHeld => ?_)
          clear hK K
          try simp only [Act.put, List.setIfInBounds_toArray, List.set_cons_zero, List.set_cons_succ, List.getElem_toArray, List.getElem_cons_zero, List.getElem_cons_succ]
          refine wpAnyH_ready (rs := [7]) (by kernel_rfl) (by simp) ?_
          refine AllReadyH.cons rfl (fun K hK => ?_) AllReadyH.nil
          go_simp
          have Hb' := hid (below_seq Hb.out (below_new v3 (.cells #[.slice bo m bc] 22)))
          have HB' := hid (HB.out.alloc (.cells #[.slice bo m bc] 22))
          have hLn := HB.out.lt
          have hwn := Hb.out.size
          have HO' := hid (HO.out.alloc (.cells #[.slice bo m bc] 22))
          have hgn := HO.out.lt
          have HP' := hid (Blk.new v3 22 [.slice bo m bc])
          clear Hb HB HO
          generalize v3.alloc (.cells #[.slice bo m bc] 22) = v4 at *
          generalize v3.heap.size = pb at *
          have hLp : L ≠ pb := by omega
          have hwp : w.heap.size ≤ pb := hwn
          have hpg : pb ≠ g5 := by omega
          clear hLn hwn hgn
          have Hb := Hb'
          have HB := HB'
          clear Hb' HB'
          have HO := HO'
          clear HO'
          have HP := HP'
          clear HP'
          refine hK.out _ _ HB.out (fun hHeld => ?_)
          clear hK K
          try simp only [Act.put, List.setIfInBounds_toArray, List.set_cons_zero, List.set_cons_succ, List.getElem_toArray, List.getElem_cons_zero, List.getElem_cons_succ]
          refine wpAnyH_ready (rs := [8]) (by kernel_rfl) (by simp) ?_
          refine AllReadyH.cons rfl (fun K hK => ?_) AllReadyH.nil
          go_simp
          refine (Mac_any kz _ (n + k) cap5 HKz.out _ 1 1 [text] rfl v4 (HT.out.below Hb.out h2) HO.out.reads HO.out.2.2.1 (by omega) (Parts.one HP.out (HX.out.later Hb.out) HM.out HBc.out) (by omega) (by rw [show [text].flatten = text by simp, HM.out]; omega)).mono ?_
          rintro _ w9 ⟨rfl, hb9⟩
          rw [show [text].flatten = text by simp, HMz.out]
          refine hK.out _ _ (HB.out.later hb9) (fun hHeld => ?_)
          clear hK K
          try simp only [Act.put, List.setIfInBounds_toArray, List.set_cons_zero, List.set_cons_succ, List.getElem_toArray, List.getElem_cons_zero, List.getElem_cons_succ]
          have Hb9 := hid (below_seq Hb.out hb9)
          clear hb9
          refine wpAnyH_take (i := 9) (v := .bool true) rfl (by kernel_rfl) (by kernel_rfl) (by kernel_rfl) (fun _ _ _ h => h) (Or.inl ⟨by rfl, by intro w hSw; have q := HE.out w; go_simp⟩) hHeld ?_
          try simp only [Act.put, List.setIfInBounds_toArray, List.set_cons_zero, List.set_cons_succ, List.getElem_toArray, List.getElem_cons_zero, List.getElem_cons_succ]
          refine wpAnyH_take (i := 10) (v := .bool true) rfl (by kernel_rfl) (by kernel_rfl) (by kernel_rfl) (fun _ _ _ h => h) (Or.inl ⟨by rfl, by intro w hSw; go_simp⟩) hHeld ?_
          try simp only [Act.put, List.setIfInBounds_toArray, List.set_cons_zero, List.set_cons_succ, List.getElem_toArray, List.getElem_cons_zero, List.getElem_cons_succ]
          refine wpAnyH_done (by kernel_rfl) ?_ _
          go_wp2_with fail
          go_ret
          exact ⟨rfl, Hb9.out⟩
        · go_simp
          have Hb' := hid (below_seq Hb.out (below_new v2 (.cells #[.slice bo m bc] 22)))
          have HB' := hid (HB.out.alloc (.cells #[.slice bo m bc] 22))
          have hLn := HB.out.lt
          have hwn := Hb.out.size
          have HO' := hid (HO.out.alloc (.cells #[.slice bo m bc] 22))
          have hgn := HO.out.lt
          have HP' := hid (Blk.new v2 22 [.slice bo m bc])
          clear Hb HB HO
          generalize v2.alloc (.cells #[.slice bo m bc] 22) = v3 at *
          generalize v2.heap.size = pb at *
          have hLp : L ≠ pb := by omega
          have hwp : w.heap.size ≤ pb := hwn
          have hpg : pb ≠ g3 := by omega
          clear hLn hwn hgn
          have Hb := Hb'
          have HB := HB'
          clear Hb' HB'
          have HO := HO'
          clear HO'
          have HP := HP'
          clear HP'
          refine hK.out _ _ HB.out (fun hHeld => ?_)
          clear hK K
          try simp only [Act.put, List.setIfInBounds_toArray, List.set_cons_zero, List.set_cons_succ, List.getElem_toArray, List.getElem_cons_zero, List.getElem_cons_succ]
          refine wpAnyH_ready (rs := [5]) (by kernel_rfl) (by simp) ?_
          refine AllReadyH.cons rfl (fun K hK => ?_) AllReadyH.nil
          refine Eq.mpr (if_pos (by rfl)) ?_
          refine wp_append_zeros _ _ _ 22 3 rfl 5 i0 .i64 .i64 Tryd.underlying22 Tryd.underlying3 hi hz0 hz1 hz2 g3 cap3 n _ rfl HO.out k rfl (by omega) ?_
          intro g5 cap5 v4 hG
          have Hb' := hid (show Below w.heap.size w v4 from hG.below Hb.out hwg)
          have HB' := hid (show Blk v4 26 L ms from HB.out.kept (hG.grown.block L HB.out.lt (by intro e; injection e; omega)))
          have HO' := hid (show Owns v4 5 g5 cap5 (n + k) (B kz) by have h := hG.own; rw [← B_append, HKe.out] at h; exact h)
          have HP' := hid (HP.out.kept (hG.grown.block pb HP.out.lt (by intro e; injection e; omega)))
          have hbk : g5 = g3 ∨ v3.heap.size ≤ g5 := by rcases hG.blk with ⟨h, _⟩ | h; exact .inl h; exact .inr h
          have hL' : L ≠ g5 := by have := HB.out.lt; omega
          have hw' : w.heap.size ≤ g5 := by have := Hb.out.size; omega
          have hp' : pb ≠ g5 := by have := HP.out.lt; omega
          clear HO Hb HB hG hLg hwg hbk HP hpg
          have hLg := hL'
          have hwg := hw'
          clear hL' hw'
          have hpg := hp'
          clear hp'
          have Hb := Hb'
          have HB := HB'
          clear Hb' HB'
          have HO := HO'
          clear HO'
          have HP := HP'
          clear HP'
          refine hK.out _ _ HB.out (fun hHeld => ?_)
          clear hK K
          try simp only [Act.put, List.setIfInBounds_toArray, List.set_cons_zero, List.set_cons_succ, List.getElem_toArray, List.getElem_cons_zero, List.getElem_cons_succ]
          refine wpAnyH_ready (rs := [8]) (by kernel_rfl) (by simp) ?_
          refine AllReadyH.cons rfl (fun K hK => ?_) AllReadyH.nil
          go_simp
          refine (Mac_any kz _ (n + k) cap5 HKz.out _ 1 1 [text] rfl v4 (HT.out.below Hb.out h2) HO.out.reads HO.out.2.2.1 (by omega) (Parts.one HP.out (HX.out.later Hb.out) HM.out HBc.out) (by omega) (by rw [show [text].flatten = text by simp, HM.out]; omega)).mono ?_
          rintro _ w9 ⟨rfl, hb9⟩
          rw [show [text].flatten = text by simp, HMz.out]
          refine hK.out _ _ (HB.out.later hb9) (fun hHeld => ?_)
          clear hK K
          try simp only [Act.put, List.setIfInBounds_toArray, List.set_cons_zero, List.set_cons_succ, List.getElem_toArray, List.getElem_cons_zero, List.getElem_cons_succ]
          have Hb9 := hid (below_seq Hb.out hb9)
          clear hb9
          refine wpAnyH_take (i := 9) (v := .bool true) rfl (by kernel_rfl) (by kernel_rfl) (by kernel_rfl) (fun _ _ _ h => h) (Or.inl ⟨by rfl, by intro w hSw; have q := HE.out w; go_simp⟩) hHeld ?_
          try simp only [Act.put, List.setIfInBounds_toArray, List.set_cons_zero, List.set_cons_succ, List.getElem_toArray, List.getElem_cons_zero, List.getElem_cons_succ]
          refine wpAnyH_take (i := 10) (v := .bool true) rfl (by kernel_rfl) (by kernel_rfl) (by kernel_rfl) (fun _ _ _ h => h) (Or.inl ⟨by rfl, by intro w hSw; go_simp⟩) hHeld ?_
          try simp only [Act.put, List.setIfInBounds_toArray, List.set_cons_zero, List.set_cons_succ, List.getElem_toArray, List.getElem_cons_zero, List.getElem_cons_succ]
          refine wpAnyH_done (by kernel_rfl) ?_ _
          go_wp2_with fail
          go_ret
          exact ⟨rfl, Hb9.out⟩
      · go_simp
        have Hb' := hid (below_seq Hb.out (below_new v1 (.cells #[.slice bo m bc] 22)))
        have HB' := hid (HB.out.alloc (.cells #[.slice bo m bc] 22))
        have hLn := HB.out.lt
        have hwn := Hb.out.size
        have HO' := hid (HO.out.alloc (.cells #[.slice bo m bc] 22))
        have hgn := HO.out.lt
        have HP' := hid (Blk.new v1 22 [.slice bo m bc])
        clear Hb HB HO
        generalize v1.alloc (.cells #[.slice bo m bc] 22) = v2 at *
        generalize v1.heap.size = pb at *
        have hLp : L ≠ pb := by omega
        have hwp : w.heap.size ≤ pb := hwn
        have hpg : pb ≠ g1 := by omega
        clear hLn hwn hgn
        have Hb := Hb'
        have HB := HB'
        clear Hb' HB'
        have HO := HO'
        clear HO'
        have HP := HP'
        clear HP'
        refine hK.out _ _ HB.out (fun hHeld => ?_)
        clear hK K
        try simp only [Act.put, List.setIfInBounds_toArray, List.set_cons_zero, List.set_cons_succ, List.getElem_toArray, List.getElem_cons_zero, List.getElem_cons_succ]
        refine wpAnyH_ready (rs := [3]) (by kernel_rfl) (by simp) ?_
        refine AllReadyH.cons rfl (fun K hK => ?_) AllReadyH.nil
        refine Eq.mpr (if_pos (by rfl)) ?_
        refine wp_append_src _ _ _ 22 22 rfl 5 i0 (.int .u8 0) Tryd.underlying22 hi hz0 hz1 hz2 rfl g1 0 0 _ rfl HO.out _ n _ rfl (Src.ofBytes _ Tryd.underlying22 HN.out (HR.out.later Hb.out)) (by omega) ?_
        intro g3 cap3 v3 hG
        rw [Nat.zero_add] at hG ⊢
        have Hb' := hid (show Below w.heap.size w v3 from hG.below Hb.out hwg)
        have HB' := hid (show Blk v3 26 L ms from HB.out.kept (hG.grown.block L HB.out.lt (by intro e; injection e; omega)))
        have HO' := hid (show Owns v3 5 g3 cap3 n (B key) by have h := hG.own; rw [List.nil_append] at h; exact h)
        have HP' := hid (HP.out.kept (hG.grown.block pb HP.out.lt (by intro e; injection e; omega)))
        have hbk : g3 = g1 ∨ v2.heap.size ≤ g3 := by rcases hG.blk with ⟨h, _⟩ | h; exact .inl h; exact .inr h
        have hL' : L ≠ g3 := by have := HB.out.lt; omega
        have hw' : w.heap.size ≤ g3 := by have := Hb.out.size; omega
        have hp' : pb ≠ g3 := by have := HP.out.lt; omega
        clear HO Hb HB hG hLg hwg hbk HP hpg
        have hLg := hL'
        have hwg := hw'
        clear hL' hw'
        have hpg := hp'
        clear hp'
        have Hb := Hb'
        have HB := HB'
        clear Hb' HB'
        have HO := HO'
        clear HO'
        have HP := HP'
        clear HP'
        refine hK.out _ _ HB.out (fun hHeld => ?_)
        clear hK K
        try simp only [Act.put, List.setIfInBounds_toArray, List.set_cons_zero, List.set_cons_succ, List.getElem_toArray, List.getElem_cons_zero, List.getElem_cons_succ]
        refine wpAnyH_ready (rs := [5]) (by kernel_rfl) (by simp) ?_
        refine AllReadyH.cons rfl (fun K hK => ?_) AllReadyH.nil
        refine Eq.mpr (if_pos (by rfl)) ?_
        refine wp_append_zeros _ _ _ 22 3 rfl 5 i0 .i64 .i64 Tryd.underlying22 Tryd.underlying3 hi hz0 hz1 hz2 g3 cap3 n _ rfl HO.out k rfl (by omega) ?_
        intro g5 cap5 v4 hG
        have Hb' := hid (show Below w.heap.size w v4 from hG.below Hb.out hwg)
        have HB' := hid (show Blk v4 26 L ms from HB.out.kept (hG.grown.block L HB.out.lt (by intro e; injection e; omega)))
        have HO' := hid (show Owns v4 5 g5 cap5 (n + k) (B kz) by have h := hG.own; rw [← B_append, HKe.out] at h; exact h)
        have HP' := hid (HP.out.kept (hG.grown.block pb HP.out.lt (by intro e; injection e; omega)))
        have hbk : g5 = g3 ∨ v3.heap.size ≤ g5 := by rcases hG.blk with ⟨h, _⟩ | h; exact .inl h; exact .inr h
        have hL' : L ≠ g5 := by have := HB.out.lt; omega
        have hw' : w.heap.size ≤ g5 := by have := Hb.out.size; omega
        have hp' : pb ≠ g5 := by have := HP.out.lt; omega
        clear HO Hb HB hG hLg hwg hbk HP hpg
        have hLg := hL'
        have hwg := hw'
        clear hL' hw'
        have hpg := hp'
        clear hp'
        have Hb := Hb'
        have HB := HB'
        clear Hb' HB'
        have HO := HO'
        clear HO'
        have HP := HP'
        clear HP'
        refine hK.out _ _ HB.out (fun hHeld => ?_)
        clear hK K
        try simp only [Act.put, List.setIfInBounds_toArray, List.set_cons_zero, List.set_cons_succ, List.getElem_toArray, List.getElem_cons_zero, List.getElem_cons_succ]
        refine wpAnyH_ready (rs := [8]) (by kernel_rfl) (by simp) ?_
        refine AllReadyH.cons rfl (fun K hK => ?_) AllReadyH.nil
        go_simp
        refine (Mac_any kz _ (n + k) cap5 HKz.out _ 1 1 [text] rfl v4 (HT.out.below Hb.out h2) HO.out.reads HO.out.2.2.1 (by omega) (Parts.one HP.out (HX.out.later Hb.out) HM.out HBc.out) (by omega) (by rw [show [text].flatten = text by simp, HM.out]; omega)).mono ?_
        rintro _ w9 ⟨rfl, hb9⟩
        rw [show [text].flatten = text by simp, HMz.out]
        refine hK.out _ _ (HB.out.later hb9) (fun hHeld => ?_)
        clear hK K
        try simp only [Act.put, List.setIfInBounds_toArray, List.set_cons_zero, List.set_cons_succ, List.getElem_toArray, List.getElem_cons_zero, List.getElem_cons_succ]
        have Hb9 := hid (below_seq Hb.out hb9)
        clear hb9
        refine wpAnyH_take (i := 9) (v := .bool true) rfl (by kernel_rfl) (by kernel_rfl) (by kernel_rfl) (fun _ _ _ h => h) (Or.inl ⟨by rfl, by intro w hSw; have q := HE.out w; go_simp⟩) hHeld ?_
        try simp only [Act.put, List.setIfInBounds_toArray, List.set_cons_zero, List.set_cons_succ, List.getElem_toArray, List.getElem_cons_zero, List.getElem_cons_succ]
        refine wpAnyH_take (i := 10) (v := .bool true) rfl (by kernel_rfl) (by kernel_rfl) (by kernel_rfl) (fun _ _ _ h => h) (Or.inl ⟨by rfl, by intro w hSw; go_simp⟩) hHeld ?_
        try simp only [Act.put, List.setIfInBounds_toArray, List.set_cons_zero, List.set_cons_succ, List.getElem_toArray, List.getElem_cons_zero, List.getElem_cons_succ]
        refine wpAnyH_done (by kernel_rfl) ?_ _
        go_wp2_with fail
        go_ret
        exact ⟨rfl, Hb9.out⟩
    · go_simp
      have Hb' := hid (below_seq Hb.out (below_new v0 (.cells #[.slice bo m bc] 22)))
      have HB' := hid (HB.out.alloc (.cells #[.slice bo m bc] 22))
      have hLn := HB.out.lt
      have hwn := Hb.out.size
      have HP' := hid (Blk.new v0 22 [.slice bo m bc])
      clear Hb HB
      generalize v0.alloc (.cells #[.slice bo m bc] 22) = v1 at *
      generalize v0.heap.size = pb at *
      have hLp : L ≠ pb := by omega
      have hwp : w.heap.size ≤ pb := hwn
      clear hLn hwn
      have Hb := Hb'
      have HB := HB'
      clear Hb' HB'
      have HP := HP'
      clear HP'
      refine hK.out _ _ HB.out (fun hHeld => ?_)
      clear hK K
      try simp only [Act.put, List.setIfInBounds_toArray, List.set_cons_zero, List.set_cons_succ, List.getElem_toArray, List.getElem_cons_zero, List.getElem_cons_succ]
      refine wpAnyH_ready (rs := [1]) (by kernel_rfl) (by simp) ?_
      refine AllReadyH.cons rfl (fun K hK => ?_) AllReadyH.nil
      go_simp
      have Hb' := hid (below_seq Hb.out (below_new v1 (.cells #[] 5)))
      have HB' := hid (HB.out.alloc (.cells #[] 5))
      have hLn := HB.out.lt
      have hwn := Hb.out.size
      have HP' := hid (HP.out.alloc (.cells #[] 5))
      have hpn := HP.out.lt
      have HO' := hid (Owns.empty v1 5)
      clear Hb HB HP
      generalize v1.alloc (.cells #[] 5) = v2 at *
      generalize v1.heap.size = g1 at *
      have hLg : L ≠ g1 := by omega
      have hwg : w.heap.size ≤ g1 := hwn
      have hpg : pb ≠ g1 := by omega
      clear hLn hwn hpn
      have Hb := Hb'
      have HB := HB'
      clear Hb' HB'
      have HO := HO'
      clear HO'
      have HP := HP'
      clear HP'
      refine hK.out _ _ HB.out (fun hHeld => ?_)
      clear hK K
      try simp only [Act.put, List.setIfInBounds_toArray, List.set_cons_zero, List.set_cons_succ, List.getElem_toArray, List.getElem_cons_zero, List.getElem_cons_succ]
      refine wpAnyH_ready (rs := [3]) (by kernel_rfl) (by simp) ?_
      refine AllReadyH.cons rfl (fun K hK => ?_) AllReadyH.nil
      refine Eq.mpr (if_pos (by rfl)) ?_
      refine wp_append_src _ _ _ 22 22 rfl 5 i0 (.int .u8 0) Tryd.underlying22 hi hz0 hz1 hz2 rfl g1 0 0 _ rfl HO.out _ n _ rfl (Src.ofBytes _ Tryd.underlying22 HN.out (HR.out.later Hb.out)) (by omega) ?_
      intro g3 cap3 v3 hG
      rw [Nat.zero_add] at hG ⊢
      have Hb' := hid (show Below w.heap.size w v3 from hG.below Hb.out hwg)
      have HB' := hid (show Blk v3 26 L ms from HB.out.kept (hG.grown.block L HB.out.lt (by intro e; injection e; omega)))
      have HO' := hid (show Owns v3 5 g3 cap3 n (B key) by have h := hG.own; rw [List.nil_append] at h; exact h)
      have HP' := hid (HP.out.kept (hG.grown.block pb HP.out.lt (by intro e; injection e; omega)))
      have hbk : g3 = g1 ∨ v2.heap.size ≤ g3 := by rcases hG.blk with ⟨h, _⟩ | h; exact .inl h; exact .inr h
      have hL' : L ≠ g3 := by have := HB.out.lt; omega
      have hw' : w.heap.size ≤ g3 := by have := Hb.out.size; omega
      have hp' : pb ≠ g3 := by have := HP.out.lt; omega
      clear HO Hb HB hG hLg hwg hbk HP hpg
      have hLg := hL'
      have hwg := hw'
      clear hL' hw'
      have hpg := hp'
      clear hp'
      have Hb := Hb'
      have HB := HB'
      clear Hb' HB'
      have HO := HO'
      clear HO'
      have HP := HP'
      clear HP'
      refine hK.out _ _ HB.out (fun hHeld => ?_)
      clear hK K
      try simp only [Act.put, List.setIfInBounds_toArray, List.set_cons_zero, List.set_cons_succ, List.getElem_toArray, List.getElem_cons_zero, List.getElem_cons_succ]
      refine wpAnyH_ready (rs := [5]) (by kernel_rfl) (by simp) ?_
      refine AllReadyH.cons rfl (fun K hK => ?_) AllReadyH.nil
      refine Eq.mpr (if_pos (by rfl)) ?_
      refine wp_append_zeros _ _ _ 22 3 rfl 5 i0 .i64 .i64 Tryd.underlying22 Tryd.underlying3 hi hz0 hz1 hz2 g3 cap3 n _ rfl HO.out k rfl (by omega) ?_
      intro g5 cap5 v4 hG
      have Hb' := hid (show Below w.heap.size w v4 from hG.below Hb.out hwg)
      have HB' := hid (show Blk v4 26 L ms from HB.out.kept (hG.grown.block L HB.out.lt (by intro e; injection e; omega)))
      have HO' := hid (show Owns v4 5 g5 cap5 (n + k) (B kz) by have h := hG.own; rw [← B_append, HKe.out] at h; exact h)
      have HP' := hid (HP.out.kept (hG.grown.block pb HP.out.lt (by intro e; injection e; omega)))
      have hbk : g5 = g3 ∨ v3.heap.size ≤ g5 := by rcases hG.blk with ⟨h, _⟩ | h; exact .inl h; exact .inr h
      have hL' : L ≠ g5 := by have := HB.out.lt; omega
      have hw' : w.heap.size ≤ g5 := by have := Hb.out.size; omega
      have hp' : pb ≠ g5 := by have := HP.out.lt; omega
      clear HO Hb HB hG hLg hwg hbk HP hpg
      have hLg := hL'
      have hwg := hw'
      clear hL' hw'
      have hpg := hp'
      clear hp'
      have Hb := Hb'
      have HB := HB'
      clear Hb' HB'
      have HO := HO'
      clear HO'
      have HP := HP'
      clear HP'
      refine hK.out _ _ HB.out (fun hHeld => ?_)
      clear hK K
      try simp only [Act.put, List.setIfInBounds_toArray, List.set_cons_zero, List.set_cons_succ, List.getElem_toArray, List.getElem_cons_zero, List.getElem_cons_succ]
      refine wpAnyH_ready (rs := [8]) (by kernel_rfl) (by simp) ?_
      refine AllReadyH.cons rfl (fun K hK => ?_) AllReadyH.nil
      go_simp
      refine (Mac_any kz _ (n + k) cap5 HKz.out _ 1 1 [text] rfl v4 (HT.out.below Hb.out h2) HO.out.reads HO.out.2.2.1 (by omega) (Parts.one HP.out (HX.out.later Hb.out) HM.out HBc.out) (by omega) (by rw [show [text].flatten = text by simp, HM.out]; omega)).mono ?_
      rintro _ w9 ⟨rfl, hb9⟩
      rw [show [text].flatten = text by simp, HMz.out]
      refine hK.out _ _ (HB.out.later hb9) (fun hHeld => ?_)
      clear hK K
      try simp only [Act.put, List.setIfInBounds_toArray, List.set_cons_zero, List.set_cons_succ, List.getElem_toArray, List.getElem_cons_zero, List.getElem_cons_succ]
      have Hb9 := hid (below_seq Hb.out hb9)
      clear hb9
      refine wpAnyH_take (i := 9) (v := .bool true) rfl (by kernel_rfl) (by kernel_rfl) (by kernel_rfl) (fun _ _ _ h => h) (Or.inl ⟨by rfl, by intro w hSw; have q := HE.out w; go_simp⟩) hHeld ?_
      try simp only [Act.put, List.setIfInBounds_toArray, List.set_cons_zero, List.set_cons_succ, List.getElem_toArray, List.getElem_cons_zero, List.getElem_cons_succ]
      refine wpAnyH_take (i := 10) (v := .bool true) rfl (by kernel_rfl) (by kernel_rfl) (by kernel_rfl) (fun _ _ _ h => h) (Or.inl ⟨by rfl, by intro w hSw; go_simp⟩) hHeld ?_
      try simp only [Act.put, List.setIfInBounds_toArray, List.set_cons_zero, List.set_cons_succ, List.getElem_toArray, List.getElem_cons_zero, List.getElem_cons_succ]
      refine wpAnyH_done (by kernel_rfl) ?_ _
      go_wp2_with fail
      go_ret
      exact ⟨rfl, Hb9.out⟩

theorem keys_row (a0 : Option Addr) (len0 cap0 : Nat) (z0 : List Int) (w0 : World) (h0 : IsRow .u8 w0 a0 len0 cap0 z0) (a1 : Int) (w1 : (Lit.int .i64 a1).wf = true) (a2 : Option Addr) (len2 cap2 : Nat) (z2 : List Int) (h2 : IsRow .u8 w0 a2 len2 cap2 z2) (ht : Tabs w0) :
    Calls Tryd.prog 4 #[.slice a0 len0 cap0, .int .i64 a1, .slice a2 len2 cap2] w0 fun e w' => e = .returned (.bool true) ∧ Below w0.heap.size w0 w' := by
  obtain ⟨l, hl, _, hr⟩ := bytes_of_row h0
  rw [hl] at hr
  obtain ⟨l1, hl1, _, hr1⟩ := bytes_of_row h2
  rw [hl1] at hr1
  exact keys_any l a0 len0 cap0 hl a1 l1 a2 len2 cap2 hl1 w0 ht hr h0.cap hr1 h2.cap
end Go.Proofs.YtnflkibkionjmaaDoor

/- Texts laid together: GSame, Tmod, Keys9. -/
import Derived.Test.YtinifnpajkldbaaDoorPk24
import Derived.WalkKit
import Derived.Test.YtinifnpajkldbaaDoorHasV
import Derived.Lib.SlBytesConst

/- The contracts of the second say's Same of two entries, and of the laws' own same, where both are alike (chapter 9). -/
namespace Go.Proofs.YtinifnpajkldbaaDoor
open Go.RowKit
set_option linter.unusedSimpArgs false
set_option linter.unusedVariables false

set_option maxRecDepth 100000 in
set_option maxHeartbeats 4000000 in
theorem gSame_eq (e : En) (he : e.Ok) (a1 a2 : Option Addr) (n c1 c2 : Nat) (body : List UInt8) (va vb : Value) (o : List Cp) (ho : o.length ≤ 1048576) (w : World) (h1 : Reads w (.slice a1 n c1) (B body)) (h2 : Reads w (.slice a2 n c2) (B body)) (ha : RC w va o) (hb : RC w vb o) :
    Calls Tryd.prog 23 #[.agg (e.cells (.slice a1 n c1) va).toArray, .agg (e.cells (.slice a2 n c2) vb).toArray] w fun e w' => e = .returned (.bool true) ∧ Below w.heap.size w w' := by
  obtain ⟨xs, hxs⟩ : ∃ xs, e.cells (.slice a1 n c1) va = xs := ⟨_, rfl⟩
  obtain ⟨ys, hys⟩ : ∃ ys, e.cells (.slice a2 n c2) vb = ys := ⟨_, rfl⟩
  rw [hxs, hys]
  have HX := hid hxs
  have HY := hid hys
  have HA := hid ha
  have HB := hid hb
  have HR1 := hid h1
  have HR2 := hid h2
  have HE := hid he
  obtain ⟨m1, hm1⟩ : ∃ ds, B e.m1 = ds := ⟨_, rfl⟩
  obtain ⟨m2, hm2⟩ : ∃ ds, B e.hash = ds := ⟨_, rfl⟩
  obtain ⟨m3, hm3⟩ : ∃ ds, B e.mac = ds := ⟨_, rfl⟩
  have HM1 := hid hm1
  have HM2 := hid hm2
  have HM3 := hid hm3
  have hi1 := hid (show (Tryd.prog.info? 26).map (·.size) = some m1.length by rw [← hm1, B_length, he.h1]; kernel_rfl)
  have hi2 := hid (show (Tryd.prog.info? 26).map (·.size) = some m2.length by rw [← hm2, B_length, he.h2]; kernel_rfl)
  have hi3 := hid (show (Tryd.prog.info? 26).map (·.size) = some m3.length by rw [← hm3, B_length, he.h3]; kernel_rfl)
  obtain ⟨L, hL⟩ : ∃ L, w.heap.size = L := ⟨_, rfl⟩
  have hq1 : ∀ wx, (Op.equalIn 10000 26 (.agg m1.toArray) (.agg m1.toArray)).run Tryd.prog wx = .ok true wx := fun wx => by rw [← hm1, equal_hash9 wx _ _ he.h1 he.h1]; simp
  have hq2 : ∀ wx, (Op.equalIn 10000 26 (.agg m2.toArray) (.agg m2.toArray)).run Tryd.prog wx = .ok true wx := fun wx => by rw [← hm2, equal_hash9 wx _ _ he.h2 he.h2]; simp
  have hq3 : ∀ wx, (Op.equalIn 10000 26 (.agg m3.toArray) (.agg m3.toArray)).run Tryd.prog wx = .ok true wx := fun wx => by rw [← hm3, equal_hash9 wx _ _ he.h3 he.h3]; simp
  obtain ⟨S, hS⟩ : ∃ S : ByteArray, (⟨body.toArray⟩ : ByteArray) = S := ⟨_, rfl⟩
  have HST := hid (show ∀ wx v, Reads wx v (B body) → (convert 22 9 v).run Tryd.prog wx = .ok (.string S) wx from fun wx v h => by rw [← hS]; exact run_string (P := Tryd.prog) wx 22 9 5 Tryd.underlying22 Tryd.underlying5 Tryd.underlying9 h)
  clear hxs hys ha hb h1 h2 he hm1 hm2 hm3 hS
  go_enter Tryd.func23, Tryd.ntmps23
  go_upto_region 1 with (first
    | (show wpList _ _ _ (⟨some 2, Op.box _ _, _, _, _, _⟩ :: _) _ _; go_must (refine wpList_box_blk rfl 56 _ rfl xs rfl L hL ?_); intro w1 hB1 hb1 hs1; rw [← HX.out] at hB1; have HW1 := hid (EnW.mk HE.out hB1); clear hB1; replace hb1 := hid hb1)
    | (show wpList _ _ _ (⟨some 3, Op.box _ _, _, _, _, _⟩ :: _) _ _; go_must (refine wpList_box_blk rfl 56 _ rfl ys rfl (L + 1) hs1 ?_); intro w2 hB2 hb2 hs2; rw [← HY.out] at hB2; have HV := hid (EnW.mk HE.out hB2); have HW := hid (HW1.out.kept (hb2.block L (by omega))); have Hb := hid (show Below L w w2 from hb1.out.trans (hb2.mono (by omega)))))
  -- REGION1
  have c0 := HW.out.body
  have c33 := HW.out.at_
  have c34 := HW.out.op
  have d0 := HV.out.body
  have d33 := HV.out.at_
  have d34 := HV.out.op
  have s1 := HST.out w2 _ (HR1.out.later (by rw [hL]; exact Hb.out))
  have s2 := HST.out w2 _ (HR2.out.later (by rw [hL]; exact Hb.out))
  have A1 := hid (show w2.rangeAt L 1 m1 by rw [← HM1.out]; exact HW.out.m1)
  have A2 := hid (show w2.rangeAt L 35 m2 by rw [← HM2.out]; exact HW.out.hash)
  have A3 := hid (show w2.rangeAt L 67 m3 by rw [← HM3.out]; exact HW.out.mac)
  have B1 := hid (show w2.rangeAt (L + 1) 1 m1 by rw [← HM1.out]; exact HV.out.m1)
  have B2 := hid (show w2.rangeAt (L + 1) 35 m2 by rw [← HM2.out]; exact HV.out.hash)
  have B3 := hid (show w2.rangeAt (L + 1) 67 m3 by rw [← HM3.out]; exact HV.out.mac)
  go_wp2_with (first
    | (show wpList _ _ _ (⟨some 17, Op.load _ _, _, _, _, _⟩ :: _) _ _; go_must (refine wpList_load_want9 rfl 26 _ rfl L 1 rfl m1 _ A1.out Tryd.underlying26 rfl hi1.out ?_))
    | (show wpList _ _ _ (⟨some 20, Op.load _ _, _, _, _, _⟩ :: _) _ _; go_must (refine wpList_load_want9 rfl 26 _ rfl (L + 1) 1 rfl m1 _ B1.out Tryd.underlying26 rfl hi1.out ?_)))
  -- CALL
  refine (refsame9 o ho _ _ _ (HA.out.later (by rw [hL]; exact Hb.out)) (HB.out.later (by rw [hL]; exact Hb.out))).mono ?_
  rintro _ w3 ⟨rfl, hb3⟩
  have hzl : L + 1 < w2.heap.size := HV.out.lt
  have HW3 := hid (HW.out.later hb3)
  have HV3 := hid (HV.out.later hb3)
  have Hb3 := hid (show Below L w w3 from Hb.out.trans (hb3.mono (by omega)))
  have C2 := hid (show w3.rangeAt L 35 m2 by rw [← HM2.out]; exact HW3.out.hash)
  have C3 := hid (show w3.rangeAt L 67 m3 by rw [← HM3.out]; exact HW3.out.mac)
  have D2 := hid (show w3.rangeAt (L + 1) 35 m2 by rw [← HM2.out]; exact HV3.out.hash)
  have D3 := hid (show w3.rangeAt (L + 1) 67 m3 by rw [← HM3.out]; exact HV3.out.mac)
  clear c0 c33 c34 d0 d33 d34 s1 s2 hb3 A1 A2 A3 B1 B2 B3
  go_wp2_with (first
    | (show wpList _ _ _ (⟨some 39, Op.load _ _, _, _, _, _⟩ :: _) _ _; go_must (refine wpList_load_want9 rfl 26 _ rfl L 35 rfl m2 _ C2.out Tryd.underlying26 rfl hi2.out ?_))
    | (show wpList _ _ _ (⟨some 41, Op.load _ _, _, _, _, _⟩ :: _) _ _; go_must (refine wpList_load_want9 rfl 26 _ rfl (L + 1) 35 rfl m2 _ D2.out Tryd.underlying26 rfl hi2.out ?_))
    | (show wpList _ _ _ (⟨some 46, Op.load _ _, _, _, _, _⟩ :: _) _ _; go_must (refine wpList_load_want9 rfl 26 _ rfl L 67 rfl m3 _ C3.out Tryd.underlying26 rfl hi3.out ?_))
    | (show wpList _ _ _ (⟨some 48, Op.load _ _, _, _, _, _⟩ :: _) _ _; go_must (refine wpList_load_want9 rfl 26 _ rfl (L + 1) 67 rfl m3 _ D3.out Tryd.underlying26 rfl hi3.out ?_)))
  -- RET
  go_ret
  exact ⟨rfl, by first | exact Hb3.out | (rw [hL]; exact Hb3.out)⟩

set_option maxRecDepth 100000 in
set_option maxHeartbeats 4000000 in
theorem same9_eq (m : List UInt8) (hm : m.length = 32) (a1 a2 : Option Addr) (n c1 c2 : Nat) (body : List UInt8) (w : World) (h1 : Reads w (.slice a1 n c1) (B body)) (h2 : Reads w (.slice a2 n c2) (B body)) :
    Calls Tryd.prog 14 #[.agg (sgC (.slice a1 n c1) m).toArray, .agg (sgC (.slice a2 n c2) m).toArray] w fun e w' => e = .returned (.bool true) ∧ Below w.heap.size w w' := by
  obtain ⟨xs, hxs⟩ : ∃ xs, sgC (.slice a1 n c1) m = xs := ⟨_, rfl⟩
  obtain ⟨ys, hys⟩ : ∃ ys, sgC (.slice a2 n c2) m = ys := ⟨_, rfl⟩
  rw [hxs, hys]
  have HX := hid hxs
  have HY := hid hys
  have HR1 := hid h1
  have HR2 := hid h2
  obtain ⟨m1, hm1⟩ : ∃ ds, B m = ds := ⟨_, rfl⟩
  have HM1 := hid hm1
  have hi1 := hid (show (Tryd.prog.info? 26).map (·.size) = some m1.length by rw [← hm1, B_length, hm]; kernel_rfl)
  obtain ⟨L, hL⟩ : ∃ L, w.heap.size = L := ⟨_, rfl⟩
  have hq1 : ∀ wx, (Op.equalIn 10000 26 (.agg m1.toArray) (.agg m1.toArray)).run Tryd.prog wx = .ok true wx := fun wx => by rw [← hm1, equal_hash9 wx _ _ hm hm]; simp
  obtain ⟨S, hS⟩ : ∃ S : ByteArray, (⟨body.toArray⟩ : ByteArray) = S := ⟨_, rfl⟩
  have HST := hid (show ∀ wx v, Reads wx v (B body) → (convert 22 9 v).run Tryd.prog wx = .ok (.string S) wx from fun wx v h => by rw [← hS]; exact run_string (P := Tryd.prog) wx 22 9 5 Tryd.underlying22 Tryd.underlying5 Tryd.underlying9 h)
  clear hxs hys h1 h2 hm hm1 hS
  go_enter Tryd.func14, Tryd.ntmps14
  go_upto_region 1 with (first
    | (show wpList _ _ _ (⟨some 2, Op.box _ _, _, _, _, _⟩ :: _) _ _; go_must (refine wpList_box_blk rfl 40 _ rfl xs rfl L hL ?_); intro w1 hB1 hb1 hs1; have HB1 := hid hB1; clear hB1; replace hb1 := hid hb1)
    | (show wpList _ _ _ (⟨some 3, Op.box _ _, _, _, _, _⟩ :: _) _ _; go_must (refine wpList_box_blk rfl 40 _ rfl ys rfl (L + 1) hs1 ?_); intro w2 hB2 hb2 hs2; have HV := hid hB2; have HW := hid (HB1.out.kept (hb2.block L (by omega))); have Hb := hid (show Below L w w2 from hb1.out.trans (hb2.mono (by omega)))))
  have c0 : w2.cell? ⟨L, 0, none⟩ = some (.slice a1 n c1) := HW.out.cell (by rw [← HX.out]; rfl)
  have d0 : w2.cell? ⟨L + 1, 0, none⟩ = some (.slice a2 n c2) := HV.out.cell (by rw [← HY.out]; rfl)
  have s1 := HST.out w2 _ (HR1.out.later (by rw [hL]; exact Hb.out))
  have s2 := HST.out w2 _ (HR2.out.later (by rw [hL]; exact Hb.out))
  have A1 := hid (show w2.rangeAt L 1 m1 by rw [← HM1.out]; exact HW.out.range fun j v hv => by rw [← HX.out]; exact sgC_mac hv)
  have B1 := hid (show w2.rangeAt (L + 1) 1 m1 by rw [← HM1.out]; exact HV.out.range fun j v hv => by rw [← HY.out]; exact sgC_mac hv)
  go_wp2_with (first
    | (show wpList _ _ _ (⟨some 14, Op.load _ _, _, _, _, _⟩ :: _) _ _; go_must (refine wpList_load_want9 rfl 26 _ rfl L 1 rfl m1 _ A1.out Tryd.underlying26 rfl hi1.out ?_))
    | (show wpList _ _ _ (⟨some 16, Op.load _ _, _, _, _, _⟩ :: _) _ _; go_must (refine wpList_load_want9 rfl 26 _ rfl (L + 1) 1 rfl m1 _ B1.out Tryd.underlying26 rfl hi1.out ?_)))
  -- RET9
  go_ret
  exact ⟨rfl, by first | exact Hb.out | (rw [hL]; exact Hb.out)⟩
end Go.Proofs.YtinifnpajkldbaaDoor

/- Go's remainder and the one that is never negative; of no program. -/
namespace Go.Proofs.YtinifnpajkldbaaDoor
open Go.RowKit
set_option linter.unusedSimpArgs false
set_option linter.unusedVariables false

theorem tmod_neg (a n : Int) (hn : 0 < n) (h : a.tmod n < 0) : a % n = a.tmod n + n := by
  have h1 := Int.tmod_eq_emod_of_nonneg (a := a) (b := n)
  have h2 := Int.emod_nonneg a (b := n) (by omega)
  have h3 := Int.emod_lt_of_pos a hn
  have h4 := Int.lt_tmod_of_pos a hn
  have h5 : (n ∣ a % n - a.tmod n) := by
    have e1 := Int.emod_add_mul_ediv a n
    have e2 := Int.tmod_add_mul_tdiv a n
    refine ⟨a.tdiv n - a / n, ?_⟩
    rw [Int.mul_sub]
    omega
  obtain ⟨k, hk⟩ := h5
  have hk1 : n * 0 < n * k := by omega
  have hk2 : n * k < n * 2 := by omega
  have k1 : 0 < k := Int.lt_of_mul_lt_mul_left hk1 (by omega)
  have k2 : k < 2 := Int.lt_of_mul_lt_mul_left hk2 (by omega)
  have : k = 1 := by omega
  subst this
  omega

theorem tmod_pos (a n : Int) (hn : 0 < n) (h : 0 ≤ a.tmod n) : a % n = a.tmod n := by
  have h2 := Int.emod_nonneg a (b := n) (by omega)
  have h3 := Int.emod_lt_of_pos a hn
  have h4 := Int.tmod_lt_of_pos a hn
  have h5 : (n ∣ a % n - a.tmod n) := by
    have e1 := Int.emod_add_mul_ediv a n
    have e2 := Int.tmod_add_mul_tdiv a n
    refine ⟨a.tdiv n - a / n, ?_⟩
    rw [Int.mul_sub]
    omega
  obtain ⟨k, hk⟩ := h5
  have hk1 : n * (-1) < n * k := by omega
  have hk2 : n * k < n * 1 := by omega
  have k1 : -1 < k := Int.lt_of_mul_lt_mul_left hk1 (by omega)
  have k2 : k < 1 := Int.lt_of_mul_lt_mul_left hk2 (by omega)
  have : k = 0 := by omega
  subst this
  omega
end Go.Proofs.YtinifnpajkldbaaDoor

/- The contracts of the laws' own Keys and within (chapter 9). -/
namespace Go.Proofs.YtinifnpajkldbaaDoor
open Go.RowKit
set_option linter.unusedSimpArgs false
set_option linter.unusedVariables false

set_option maxHeartbeats 400000 in
theorem within9_any (a n : Int) (h0 : 0 < n) (h1 : n ≤ 2147483648) (w : World) :
    Calls Tryd.prog 12 #[.int .i64 a, .int .i64 n] w fun e w' => e = .returned (.int .i64 (a % n)) ∧ w' = w := by
  have h4 := Int.lt_tmod_of_pos a h0
  have h5 := Int.tmod_lt_of_pos a h0
  have hneg := tmod_neg a n h0
  have hpos := tmod_pos a n h0
  have HN : Hid (a.tmod n < 0 → a % n = a.tmod n + n) := hneg
  have HP : Hid (0 ≤ a.tmod n → a % n = a.tmod n) := hpos
  clear hneg hpos
  go_enter Tryd.func12, Tryd.ntmps12
  go_wp2
  · go_ret
    exact ⟨by rw [HN.out (by assumption)]; rfl, rfl⟩
  · go_ret
    exact ⟨by rw [HP.out (by assumption)]; rfl, rfl⟩

theorem reads_low9 {w : World} {ao : Option Addr} {n cap : Nat} {b : List UInt8} (h : Reads w (.slice ao n cap) (B b)) (k : Nat) (hk : k ≤ b.length) : Reads w (.slice ao k cap) (B (b.take k)) := by
  obtain ⟨ao', c, e, hc, hn, hcell⟩ := h
  injection e with e1 e2 e3
  subst e1 e3
  rw [B_length] at hc
  refine ⟨ao, cap, by rw [B_length, List.length_take, Nat.min_eq_left hk], by rw [B_length, List.length_take]; omega, hn, fun ad he j u hj => hcell ad he j u ?_⟩
  rw [B_get] at hj ⊢
  rw [List.getElem?_take] at hj
  split at hj
  · exact hj
  · cases hj

theorem reads_of_row9 {W : World} {e : TypeId} {g n : Nat} {C : Array Value} {fr : Nat × Nat} (hC : W.heap[g]? = some (.cells C e fr)) (hn : C.size = n) : Reads W (.slice (some ⟨g, 0, none⟩) n n) C.toList := by
  refine ⟨some ⟨g, 0, none⟩, n, by simp [hn], by simp [hn], (fun h => by cases h), fun ad he j u hj => ?_⟩
  cases he
  rw [Addr.add_lit, Nat.zero_add, cell_of_row W g j C e fr hC]
  simpa using hj
theorem Reads.off9 {w w' : World} {a n c L : Nat} {xs : List Value} (h : Reads w (.slice (some ⟨a, 0, none⟩) n c) xs) (ha : a ≠ L) (hb : w'.heap[a]? = w.heap[a]?) : Reads w' (.slice (some ⟨a, 0, none⟩) n c) xs := by
  obtain ⟨ao, c', e, hc, hn, hcell⟩ := h
  injection e with e1 e2 e3
  subst e1 e3
  refine ⟨_, c, by rw [e2], hc, hn, fun ad he j u hj => ?_⟩
  have h1 := hcell ad he j u hj
  cases he
  rw [← h1]
  exact World.cell?_of_block (by rw [show (Addr.add ⟨a, 0, none⟩ j).block = a from by unfold Addr.add; split <;> rfl]; exact hb)
section
variable {P : Program}
/-- An append to a row that is full, whatever its mark. -/
theorem run_append_full (W : World) (t tx ty e : TypeId) (i : TypeInfo) (z : Value) (ht : P.underlying t = some (.slice e)) (hi : P.info? e = some i) (hz : i.zero = some z)
    (hsize : i.size = 1) (hby : i.bytes = 1) (hzs : z.cells.size = 1)
    (g n : Nat) (C : Array Value) (fr : Nat × Nat) (hC : W.heap[g]? = some (.cells C e fr)) (hn : C.size = n) (x : Value) (m : Nat) (news : List Value) (hs : Src P 1 tx x m news W)
    (hb : n + m ≤ 140737488355328) :
    ∃ a' c' w', (Builtin.append_ #[t, tx] ty #[.slice (some ⟨g, 0, none⟩) n n, x]).run P W = .ok (.slice (some ⟨a', 0, none⟩) (n + m) c') w' ∧ (a' = g ∨ W.heap.size ≤ a') ∧ c' ≤ maxLen ∧ Reads w' (.slice (some ⟨a', 0, none⟩) (n + m) c') (C.toList ++ news) ∧ Below W.heap.size W w' := by
  have hl : news.length = m := by simpa using hs.newsLen
  by_cases hm : 0 < m
  · have hgc := grownCap_ge W (n + m) n e
    have hcm := grownCap_le_maxLen W (n + m) n e (by unfold maxLen; omega)
    have hlen : (C.toList ++ news).length = n + m := by rw [List.length_append, hl, Array.length_toList, hn]
    have hf : (Builtin.firstCells i.size n (.slice (some ⟨g, 0, none⟩) n n)).run P W.drew = .ok C.toList.toArray W.drew :=
      run_firstCells_some (P := P) W.drew i.size n ⟨g, 0, none⟩ n n C.toList (by rw [hsize, Nat.mul_one, Array.length_toList, hn]) (by
        intro j u hj
        rw [Addr.add_lit, Nat.zero_add, cell_of_row W.drew g j C e fr hC]
        simpa using hj)
    have hr := run_append_grow_src (P := P) W t tx ty e i z ht hi hz (some ⟨g, 0, none⟩) n n C.toList hf x m news (by rw [hsize]; exact hs) (by omega) (by omega) (growslice_fits (by omega) (by rw [hby]; omega))
    refine ⟨_, _, _, hr, .inr (Nat.le_refl _), hcm, ?_, ⟨rfl, rfl, rfl, by simp, fun k hk => Below.heap_alloc W.drew _ k hk⟩⟩
    refine Owns.reads (e := e) ⟨hlen, hgc, hcm, _, heap_alloc_new W.drew _, ?_, ?_⟩
    · simp only [Array.size_append, List.size_toArray, size_zeroCells, hzs, hlen]
      omega
    · simp only [Array.toList_append]
      rw [← hlen]
      exact List.take_left
  · have hm0 : m = 0 := by omega
    subst hm0
    have hn0 : news = [] := List.eq_nil_of_length_eq_zero hl
    subst hn0
    refine ⟨g, n, W, ?_, .inl rfl, by unfold maxLen; omega, by simpa using reads_of_row9 hC hn, Below.refl _ _⟩
    rcases hs.kind with ⟨e', hk⟩ | hk <;> simp [Builtin.append_, run_underlying ht, run_underlying hk, sizeOf, typeInfo, hi, hsize, hs.len, hs.cells, storeCells]
theorem wpList_append_full {W : World} {ops : Array Oper} {rest : List Oper} {o : Oper} {a : Act} {Q : Exit → Act → World → Prop} (hgd : o.guard = none) (s x : Operand) (t tx : TypeId)
    (ho : o.op = .call { callee := .builtin .append, args := #[s, x], argTypes := #[t, tx] })
    (e : TypeId) (i : TypeInfo) (z : Value) (ht : P.underlying t = some (.slice e)) (hi : P.info? e = some i) (hz : i.zero = some z) (hsize : i.size = 1) (hby : i.bytes = 1) (hzs : z.cells.size = 1)
    (g n : Nat) (C : Array Value) (fr : Nat × Nat) (hs : a.eval s = .slice (some ⟨g, 0, none⟩) n n) (hC : W.heap[g]? = some (.cells C e fr)) (hn : C.size = n)
    (y : Value) (m : Nat) (news : List Value) (hx : a.eval x = y) (hsrc : Src P 1 tx y m news W) (hb : n + m ≤ 140737488355328)
    (h : ∀ a' c' w', (a' = g ∨ W.heap.size ≤ a') → c' ≤ maxLen → Reads w' (.slice (some ⟨a', 0, none⟩) (n + m) c') (C.toList ++ news) → Below W.heap.size W w' → wpList P ops Q rest (a.put o.dst (.slice (some ⟨a', 0, none⟩) (n + m) c')) w') : wpList P ops Q (o :: rest) a W := by
  refine wpList_plain hgd fun K hK => ?_
  obtain ⟨a', c', w', hr, h0, h1, h2, h3⟩ := run_append_full (P := P) W t tx o.type e i z ht hi hz hsize hby hzs g n C fr hC hn y m news hsrc hb
  unfold Oper.wp execOp
  simp only [ho, resolve, invoke, builtin, Sem.run_bind, Sem.run_pure, Result.andThen_ok, List.map_toArray, List.map_cons, List.map_nil, hs, hx, hr]
  exact hK _ _ (h a' c' w' h0 h1 h2 h3)
end

theorem KW.off9 {w w' : World} {ks : List Value} {K : Nat → List UInt8} (h : KW w ks K) (L : Nat) (ha : ∀ (i : Nat) a n c, ks[i]? = some (.slice a n c) → ∃ g, a = some ⟨g, 0, none⟩ ∧ L < g) (hb : ∀ k, k ≠ L → w'.heap[k]? = w.heap[k]?) : KW w' ks K := ⟨h.len, fun i hi => by
  obtain ⟨a, n, c, h1, h2, h3, h4, h5⟩ := h.get i hi
  obtain ⟨g, rfl, hg⟩ := ha i a n c h1
  exact ⟨_, n, c, h1, h2, h3, h4, h5.off9 (show g ≠ L by omega) (hb g (by omega))⟩⟩

/-- The keys that are made of bytes. -/
def keyS (b : List UInt8) (i : Nat) : List UInt8 := [107, UInt8.ofNat (48 + i)] ++ b.take 60

set_option maxRecDepth 100000 in
set_option maxHeartbeats 4000000 in
theorem keys9_any (b : List UInt8) (ao : Option Addr) (n cap : Nat) (hn : b.length = n) (hnc : n ≤ cap) (hcap : cap ≤ maxLen) (w : World) (hr : Reads w (.slice ao n cap) (B b)) :
    Calls Tryd.prog 10 #[.slice ao n cap] w fun x w' => ∃ ks, x = .returned (.agg ks.toArray) ∧ KW w' ks (keyS b) ∧ (∀ v ∈ ks, v.oneCell' = true) ∧ (∀ (i : Nat) a n c, ks[i]? = some (.slice a n c) → ∃ g, a = some ⟨g, 0, none⟩ ∧ w.heap.size < g) ∧ Below w.heap.size w w' := by
  obtain ⟨i0, hi, hz0, hz1, hz2⟩ := info_parts Tryd.infoByte
  obtain ⟨L, hL⟩ : ∃ L, w.heap.size = L := ⟨_, rfl⟩
  obtain ⟨k, hk⟩ : ∃ k, min n 60 = k := ⟨_, rfl⟩
  have hk1 : k ≤ n := by omega
  have hk2 : k ≤ 60 := by omega
  have hkc : (k : Int) ≤ (cap : Int) := by omega
  have htk : b.take k = b.take 60 := by
    by_cases h : n ≤ 60
    · rw [show k = n by omega, ← hn, List.take_length, List.take_of_length_le (by omega)]
    · rw [show k = 60 by omega]
  have hlo2 := reads_low9 hr k (by omega)
  rw [htk] at hlo2
  have HLO2 := hid hlo2
  obtain ⟨bt, hbt⟩ : ∃ bt, b.take 60 = bt := ⟨_, rfl⟩
  have HBT := hid (show bt.length = k by rw [← hbt, List.length_take]; omega)
  rw [hbt] at HLO2
  have HKS := hid (show ∀ i, keyS b i = [107, UInt8.ofNat (48 + i)] ++ bt from fun i => by rw [keyS, hbt])
  have HZ := hid (show (Tryd.prog.info? 35).bind (fun i => i.zero.map fun z => z.cells.toList) = some [.slice none 0 0, .slice none 0 0, .slice none 0 0] by kernel_rfl)
  have HIK := hid (show (Tryd.prog.info? 35).map (·.size) = some 3 by kernel_rfl)
  have hmin : (min (n : Int) 60) = (k : Int) := by omega
  clear hbt htk hlo2 hr hmin
  have hif : (if (60 : Int) < (n : Int) then (60 : Int) else (n : Int)) = (k : Int) := by split <;> omega
  go_enter Tryd.func10, Tryd.ntmps10
  go_upto_region 1 with (show wpList _ _ _ (⟨some 2, Op.alloc _, _, _, _, _⟩ :: _) _ _; go_must (refine wpList_alloc_blk rfl 35 rfl _ HZ.out L hL ?_); intro w1 hB1 hb1 hs1; have HB1 := hid hB1; have Hb1 := hid hb1; clear hB1 hb1)
  -- REGION1
  go_upto_region 2 with fail
  -- REGION2
  have kc : ∀ (g : Nat) (wx : World) (x y : Value), wx.heap.size = g → (convert 22 22 (.slice (some ⟨g, 0, none⟩) 2 2)).run Tryd.prog (wx.alloc (.cells #[x, y] 5)) = .ok (.slice (some ⟨g, 0, none⟩) 2 2) (wx.alloc (.cells #[x, y] 5 (2, 3))) := fun g wx x y h => by
    subst h
    exact Lib.run_convert_bytes_const (P := Tryd.prog) wx 22 5 #[x, y] 2 2 Tryd.underlying22 Tryd.underlying5
  have KC := hid kc
  have HBN := hid (show ∀ (g : Nat) (wx : World) (o : Obj), wx.heap.size = g → (wx.alloc o).heap[g]? = some o from fun g wx o h => by subst h; exact heap_alloc_new wx o)
  have k1 := KC.out (L + 1) w1 (.int .u8 107) (.int .u8 48) hs1
  have HSR1 := hid (Src.ofBytes (P := Tryd.prog) (tx := 22) _ Tryd.underlying22 HBT.out (HLO2.out.later (w1 := w1.alloc (.cells #[.int .u8 107, .int .u8 48] 5 (2, 3))) (by rw [hL]; exact Hb1.out.alloc (by omega) _)))
  have HC1 := hid (HBN.out (L + 1) w1 (.cells #[.int .u8 107, .int .u8 48] 5 (2, 3)) hs1)
  have HBA1 := hid (show Below (L + 1) w1 (w1.alloc (.cells #[.int .u8 107, .int .u8 48] 5 (2, 3))) from (Below.refl _ _).alloc (by omega) _)
  clear kc
  go_wp2_with (first
    | (show wpList _ _ _ (⟨some 11, _, _, _, _, _⟩ :: _) _ _; go_must (refine wpList_append_full (P := Tryd.prog) rfl _ _ 22 22 rfl 5 i0 (.int .u8 0) Tryd.underlying22 hi hz0 hz1 hz2 rfl (L + 1) 2 _ (2, 3) rfl HC1.out rfl _ k (B bt) rfl HSR1.out (by omega) ?_); intro g2 c2 w2 hg2 hc2 hR2 hb2; have HG2 := hid (show L < g2 from by rcases hg2 with h | h; omega; exact Nat.lt_of_lt_of_le (by simp; omega) h); have HR2 := hid (show Reads w2 (.slice (some ⟨g2, 0, none⟩) (2 + k) c2) (B ([107, 48] ++ bt)) from by rw [B_append]; exact hR2); have HM2 := hid hc2; have HBK2 := hid (show Below (L + 1) w1 w2 from HBA1.out.trans (hb2.mono (by simp; omega))); have HB2 := hid (HB1.out.kept (HBK2.out.block L (by omega))); have Hb2 := hid (show Below L w w2 from Hb1.out.trans (HBK2.out.mono (by omega))); have k2 := KC.out _ w2 (.int .u8 107) (.int .u8 49) rfl; have HSR2 := hid (Src.ofBytes (P := Tryd.prog) (tx := 22) _ Tryd.underlying22 HBT.out (HLO2.out.later (w1 := w2.alloc (.cells #[.int .u8 107, .int .u8 49] 5 (2, 3))) (by rw [hL]; exact Hb2.out.alloc (by have := HB2.out.lt; omega) _))); have HC2 := hid (HBN.out _ w2 (.cells #[.int .u8 107, .int .u8 49] 5 (2, 3)) rfl); have HBA2 := hid (show Below w2.heap.size w2 (w2.alloc (.cells #[.int .u8 107, .int .u8 49] 5 (2, 3))) from (Below.refl _ _).alloc (Nat.le_refl _) _); clear hg2 hc2 hR2 hb2 k1)
    | (show wpList _ _ _ (⟨some 15, _, _, _, _, _⟩ :: _) _ _; go_must (refine wpList_append_full (P := Tryd.prog) rfl _ _ 22 22 rfl 5 i0 (.int .u8 0) Tryd.underlying22 hi hz0 hz1 hz2 rfl w2.heap.size 2 _ (2, 3) rfl HC2.out rfl _ k (B bt) rfl HSR2.out (by omega) ?_); intro g3 c3 w3 hg3 hc3 hR3 hb3; have HG3 := hid (show L < g3 from by have := HB2.out.lt; rcases hg3 with h | h; omega; exact Nat.lt_of_lt_of_le (by simp; omega) h); have HR3 := hid (show Reads w3 (.slice (some ⟨g3, 0, none⟩) (2 + k) c3) (B ([107, 49] ++ bt)) from by rw [B_append]; exact hR3); have HM3 := hid hc3; have HBK3 := hid (show Below w2.heap.size w2 w3 from HBA2.out.trans (hb3.mono (by simp))); have HB3 := hid (HB2.out.later HBK3.out); have HR23 := hid (HR2.out.later HBK3.out); have Hb3 := hid (show Below L w w3 from Hb2.out.trans (HBK3.out.mono (by have := HB2.out.lt; omega))); have k3 := KC.out _ w3 (.int .u8 107) (.int .u8 50) rfl; have HSR3 := hid (Src.ofBytes (P := Tryd.prog) (tx := 22) _ Tryd.underlying22 HBT.out (HLO2.out.later (w1 := w3.alloc (.cells #[.int .u8 107, .int .u8 50] 5 (2, 3))) (by rw [hL]; exact Hb3.out.alloc (by have := HB3.out.lt; omega) _))); have HC3 := hid (HBN.out _ w3 (.cells #[.int .u8 107, .int .u8 50] 5 (2, 3)) rfl); have HBA3 := hid (show Below w3.heap.size w3 (w3.alloc (.cells #[.int .u8 107, .int .u8 50] 5 (2, 3))) from (Below.refl _ _).alloc (Nat.le_refl _) _); clear hg3 hc3 hR3 hb3 k2)
    | (show wpList _ _ _ (⟨some 19, _, _, _, _, _⟩ :: _) _ _; go_must (refine wpList_append_full (P := Tryd.prog) rfl _ _ 22 22 rfl 5 i0 (.int .u8 0) Tryd.underlying22 hi hz0 hz1 hz2 rfl w3.heap.size 2 _ (2, 3) rfl HC3.out rfl _ k (B bt) rfl HSR3.out (by omega) ?_); intro g4 c4 w4 hg4 hc4 hR4 hb4; have HG4 := hid (show L < g4 from by have := HB3.out.lt; rcases hg4 with h | h; omega; exact Nat.lt_of_lt_of_le (by simp; omega) h); have HR4 := hid (show Reads w4 (.slice (some ⟨g4, 0, none⟩) (2 + k) c4) (B ([107, 50] ++ bt)) from by rw [B_append]; exact hR4); have HM4 := hid hc4; have HBK4 := hid (show Below w3.heap.size w3 w4 from HBA3.out.trans (hb4.mono (by simp))); have HB4 := hid (HB3.out.later HBK4.out); have HR24 := hid (HR23.out.later HBK4.out); have HR34 := hid (HR3.out.later HBK4.out); have Hb4 := hid (show Below L w w4 from Hb3.out.trans (HBK4.out.mono (by have := HB3.out.lt; omega))); clear hg4 hc4 hR4 hb4 k3)
    | (show wpList _ _ _ (⟨none, Op.store _ (Operand.tmp 2) (Operand.tmp 20), _, _, _, _⟩ :: _) _ _; go_must (refine wpList_store_list rfl 35 _ _ rfl L 0 [.slice (some ⟨g2, 0, none⟩) (2 + k) c2, .slice (some ⟨g3, 0, none⟩) (2 + k) c3, .slice (some ⟨g4, 0, none⟩) (2 + k) c4] rfl rfl (HB4.out.there (by simp)) (by exact HIK.out) (by intro v hv; simp at hv; rcases hv with rfl | rfl | rfl <;> rfl) ?_); intro w5 hw5; have HX := hid (show Blk w5 35 L [.slice (some ⟨g2, 0, none⟩) (2 + k) c2, .slice (some ⟨g3, 0, none⟩) (2 + k) c3, .slice (some ⟨g4, 0, none⟩) (2 + k) c4] ∧ Below L w w5 ∧ ∀ v xs, (∃ a c, v = .slice (some ⟨a, 0, none⟩) (2 + k) c ∧ a ≠ L) → Reads w4 v xs → Reads w5 v xs from by
        rw [hw5]
        refine ⟨?_, below_setCells (Nat.le_refl _) _ _ Hb4.out, ?_⟩
        · have h3 := Blk.setCells [.slice (some ⟨g2, 0, none⟩) (2 + k) c2, .slice (some ⟨g3, 0, none⟩) (2 + k) c3, .slice (some ⟨g4, 0, none⟩) (2 + k) c4] [] [.slice none 0 0, .slice none 0 0, .slice none 0 0] [] (o := 0) (by simpa using HB4.out) rfl rfl
          simpa using h3
        · rintro _ xs ⟨a, c, rfl, ha⟩ h
          exact h.off9 ha (setCells_heap ha _ 0 _)); clear hw5))
  -- RET
  refine ret_cell 2 35 rfl L rfl [.slice (some ⟨g2, 0, none⟩) (2 + k) c2, .slice (some ⟨g3, 0, none⟩) (2 + k) c3, .slice (some ⟨g4, 0, none⟩) (2 + k) c4] _ (HX.out.1.range fun j v hv => by rw [Nat.zero_add]; exact hv) Tryd.underlying35 rfl HIK.out rfl ⟨_, rfl, ⟨rfl, fun i hi3 => ?_⟩, by intro v hv; simp at hv; rcases hv with rfl | rfl | rfl <;> rfl, ?_, by first | exact HX.out.2.1 | (rw [hL]; exact HX.out.2.1)⟩
  rotate_left
  · intro i a n c hi
    have h2 := HG2.out
    have h3 := HG3.out
    have h4 := HG4.out
    match i, hi with
    | 0, hi => simp at hi; exact ⟨g2, hi.1.symm, by omega⟩
    | 1, hi => simp at hi; exact ⟨g3, hi.1.symm, by omega⟩
    | 2, hi => simp at hi; exact ⟨g4, hi.1.symm, by omega⟩
    | i + 3, hi => simp at hi
  have hl : ∀ x : UInt8, ([107, x] ++ bt).length = 2 + k := fun x => by rw [List.length_append, HBT.out]; rfl
  match i, hi3 with
  | 0, _ => exact ⟨_, 2 + k, c2, rfl, by rw [HKS.out]; exact hl _, by omega, HM2.out, by rw [HKS.out]; exact HX.out.2.2 _ _ ⟨g2, c2, rfl, by have := HG2.out; omega⟩ HR24.out⟩
  | 1, _ => exact ⟨_, 2 + k, c3, rfl, by rw [HKS.out]; exact hl _, by omega, HM3.out, by rw [HKS.out]; exact HX.out.2.2 _ _ ⟨g3, c3, rfl, by have := HG3.out; omega⟩ HR34.out⟩
  | 2, _ => exact ⟨_, 2 + k, c4, rfl, by rw [HKS.out]; exact hl _, by omega, HM4.out, by rw [HKS.out]; exact HX.out.2.2 _ _ ⟨g4, c4, rfl, by have := HG4.out; omega⟩ HR4.out⟩
end Go.Proofs.YtinifnpajkldbaaDoor

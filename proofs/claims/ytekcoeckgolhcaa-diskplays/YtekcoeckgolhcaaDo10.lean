/- The contract of the laws' own Do (chapter 10). -/
import Derived.Test.YtekcoeckgolhcaaPDisk
import Derived.BigQuiet
import Derived.Deep.RegionHeld3
import Derived.Deep.DeepCutAuto
namespace Go.Proofs.Ytekcoeckgolhcaa
open Go.RowKit
set_option linter.unusedSimpArgs false
set_option linter.unusedVariables false

set_option maxRecDepth 100000 in
set_option maxHeartbeats 16000000 in
theorem do10_any {L : Nat} {w0 w : World} {d r x : Nat} {s : Dk} (h : PD L w0 w d r x s) (k n : Int) (hn0 : -9223372036854775808 ≤ n) (hn1 : n ≤ 9223372036854775807) (so : Option Addr) (m sc : Nat) (l : List UInt8) (hl : l.length = m) (hm : m ≤ 60) (hR : ∀ wx, Below L w0 wx → Reads wx (.slice so m sc) (B l)) :
    Calls Try.prog 14 #[.agg #[.int .i64 k, .int .i64 n, .slice so m sc], .pointer (some ⟨d, 0, none⟩), .pointer (some ⟨x, 0, none⟩)] w fun e w' => e = .returned (.bool true) ∧ ∃ s', PD L w0 w' d r x s' := by
  obtain ⟨i0, hi, hz0, hz1, hz2⟩ := info_parts Try.infoByte
  have HP := hid h
  have HRO := hid hR
  have HLM := hid hl
  have HOK := hid h.rk.ok
  obtain ⟨bo, bcap, hv, _, _⟩ := h.rk.opened
  have HV := hid hv
  obtain ⟨N, hN⟩ : ∃ N, w.heap.size = N := ⟨_, rfl⟩
  have HXN := hid (show x < N by rw [← hN]; exact h.rk.lt)
  have HBO := hid (show bo ≠ some ⟨N, 0, none⟩ by
    intro e
    subst e
    rcases hv.has with ⟨e1, _⟩ | ⟨g, c, e1, _, h2⟩
    · cases e1
    · injection e1 with e1
      injection e1 with e1
      injection e1 with e1
      have := h2.lt
      omega)
  obtain ⟨q, hq⟩ : ∃ q : Nat, k % 9 = (q : Int) := ⟨(k % 9).toNat, by omega⟩
  have HQ := hid hq
  have hq9 : q < 9 := by omega
  clear h hR hl hv hq
  go_enter Try.func14, Try.ntmps14
  go_wp2_with (show wpList _ _ _ (⟨some 3, Op.box _ _, _, _, _, _⟩ :: _) _ _; go_must (refine wpList_box_blk rfl 33 _ rfl [.int .i64 k, .int .i64 n, .slice so m sc] rfl N hN ?_); go_must (intro w2 hB2 hb2 hs2; have HB2 := hid hB2; have HP2 := hid (HP.out.later (by rw [hN]; exact hb2)); have HV2 := hid (HV.out.later (by rw [hN]; exact hb2)); have c0 : w2.cell? ⟨N, 0, none⟩ = some (.int .i64 k) := hB2.cell rfl; clear hB2 hb2))
  refine (within10_any k 9 (by omega) (by omega) _).mono ?_
  rintro _ wx ⟨rfl, hwx⟩
  rw [hwx, HQ.out]
  have HR2 := hid (HRO.out _ HP2.out.kd.bel)
  clear hwx wx c0 HP HV hs2
  rcases (show q = 0 ∨ q = 1 ∨ q = 2 ∨ q = 3 ∨ q = 4 ∨ q = 5 ∨ q = 6 ∨ q = 7 ∨ q = 8 by omega) with e | e | e | e | e | e | e | e | e
  · subst e
    go_upto_region 6 with fail
    refine wp_region_held_drew (S := fun w' => w'.cell? ⟨N, 2, none⟩ = some (.slice so m sc)) (by kernel_rfl) (HB2.out.cell rfl) (fun hHeld => ?_)
    have HPd := hid (HP2.out.later ((Below.refl _ _).drew))
    have HVd := hid HV2.out.drew
    have HRd := hid (show Reads w2.drew (.slice so m sc) (B l) from HR2.out.later ((Below.refl _ _).drew))
    have HNd := hid (show N < w2.drew.heap.size from HB2.out.lt)
    clear HP2 HV2 HR2 HB2
    generalize w2.drew = wd at *
    refine wpAnyH_take (i := 0) (v := .pointer (some ⟨d, 0, none⟩)) rfl (by kernel_rfl) (by kernel_rfl) (by kernel_rfl) (fun _ _ _ h => h) (Or.inl ⟨by rfl, by intro w hSw; go_simp⟩) hHeld ?_
    try simp only [Act.put, List.setIfInBounds_toArray, List.set_cons_zero, List.set_cons_succ, List.getElem_toArray, List.getElem_cons_zero, List.getElem_cons_succ]
    refine wpAnyH_take (i := 2) (v := .pointer (some ⟨N, 2, none⟩)) rfl (by kernel_rfl) (by kernel_rfl) (by kernel_rfl) (fun _ _ _ h => h) (Or.inl ⟨by rfl, by intro w hSw; go_simp⟩) hHeld ?_
    try simp only [Act.put, List.setIfInBounds_toArray, List.set_cons_zero, List.set_cons_succ, List.getElem_toArray, List.getElem_cons_zero, List.getElem_cons_succ]
    refine wpAnyH_take (i := 6) (v := .pointer (some ⟨x, 0, none⟩)) rfl (by kernel_rfl) (by kernel_rfl) (by kernel_rfl) (fun _ _ _ h => h) (Or.inl ⟨by rfl, by intro w hSw; go_simp⟩) hHeld ?_
    try simp only [Act.put, List.setIfInBounds_toArray, List.set_cons_zero, List.set_cons_succ, List.getElem_toArray, List.getElem_cons_zero, List.getElem_cons_succ]
    refine wpAnyH_take (i := 7) (v := .pointer (some ⟨N, 2, none⟩)) rfl (by kernel_rfl) (by kernel_rfl) (by kernel_rfl) (fun _ _ _ h => h) (Or.inl ⟨by rfl, by intro w hSw; go_simp⟩) hHeld ?_
    try simp only [Act.put, List.setIfInBounds_toArray, List.set_cons_zero, List.set_cons_succ, List.getElem_toArray, List.getElem_cons_zero, List.getElem_cons_succ]
    refine wpAnyH_take (i := 3) (v := .slice so m sc) rfl (by kernel_rfl) (by kernel_rfl) (by kernel_rfl) (fun _ _ _ h => h) (Or.inl ⟨by rfl, by intro w hSw; have q0 := hSw; go_simp⟩) hHeld ?_
    try simp only [Act.put, List.setIfInBounds_toArray, List.set_cons_zero, List.set_cons_succ, List.getElem_toArray, List.getElem_cons_zero, List.getElem_cons_succ]
    refine wpAnyH_take (i := 8) (v := .slice so m sc) rfl (by kernel_rfl) (by kernel_rfl) (by kernel_rfl) (fun _ _ _ h => h) (Or.inl ⟨by rfl, by intro w hSw; have q0 := hSw; go_simp⟩) hHeld ?_
    try simp only [Act.put, List.setIfInBounds_toArray, List.set_cons_zero, List.set_cons_succ, List.getElem_toArray, List.getElem_cons_zero, List.getElem_cons_succ]
    refine wpAnyH_ready (rs := [1]) (by kernel_rfl) (by simp) ?_
    refine AllReadyH.cons rfl (fun K hK => ?_) (AllReadyH.nil)
    go_simp
    have HPa := hid (HPd.out.later ((Below.refl _ _).alloc (Nat.le_refl _) (.cells #[] 5)))
    have HVa := hid (HVd.out.later ((Below.refl _ _).alloc (Nat.le_refl _) (.cells #[] 5)))
    have HRa := hid (HRd.out.later ((Below.refl _ _).alloc (Nat.le_refl _) (.cells #[] 5)))
    refine hK.out _ _ (cell_later ((Below.refl _ _).alloc (Nat.le_refl _) _) hHeld) (fun hHeld => ?_)
    clear hK K
    try simp only [Act.put, List.setIfInBounds_toArray, List.set_cons_zero, List.set_cons_succ, List.getElem_toArray, List.getElem_cons_zero, List.getElem_cons_succ]
    refine wpAnyH_ready (rs := [4]) (by kernel_rfl) (by simp) ?_
    refine AllReadyH.cons rfl (fun K hK => ?_) (AllReadyH.nil)
    refine Eq.mpr (if_pos (by rfl)) ?_
    refine wp_append_any _ _ _ 31 31 rfl 5 i0 (.int .u8 0) Try.underlying31 hi hz0 hz1 hz2 rfl wd.heap.size _ 0 [] rfl (.inr ⟨wd.heap.size, 0, rfl, Nat.le_refl _, Owns.empty _ _⟩) (by simp) _ m (B l) rfl (Src.ofBytes _ Try.underlying31 HLM.out HRa.out) (by omega) ?_
    intro v4 w4 hH4 hb4
    rw [List.nil_append, Nat.zero_add] at hH4
    have Hb4 := hid (((Below.refl wd.heap.size wd).alloc (Nat.le_refl _) (.cells #[] 5)).trans hb4)
    have HP4 := hid (HPd.out.later Hb4.out)
    have HV4 := hid (HVd.out.later Hb4.out)
    have HR4 := hid (HRd.out.later Hb4.out)
    have HH4 := hid hH4.reads
    have HN4 := hid (show N < w4.heap.size from Nat.lt_of_lt_of_le HNd.out Hb4.out.size)
    have hcell4 : w4.cell? ⟨N, 2, none⟩ = some (.slice so m sc) := by
      have := hb4.block N HNd.out
      rw [World.cell?_of_block (w := wd.alloc (.cells #[] 5)) (w' := w4) (a := ⟨N, 2, none⟩) this]
      exact hHeld
    clear hH4 hb4 HPa HVa HRa HPd HVd HRd hHeld
    refine hK.out _ _ (hcell4) (fun hHeld => ?_)
    clear hK K
    try simp only [Act.put, List.setIfInBounds_toArray, List.set_cons_zero, List.set_cons_succ, List.getElem_toArray, List.getElem_cons_zero, List.getElem_cons_succ]
    clear hcell4
    refine wpAnyH_ready (rs := [5]) (by kernel_rfl) (by simp) ?_
    refine AllReadyH.cons rfl (fun K hK => ?_) (AllReadyH.nil)
    go_simp
    refine (kAppend_at HP4.out.kd v4 l HH4.out (by rw [HLM.out]; omega) (s.app l).1 (s.app l).2 rfl).mono ?_
    rintro _ w5 ⟨rfl, hK5, ho⟩
    have HK5 := hid hK5
    have HV5 := hid (HV4.out.kept fun k h1 h2 => ho.block k h2 (by have := HP4.out.dx; omega) (by have := HP4.out.rx; omega))
    have hN5 := HN4.out
    have HR5 := hid (HRO.out w5 hK5.bel)
    have HB5 := hid (show w5.heap[N]? = w4.heap[N]? from ho.block N hN5 (by have := HP4.out.dx; have := HXN.out; omega) (by have := HP4.out.rx; have := HXN.out; omega))
    have hN5' : N < w5.heap.size := Nat.lt_of_lt_of_le hN5 ho.size
    have hcell5 : w5.cell? ⟨N, 2, none⟩ = some (.slice so m sc) := by
      rw [World.cell?_of_block (w := w4) (w' := w5) (a := ⟨N, 2, none⟩) HB5.out]
      exact hHeld
    clear hK5 ho hHeld HR4 HH4 HB5
    refine hK.out _ _ (hcell5) (fun hHeld => ?_)
    clear hK K
    try simp only [Act.put, List.setIfInBounds_toArray, List.set_cons_zero, List.set_cons_succ, List.getElem_toArray, List.getElem_cons_zero, List.getElem_cons_succ]
    clear hcell5
    refine wpAnyH_ready (rs := [9]) (by kernel_rfl) (by simp) ?_
    refine AllReadyH.cons rfl (fun K hK => ?_) (AllReadyH.nil)
    go_simp
    refine (xAppend_any x s bo bcap (.slice so m sc) l _ HV5.out HOK.out HR5.out (by rw [HLM.out]; omega)).mono ?_
    rintro _ w6 ⟨rfl, hR6, hb6, hk6⟩
    have HP6 := hid (HP4.out.stepX HK5.out hR6 hb6)
    have hcell6 : w6.cell? ⟨N, 2, none⟩ = some (.slice so m sc) := by
      rw [World.cell?_of_block (w := w5) (w' := w6) (a := ⟨N, 2, none⟩) (hk6 N hN5' (by have := HXN.out; omega) HBO.out)]
      exact hHeld
    clear hR6 hb6 hk6 hHeld
    refine hK.out _ _ (hcell6) (fun hHeld => ?_)
    clear hK K
    try simp only [Act.put, List.setIfInBounds_toArray, List.set_cons_zero, List.set_cons_succ, List.getElem_toArray, List.getElem_cons_zero, List.getElem_cons_succ]
    clear hcell6
    refine wpAnyH_take (i := 10) (v := .bool true) rfl (by kernel_rfl) (by kernel_rfl) (by kernel_rfl) (fun _ _ _ h => h) (Or.inl ⟨by rfl, by intro w hSw; go_simp⟩) hHeld ?_
    try simp only [Act.put, List.setIfInBounds_toArray, List.set_cons_zero, List.set_cons_succ, List.getElem_toArray, List.getElem_cons_zero, List.getElem_cons_succ]
    refine wpAnyH_ready (rs := [11]) (by kernel_rfl) (by simp) ?_
    refine AllReadyH.cons rfl (fun K hK => ?_) (AllReadyH.nil)
    go_simp
    refine hK.out _ _ (hHeld) (fun hHeld => ?_)
    clear hK K
    try simp only [Act.put, List.setIfInBounds_toArray, List.set_cons_zero, List.set_cons_succ, List.getElem_toArray, List.getElem_cons_zero, List.getElem_cons_succ]
    refine wpAnyH_done (by kernel_rfl) ?_ _
    clear hHeld HRO HP4 HV4 HK5 HV5 HR5 HN4 hN5 hN5'
    go_wp2_with fail
    go_ret
    exact ⟨rfl, _, HP6.out⟩
  · subst e
    go_upto_region 6 with fail
    refine wp_region_held_drew (S := fun w' => w'.cell? ⟨N, 2, none⟩ = some (.slice so m sc)) (by kernel_rfl) (HB2.out.cell rfl) (fun hHeld => ?_)
    have HPd := hid (HP2.out.later ((Below.refl _ _).drew))
    have HVd := hid HV2.out.drew
    have HRd := hid (show Reads w2.drew (.slice so m sc) (B l) from HR2.out.later ((Below.refl _ _).drew))
    have HNd := hid (show N < w2.drew.heap.size from HB2.out.lt)
    clear HP2 HV2 HR2 HB2
    generalize w2.drew = wd at *
    refine wpAnyH_take (i := 0) (v := .pointer (some ⟨d, 0, none⟩)) rfl (by kernel_rfl) (by kernel_rfl) (by kernel_rfl) (fun _ _ _ h => h) (Or.inl ⟨by rfl, by intro w hSw; go_simp⟩) hHeld ?_
    try simp only [Act.put, List.setIfInBounds_toArray, List.set_cons_zero, List.set_cons_succ, List.getElem_toArray, List.getElem_cons_zero, List.getElem_cons_succ]
    refine wpAnyH_take (i := 2) (v := .pointer (some ⟨N, 2, none⟩)) rfl (by kernel_rfl) (by kernel_rfl) (by kernel_rfl) (fun _ _ _ h => h) (Or.inl ⟨by rfl, by intro w hSw; go_simp⟩) hHeld ?_
    try simp only [Act.put, List.setIfInBounds_toArray, List.set_cons_zero, List.set_cons_succ, List.getElem_toArray, List.getElem_cons_zero, List.getElem_cons_succ]
    refine wpAnyH_take (i := 6) (v := .pointer (some ⟨x, 0, none⟩)) rfl (by kernel_rfl) (by kernel_rfl) (by kernel_rfl) (fun _ _ _ h => h) (Or.inl ⟨by rfl, by intro w hSw; go_simp⟩) hHeld ?_
    try simp only [Act.put, List.setIfInBounds_toArray, List.set_cons_zero, List.set_cons_succ, List.getElem_toArray, List.getElem_cons_zero, List.getElem_cons_succ]
    refine wpAnyH_take (i := 7) (v := .pointer (some ⟨N, 2, none⟩)) rfl (by kernel_rfl) (by kernel_rfl) (by kernel_rfl) (fun _ _ _ h => h) (Or.inl ⟨by rfl, by intro w hSw; go_simp⟩) hHeld ?_
    try simp only [Act.put, List.setIfInBounds_toArray, List.set_cons_zero, List.set_cons_succ, List.getElem_toArray, List.getElem_cons_zero, List.getElem_cons_succ]
    refine wpAnyH_take (i := 3) (v := .slice so m sc) rfl (by kernel_rfl) (by kernel_rfl) (by kernel_rfl) (fun _ _ _ h => h) (Or.inl ⟨by rfl, by intro w hSw; have q0 := hSw; go_simp⟩) hHeld ?_
    try simp only [Act.put, List.setIfInBounds_toArray, List.set_cons_zero, List.set_cons_succ, List.getElem_toArray, List.getElem_cons_zero, List.getElem_cons_succ]
    refine wpAnyH_take (i := 8) (v := .slice so m sc) rfl (by kernel_rfl) (by kernel_rfl) (by kernel_rfl) (fun _ _ _ h => h) (Or.inl ⟨by rfl, by intro w hSw; have q0 := hSw; go_simp⟩) hHeld ?_
    try simp only [Act.put, List.setIfInBounds_toArray, List.set_cons_zero, List.set_cons_succ, List.getElem_toArray, List.getElem_cons_zero, List.getElem_cons_succ]
    refine wpAnyH_ready (rs := [1]) (by kernel_rfl) (by simp) ?_
    refine AllReadyH.cons rfl (fun K hK => ?_) (AllReadyH.nil)
    go_simp
    have HPa := hid (HPd.out.later ((Below.refl _ _).alloc (Nat.le_refl _) (.cells #[] 5)))
    have HVa := hid (HVd.out.later ((Below.refl _ _).alloc (Nat.le_refl _) (.cells #[] 5)))
    have HRa := hid (HRd.out.later ((Below.refl _ _).alloc (Nat.le_refl _) (.cells #[] 5)))
    refine hK.out _ _ (cell_later ((Below.refl _ _).alloc (Nat.le_refl _) _) hHeld) (fun hHeld => ?_)
    clear hK K
    try simp only [Act.put, List.setIfInBounds_toArray, List.set_cons_zero, List.set_cons_succ, List.getElem_toArray, List.getElem_cons_zero, List.getElem_cons_succ]
    refine wpAnyH_ready (rs := [4]) (by kernel_rfl) (by simp) ?_
    refine AllReadyH.cons rfl (fun K hK => ?_) (AllReadyH.nil)
    refine Eq.mpr (if_pos (by rfl)) ?_
    refine wp_append_any _ _ _ 31 31 rfl 5 i0 (.int .u8 0) Try.underlying31 hi hz0 hz1 hz2 rfl wd.heap.size _ 0 [] rfl (.inr ⟨wd.heap.size, 0, rfl, Nat.le_refl _, Owns.empty _ _⟩) (by simp) _ m (B l) rfl (Src.ofBytes _ Try.underlying31 HLM.out HRa.out) (by omega) ?_
    intro v4 w4 hH4 hb4
    rw [List.nil_append, Nat.zero_add] at hH4
    have Hb4 := hid (((Below.refl wd.heap.size wd).alloc (Nat.le_refl _) (.cells #[] 5)).trans hb4)
    have HP4 := hid (HPd.out.later Hb4.out)
    have HV4 := hid (HVd.out.later Hb4.out)
    have HR4 := hid (HRd.out.later Hb4.out)
    have HH4 := hid hH4.reads
    have HN4 := hid (show N < w4.heap.size from Nat.lt_of_lt_of_le HNd.out Hb4.out.size)
    have hcell4 : w4.cell? ⟨N, 2, none⟩ = some (.slice so m sc) := by
      have := hb4.block N HNd.out
      rw [World.cell?_of_block (w := wd.alloc (.cells #[] 5)) (w' := w4) (a := ⟨N, 2, none⟩) this]
      exact hHeld
    clear hH4 hb4 HPa HVa HRa HPd HVd HRd hHeld
    refine hK.out _ _ (hcell4) (fun hHeld => ?_)
    clear hK K
    try simp only [Act.put, List.setIfInBounds_toArray, List.set_cons_zero, List.set_cons_succ, List.getElem_toArray, List.getElem_cons_zero, List.getElem_cons_succ]
    clear hcell4
    refine wpAnyH_ready (rs := [5]) (by kernel_rfl) (by simp) ?_
    refine AllReadyH.cons rfl (fun K hK => ?_) (AllReadyH.nil)
    go_simp
    refine (kAppend_at HP4.out.kd v4 l HH4.out (by rw [HLM.out]; omega) (s.app l).1 (s.app l).2 rfl).mono ?_
    rintro _ w5 ⟨rfl, hK5, ho⟩
    have HK5 := hid hK5
    have HV5 := hid (HV4.out.kept fun k h1 h2 => ho.block k h2 (by have := HP4.out.dx; omega) (by have := HP4.out.rx; omega))
    have hN5 := HN4.out
    have HR5 := hid (HRO.out w5 hK5.bel)
    have HB5 := hid (show w5.heap[N]? = w4.heap[N]? from ho.block N hN5 (by have := HP4.out.dx; have := HXN.out; omega) (by have := HP4.out.rx; have := HXN.out; omega))
    have hN5' : N < w5.heap.size := Nat.lt_of_lt_of_le hN5 ho.size
    have hcell5 : w5.cell? ⟨N, 2, none⟩ = some (.slice so m sc) := by
      rw [World.cell?_of_block (w := w4) (w' := w5) (a := ⟨N, 2, none⟩) HB5.out]
      exact hHeld
    clear hK5 ho hHeld HR4 HH4 HB5
    refine hK.out _ _ (hcell5) (fun hHeld => ?_)
    clear hK K
    try simp only [Act.put, List.setIfInBounds_toArray, List.set_cons_zero, List.set_cons_succ, List.getElem_toArray, List.getElem_cons_zero, List.getElem_cons_succ]
    clear hcell5
    refine wpAnyH_ready (rs := [9]) (by kernel_rfl) (by simp) ?_
    refine AllReadyH.cons rfl (fun K hK => ?_) (AllReadyH.nil)
    go_simp
    refine (xAppend_any x s bo bcap (.slice so m sc) l _ HV5.out HOK.out HR5.out (by rw [HLM.out]; omega)).mono ?_
    rintro _ w6 ⟨rfl, hR6, hb6, hk6⟩
    have HP6 := hid (HP4.out.stepX HK5.out hR6 hb6)
    have hcell6 : w6.cell? ⟨N, 2, none⟩ = some (.slice so m sc) := by
      rw [World.cell?_of_block (w := w5) (w' := w6) (a := ⟨N, 2, none⟩) (hk6 N hN5' (by have := HXN.out; omega) HBO.out)]
      exact hHeld
    clear hR6 hb6 hk6 hHeld
    refine hK.out _ _ (hcell6) (fun hHeld => ?_)
    clear hK K
    try simp only [Act.put, List.setIfInBounds_toArray, List.set_cons_zero, List.set_cons_succ, List.getElem_toArray, List.getElem_cons_zero, List.getElem_cons_succ]
    clear hcell6
    refine wpAnyH_take (i := 10) (v := .bool true) rfl (by kernel_rfl) (by kernel_rfl) (by kernel_rfl) (fun _ _ _ h => h) (Or.inl ⟨by rfl, by intro w hSw; go_simp⟩) hHeld ?_
    try simp only [Act.put, List.setIfInBounds_toArray, List.set_cons_zero, List.set_cons_succ, List.getElem_toArray, List.getElem_cons_zero, List.getElem_cons_succ]
    refine wpAnyH_ready (rs := [11]) (by kernel_rfl) (by simp) ?_
    refine AllReadyH.cons rfl (fun K hK => ?_) (AllReadyH.nil)
    go_simp
    refine hK.out _ _ (hHeld) (fun hHeld => ?_)
    clear hK K
    try simp only [Act.put, List.setIfInBounds_toArray, List.set_cons_zero, List.set_cons_succ, List.getElem_toArray, List.getElem_cons_zero, List.getElem_cons_succ]
    refine wpAnyH_done (by kernel_rfl) ?_ _
    clear hHeld HRO HP4 HV4 HK5 HV5 HR5 HN4 hN5 hN5'
    go_wp2_with fail
    go_ret
    exact ⟨rfl, _, HP6.out⟩
  · subst e
    go_upto_region 6 with fail
    refine wp_region_held_drew (S := fun w' => w'.cell? ⟨N, 2, none⟩ = some (.slice so m sc)) (by kernel_rfl) (HB2.out.cell rfl) (fun hHeld => ?_)
    have HPd := hid (HP2.out.later ((Below.refl _ _).drew))
    have HVd := hid HV2.out.drew
    have HRd := hid (show Reads w2.drew (.slice so m sc) (B l) from HR2.out.later ((Below.refl _ _).drew))
    have HNd := hid (show N < w2.drew.heap.size from HB2.out.lt)
    clear HP2 HV2 HR2 HB2
    generalize w2.drew = wd at *
    refine wpAnyH_take (i := 0) (v := .pointer (some ⟨d, 0, none⟩)) rfl (by kernel_rfl) (by kernel_rfl) (by kernel_rfl) (fun _ _ _ h => h) (Or.inl ⟨by rfl, by intro w hSw; go_simp⟩) hHeld ?_
    try simp only [Act.put, List.setIfInBounds_toArray, List.set_cons_zero, List.set_cons_succ, List.getElem_toArray, List.getElem_cons_zero, List.getElem_cons_succ]
    refine wpAnyH_take (i := 2) (v := .pointer (some ⟨N, 2, none⟩)) rfl (by kernel_rfl) (by kernel_rfl) (by kernel_rfl) (fun _ _ _ h => h) (Or.inl ⟨by rfl, by intro w hSw; go_simp⟩) hHeld ?_
    try simp only [Act.put, List.setIfInBounds_toArray, List.set_cons_zero, List.set_cons_succ, List.getElem_toArray, List.getElem_cons_zero, List.getElem_cons_succ]
    refine wpAnyH_take (i := 6) (v := .pointer (some ⟨x, 0, none⟩)) rfl (by kernel_rfl) (by kernel_rfl) (by kernel_rfl) (fun _ _ _ h => h) (Or.inl ⟨by rfl, by intro w hSw; go_simp⟩) hHeld ?_
    try simp only [Act.put, List.setIfInBounds_toArray, List.set_cons_zero, List.set_cons_succ, List.getElem_toArray, List.getElem_cons_zero, List.getElem_cons_succ]
    refine wpAnyH_take (i := 7) (v := .pointer (some ⟨N, 2, none⟩)) rfl (by kernel_rfl) (by kernel_rfl) (by kernel_rfl) (fun _ _ _ h => h) (Or.inl ⟨by rfl, by intro w hSw; go_simp⟩) hHeld ?_
    try simp only [Act.put, List.setIfInBounds_toArray, List.set_cons_zero, List.set_cons_succ, List.getElem_toArray, List.getElem_cons_zero, List.getElem_cons_succ]
    refine wpAnyH_take (i := 3) (v := .slice so m sc) rfl (by kernel_rfl) (by kernel_rfl) (by kernel_rfl) (fun _ _ _ h => h) (Or.inl ⟨by rfl, by intro w hSw; have q0 := hSw; go_simp⟩) hHeld ?_
    try simp only [Act.put, List.setIfInBounds_toArray, List.set_cons_zero, List.set_cons_succ, List.getElem_toArray, List.getElem_cons_zero, List.getElem_cons_succ]
    refine wpAnyH_take (i := 8) (v := .slice so m sc) rfl (by kernel_rfl) (by kernel_rfl) (by kernel_rfl) (fun _ _ _ h => h) (Or.inl ⟨by rfl, by intro w hSw; have q0 := hSw; go_simp⟩) hHeld ?_
    try simp only [Act.put, List.setIfInBounds_toArray, List.set_cons_zero, List.set_cons_succ, List.getElem_toArray, List.getElem_cons_zero, List.getElem_cons_succ]
    refine wpAnyH_ready (rs := [1]) (by kernel_rfl) (by simp) ?_
    refine AllReadyH.cons rfl (fun K hK => ?_) (AllReadyH.nil)
    go_simp
    have HPa := hid (HPd.out.later ((Below.refl _ _).alloc (Nat.le_refl _) (.cells #[] 5)))
    have HVa := hid (HVd.out.later ((Below.refl _ _).alloc (Nat.le_refl _) (.cells #[] 5)))
    have HRa := hid (HRd.out.later ((Below.refl _ _).alloc (Nat.le_refl _) (.cells #[] 5)))
    refine hK.out _ _ (cell_later ((Below.refl _ _).alloc (Nat.le_refl _) _) hHeld) (fun hHeld => ?_)
    clear hK K
    try simp only [Act.put, List.setIfInBounds_toArray, List.set_cons_zero, List.set_cons_succ, List.getElem_toArray, List.getElem_cons_zero, List.getElem_cons_succ]
    refine wpAnyH_ready (rs := [4]) (by kernel_rfl) (by simp) ?_
    refine AllReadyH.cons rfl (fun K hK => ?_) (AllReadyH.nil)
    refine Eq.mpr (if_pos (by rfl)) ?_
    refine wp_append_any _ _ _ 31 31 rfl 5 i0 (.int .u8 0) Try.underlying31 hi hz0 hz1 hz2 rfl wd.heap.size _ 0 [] rfl (.inr ⟨wd.heap.size, 0, rfl, Nat.le_refl _, Owns.empty _ _⟩) (by simp) _ m (B l) rfl (Src.ofBytes _ Try.underlying31 HLM.out HRa.out) (by omega) ?_
    intro v4 w4 hH4 hb4
    rw [List.nil_append, Nat.zero_add] at hH4
    have Hb4 := hid (((Below.refl wd.heap.size wd).alloc (Nat.le_refl _) (.cells #[] 5)).trans hb4)
    have HP4 := hid (HPd.out.later Hb4.out)
    have HV4 := hid (HVd.out.later Hb4.out)
    have HR4 := hid (HRd.out.later Hb4.out)
    have HH4 := hid hH4.reads
    have HN4 := hid (show N < w4.heap.size from Nat.lt_of_lt_of_le HNd.out Hb4.out.size)
    have hcell4 : w4.cell? ⟨N, 2, none⟩ = some (.slice so m sc) := by
      have := hb4.block N HNd.out
      rw [World.cell?_of_block (w := wd.alloc (.cells #[] 5)) (w' := w4) (a := ⟨N, 2, none⟩) this]
      exact hHeld
    clear hH4 hb4 HPa HVa HRa HPd HVd HRd hHeld
    refine hK.out _ _ (hcell4) (fun hHeld => ?_)
    clear hK K
    try simp only [Act.put, List.setIfInBounds_toArray, List.set_cons_zero, List.set_cons_succ, List.getElem_toArray, List.getElem_cons_zero, List.getElem_cons_succ]
    clear hcell4
    refine wpAnyH_ready (rs := [5]) (by kernel_rfl) (by simp) ?_
    refine AllReadyH.cons rfl (fun K hK => ?_) (AllReadyH.nil)
    go_simp
    refine (kAppend_at HP4.out.kd v4 l HH4.out (by rw [HLM.out]; omega) (s.app l).1 (s.app l).2 rfl).mono ?_
    rintro _ w5 ⟨rfl, hK5, ho⟩
    have HK5 := hid hK5
    have HV5 := hid (HV4.out.kept fun k h1 h2 => ho.block k h2 (by have := HP4.out.dx; omega) (by have := HP4.out.rx; omega))
    have hN5 := HN4.out
    have HR5 := hid (HRO.out w5 hK5.bel)
    have HB5 := hid (show w5.heap[N]? = w4.heap[N]? from ho.block N hN5 (by have := HP4.out.dx; have := HXN.out; omega) (by have := HP4.out.rx; have := HXN.out; omega))
    have hN5' : N < w5.heap.size := Nat.lt_of_lt_of_le hN5 ho.size
    have hcell5 : w5.cell? ⟨N, 2, none⟩ = some (.slice so m sc) := by
      rw [World.cell?_of_block (w := w4) (w' := w5) (a := ⟨N, 2, none⟩) HB5.out]
      exact hHeld
    clear hK5 ho hHeld HR4 HH4 HB5
    refine hK.out _ _ (hcell5) (fun hHeld => ?_)
    clear hK K
    try simp only [Act.put, List.setIfInBounds_toArray, List.set_cons_zero, List.set_cons_succ, List.getElem_toArray, List.getElem_cons_zero, List.getElem_cons_succ]
    clear hcell5
    refine wpAnyH_ready (rs := [9]) (by kernel_rfl) (by simp) ?_
    refine AllReadyH.cons rfl (fun K hK => ?_) (AllReadyH.nil)
    go_simp
    refine (xAppend_any x s bo bcap (.slice so m sc) l _ HV5.out HOK.out HR5.out (by rw [HLM.out]; omega)).mono ?_
    rintro _ w6 ⟨rfl, hR6, hb6, hk6⟩
    have HP6 := hid (HP4.out.stepX HK5.out hR6 hb6)
    have hcell6 : w6.cell? ⟨N, 2, none⟩ = some (.slice so m sc) := by
      rw [World.cell?_of_block (w := w5) (w' := w6) (a := ⟨N, 2, none⟩) (hk6 N hN5' (by have := HXN.out; omega) HBO.out)]
      exact hHeld
    clear hR6 hb6 hk6 hHeld
    refine hK.out _ _ (hcell6) (fun hHeld => ?_)
    clear hK K
    try simp only [Act.put, List.setIfInBounds_toArray, List.set_cons_zero, List.set_cons_succ, List.getElem_toArray, List.getElem_cons_zero, List.getElem_cons_succ]
    clear hcell6
    refine wpAnyH_take (i := 10) (v := .bool true) rfl (by kernel_rfl) (by kernel_rfl) (by kernel_rfl) (fun _ _ _ h => h) (Or.inl ⟨by rfl, by intro w hSw; go_simp⟩) hHeld ?_
    try simp only [Act.put, List.setIfInBounds_toArray, List.set_cons_zero, List.set_cons_succ, List.getElem_toArray, List.getElem_cons_zero, List.getElem_cons_succ]
    refine wpAnyH_ready (rs := [11]) (by kernel_rfl) (by simp) ?_
    refine AllReadyH.cons rfl (fun K hK => ?_) (AllReadyH.nil)
    go_simp
    refine hK.out _ _ (hHeld) (fun hHeld => ?_)
    clear hK K
    try simp only [Act.put, List.setIfInBounds_toArray, List.set_cons_zero, List.set_cons_succ, List.getElem_toArray, List.getElem_cons_zero, List.getElem_cons_succ]
    refine wpAnyH_done (by kernel_rfl) ?_ _
    clear hHeld HRO HP4 HV4 HK5 HV5 HR5 HN4 hN5 hN5'
    go_wp2_with fail
    go_ret
    exact ⟨rfl, _, HP6.out⟩
  · subst e
    go_upto_region 6 with fail
    refine wp_region_held_drew (S := fun w' => w'.cell? ⟨N, 2, none⟩ = some (.slice so m sc)) (by kernel_rfl) (HB2.out.cell rfl) (fun hHeld => ?_)
    have HPd := hid (HP2.out.later ((Below.refl _ _).drew))
    have HVd := hid HV2.out.drew
    have HRd := hid (show Reads w2.drew (.slice so m sc) (B l) from HR2.out.later ((Below.refl _ _).drew))
    have HNd := hid (show N < w2.drew.heap.size from HB2.out.lt)
    clear HP2 HV2 HR2 HB2
    generalize w2.drew = wd at *
    refine wpAnyH_take (i := 0) (v := .pointer (some ⟨d, 0, none⟩)) rfl (by kernel_rfl) (by kernel_rfl) (by kernel_rfl) (fun _ _ _ h => h) (Or.inl ⟨by rfl, by intro w hSw; go_simp⟩) hHeld ?_
    try simp only [Act.put, List.setIfInBounds_toArray, List.set_cons_zero, List.set_cons_succ, List.getElem_toArray, List.getElem_cons_zero, List.getElem_cons_succ]
    refine wpAnyH_take (i := 2) (v := .pointer (some ⟨N, 2, none⟩)) rfl (by kernel_rfl) (by kernel_rfl) (by kernel_rfl) (fun _ _ _ h => h) (Or.inl ⟨by rfl, by intro w hSw; go_simp⟩) hHeld ?_
    try simp only [Act.put, List.setIfInBounds_toArray, List.set_cons_zero, List.set_cons_succ, List.getElem_toArray, List.getElem_cons_zero, List.getElem_cons_succ]
    refine wpAnyH_take (i := 6) (v := .pointer (some ⟨x, 0, none⟩)) rfl (by kernel_rfl) (by kernel_rfl) (by kernel_rfl) (fun _ _ _ h => h) (Or.inl ⟨by rfl, by intro w hSw; go_simp⟩) hHeld ?_
    try simp only [Act.put, List.setIfInBounds_toArray, List.set_cons_zero, List.set_cons_succ, List.getElem_toArray, List.getElem_cons_zero, List.getElem_cons_succ]
    refine wpAnyH_take (i := 7) (v := .pointer (some ⟨N, 2, none⟩)) rfl (by kernel_rfl) (by kernel_rfl) (by kernel_rfl) (fun _ _ _ h => h) (Or.inl ⟨by rfl, by intro w hSw; go_simp⟩) hHeld ?_
    try simp only [Act.put, List.setIfInBounds_toArray, List.set_cons_zero, List.set_cons_succ, List.getElem_toArray, List.getElem_cons_zero, List.getElem_cons_succ]
    refine wpAnyH_take (i := 3) (v := .slice so m sc) rfl (by kernel_rfl) (by kernel_rfl) (by kernel_rfl) (fun _ _ _ h => h) (Or.inl ⟨by rfl, by intro w hSw; have q0 := hSw; go_simp⟩) hHeld ?_
    try simp only [Act.put, List.setIfInBounds_toArray, List.set_cons_zero, List.set_cons_succ, List.getElem_toArray, List.getElem_cons_zero, List.getElem_cons_succ]
    refine wpAnyH_take (i := 8) (v := .slice so m sc) rfl (by kernel_rfl) (by kernel_rfl) (by kernel_rfl) (fun _ _ _ h => h) (Or.inl ⟨by rfl, by intro w hSw; have q0 := hSw; go_simp⟩) hHeld ?_
    try simp only [Act.put, List.setIfInBounds_toArray, List.set_cons_zero, List.set_cons_succ, List.getElem_toArray, List.getElem_cons_zero, List.getElem_cons_succ]
    refine wpAnyH_ready (rs := [1]) (by kernel_rfl) (by simp) ?_
    refine AllReadyH.cons rfl (fun K hK => ?_) (AllReadyH.nil)
    go_simp
    have HPa := hid (HPd.out.later ((Below.refl _ _).alloc (Nat.le_refl _) (.cells #[] 5)))
    have HVa := hid (HVd.out.later ((Below.refl _ _).alloc (Nat.le_refl _) (.cells #[] 5)))
    have HRa := hid (HRd.out.later ((Below.refl _ _).alloc (Nat.le_refl _) (.cells #[] 5)))
    refine hK.out _ _ (cell_later ((Below.refl _ _).alloc (Nat.le_refl _) _) hHeld) (fun hHeld => ?_)
    clear hK K
    try simp only [Act.put, List.setIfInBounds_toArray, List.set_cons_zero, List.set_cons_succ, List.getElem_toArray, List.getElem_cons_zero, List.getElem_cons_succ]
    refine wpAnyH_ready (rs := [4]) (by kernel_rfl) (by simp) ?_
    refine AllReadyH.cons rfl (fun K hK => ?_) (AllReadyH.nil)
    refine Eq.mpr (if_pos (by rfl)) ?_
    refine wp_append_any _ _ _ 31 31 rfl 5 i0 (.int .u8 0) Try.underlying31 hi hz0 hz1 hz2 rfl wd.heap.size _ 0 [] rfl (.inr ⟨wd.heap.size, 0, rfl, Nat.le_refl _, Owns.empty _ _⟩) (by simp) _ m (B l) rfl (Src.ofBytes _ Try.underlying31 HLM.out HRa.out) (by omega) ?_
    intro v4 w4 hH4 hb4
    rw [List.nil_append, Nat.zero_add] at hH4
    have Hb4 := hid (((Below.refl wd.heap.size wd).alloc (Nat.le_refl _) (.cells #[] 5)).trans hb4)
    have HP4 := hid (HPd.out.later Hb4.out)
    have HV4 := hid (HVd.out.later Hb4.out)
    have HR4 := hid (HRd.out.later Hb4.out)
    have HH4 := hid hH4.reads
    have HN4 := hid (show N < w4.heap.size from Nat.lt_of_lt_of_le HNd.out Hb4.out.size)
    have hcell4 : w4.cell? ⟨N, 2, none⟩ = some (.slice so m sc) := by
      have := hb4.block N HNd.out
      rw [World.cell?_of_block (w := wd.alloc (.cells #[] 5)) (w' := w4) (a := ⟨N, 2, none⟩) this]
      exact hHeld
    clear hH4 hb4 HPa HVa HRa HPd HVd HRd hHeld
    refine hK.out _ _ (hcell4) (fun hHeld => ?_)
    clear hK K
    try simp only [Act.put, List.setIfInBounds_toArray, List.set_cons_zero, List.set_cons_succ, List.getElem_toArray, List.getElem_cons_zero, List.getElem_cons_succ]
    clear hcell4
    refine wpAnyH_ready (rs := [5]) (by kernel_rfl) (by simp) ?_
    refine AllReadyH.cons rfl (fun K hK => ?_) (AllReadyH.nil)
    go_simp
    refine (kAppend_at HP4.out.kd v4 l HH4.out (by rw [HLM.out]; omega) (s.app l).1 (s.app l).2 rfl).mono ?_
    rintro _ w5 ⟨rfl, hK5, ho⟩
    have HK5 := hid hK5
    have HV5 := hid (HV4.out.kept fun k h1 h2 => ho.block k h2 (by have := HP4.out.dx; omega) (by have := HP4.out.rx; omega))
    have hN5 := HN4.out
    have HR5 := hid (HRO.out w5 hK5.bel)
    have HB5 := hid (show w5.heap[N]? = w4.heap[N]? from ho.block N hN5 (by have := HP4.out.dx; have := HXN.out; omega) (by have := HP4.out.rx; have := HXN.out; omega))
    have hN5' : N < w5.heap.size := Nat.lt_of_lt_of_le hN5 ho.size
    have hcell5 : w5.cell? ⟨N, 2, none⟩ = some (.slice so m sc) := by
      rw [World.cell?_of_block (w := w4) (w' := w5) (a := ⟨N, 2, none⟩) HB5.out]
      exact hHeld
    clear hK5 ho hHeld HR4 HH4 HB5
    refine hK.out _ _ (hcell5) (fun hHeld => ?_)
    clear hK K
    try simp only [Act.put, List.setIfInBounds_toArray, List.set_cons_zero, List.set_cons_succ, List.getElem_toArray, List.getElem_cons_zero, List.getElem_cons_succ]
    clear hcell5
    refine wpAnyH_ready (rs := [9]) (by kernel_rfl) (by simp) ?_
    refine AllReadyH.cons rfl (fun K hK => ?_) (AllReadyH.nil)
    go_simp
    refine (xAppend_any x s bo bcap (.slice so m sc) l _ HV5.out HOK.out HR5.out (by rw [HLM.out]; omega)).mono ?_
    rintro _ w6 ⟨rfl, hR6, hb6, hk6⟩
    have HP6 := hid (HP4.out.stepX HK5.out hR6 hb6)
    have hcell6 : w6.cell? ⟨N, 2, none⟩ = some (.slice so m sc) := by
      rw [World.cell?_of_block (w := w5) (w' := w6) (a := ⟨N, 2, none⟩) (hk6 N hN5' (by have := HXN.out; omega) HBO.out)]
      exact hHeld
    clear hR6 hb6 hk6 hHeld
    refine hK.out _ _ (hcell6) (fun hHeld => ?_)
    clear hK K
    try simp only [Act.put, List.setIfInBounds_toArray, List.set_cons_zero, List.set_cons_succ, List.getElem_toArray, List.getElem_cons_zero, List.getElem_cons_succ]
    clear hcell6
    refine wpAnyH_take (i := 10) (v := .bool true) rfl (by kernel_rfl) (by kernel_rfl) (by kernel_rfl) (fun _ _ _ h => h) (Or.inl ⟨by rfl, by intro w hSw; go_simp⟩) hHeld ?_
    try simp only [Act.put, List.setIfInBounds_toArray, List.set_cons_zero, List.set_cons_succ, List.getElem_toArray, List.getElem_cons_zero, List.getElem_cons_succ]
    refine wpAnyH_ready (rs := [11]) (by kernel_rfl) (by simp) ?_
    refine AllReadyH.cons rfl (fun K hK => ?_) (AllReadyH.nil)
    go_simp
    refine hK.out _ _ (hHeld) (fun hHeld => ?_)
    clear hK K
    try simp only [Act.put, List.setIfInBounds_toArray, List.set_cons_zero, List.set_cons_succ, List.getElem_toArray, List.getElem_cons_zero, List.getElem_cons_succ]
    refine wpAnyH_done (by kernel_rfl) ?_ _
    clear hHeld HRO HP4 HV4 HK5 HV5 HR5 HN4 hN5 hN5'
    go_wp2_with fail
    go_ret
    exact ⟨rfl, _, HP6.out⟩
  · subst e
    go_wp2_with fail
    refine (kSync_at HP2.out.kd s.sync.1 s.sync.2 rfl).mono ?_
    rintro _ w3 ⟨rfl, hK, ho⟩
    have HK3 := hid hK
    have HR3 := hid (HP2.out.rk.only ho HP2.out.dx HP2.out.rx)
    clear hK ho
    go_wp2_with fail
    refine (xSync_any x s _ HR3.out).mono ?_
    rintro _ w4 ⟨rfl, hR4, hb4⟩
    have HP4 := hid (HP2.out.stepX HK3.out hR4 hb4)
    clear hR4 hb4
    go_wp2_with fail
    go_ret
    exact ⟨rfl, _, HP4.out⟩
  · subst e
    go_wp2_with fail
    refine (kSync_at HP2.out.kd s.sync.1 s.sync.2 rfl).mono ?_
    rintro _ w3 ⟨rfl, hK, ho⟩
    have HK3 := hid hK
    have HR3 := hid (HP2.out.rk.only ho HP2.out.dx HP2.out.rx)
    clear hK ho
    go_wp2_with fail
    refine (xSync_any x s _ HR3.out).mono ?_
    rintro _ w4 ⟨rfl, hR4, hb4⟩
    have HP4 := hid (HP2.out.stepX HK3.out hR4 hb4)
    clear hR4 hb4
    go_wp2_with fail
    go_ret
    exact ⟨rfl, _, HP4.out⟩
  · subst e
    have c1 : w2.cell? ⟨N, 1, none⟩ = some (.int .i64 n) := HB2.out.cell rfl
    have x0 := HV2.out.c0
    have hbl := HOK.out.len
    have hbs := HOK.out.size
    obtain ⟨bl, hbl2⟩ : ∃ bl, s.b.length = bl := ⟨_, rfl⟩
    rw [hbl2] at x0 hbl
    have hbl3 : bl ≤ 65536 := by omega
    obtain ⟨z, hz⟩ : ∃ z, n % ((bl : Int) + 3) = z := ⟨_, rfl⟩
    have hz0 : 0 ≤ z := by rw [← hz]; exact Int.emod_nonneg _ (by omega)
    have hz1 : z ≤ 65539 := by have := Int.emod_lt_of_pos n (b := (bl : Int) + 3) (by omega); omega
    have HW := hid (fun k => within10_any n ((bl : Int) + 3) (by omega) (by omega) (w2.drewN k))
    have HZ := hid hz
    rw [HZ.out] at HW
    clear hz hbl2 hbl hbs
    go_wp2_with fail
    go_quiet (refine Calls.quiet_of_same (HW.out _))
    have HP3 := hid (HP2.out.later (belowDrewN0 w2 nq))
    clear HW c1 x0 HB2 HV2 HR2 HP2
    generalize w2.drewN nq = w3 at *
    go_wp2_with fail
    refine (kCut_at HP3.out.kd (z - 1) (s.cut (z - 1)).1 (s.cut (z - 1)).2 rfl).mono ?_
    rintro _ w4 ⟨rfl, hK, ho⟩
    have HK4 := hid hK
    have HR4 := hid (HP3.out.rk.only ho HP3.out.dx HP3.out.rx)
    clear hK ho
    go_wp2_with fail
    refine (xCut_any x s (z - 1) _ HR4.out).mono ?_
    rintro _ w5 ⟨rfl, hR5, hb5⟩
    have HP5 := hid (HP3.out.stepX HK4.out hR5 hb5)
    clear hR5 hb5
    go_wp2_with fail
    go_ret
    exact ⟨rfl, _, HP5.out⟩
  · subst e
    obtain ⟨z, hz⟩ : ∃ z, n % 6 = z := ⟨_, rfl⟩
    have hz0 : 0 ≤ z := by omega
    have hz1 : z ≤ 5 := by omega
    have HZ := hid hz
    clear hz
    have c1 : w2.cell? ⟨N, 1, none⟩ = some (.int .i64 n) := HB2.out.cell rfl
    go_wp2_with fail
    refine (within10_any n 6 (by omega) (by omega) _).mono ?_
    rintro _ wx ⟨rfl, hwx⟩
    rw [hwx, HZ.out]
    clear hwx wx
    go_wp2_with fail
    refine (kStop_at HP2.out.kd (z - 1) (by omega) (s.stop (z - 1)) rfl).mono ?_
    rintro _ w3 ⟨rfl, hK, ho⟩
    have HK3 := hid hK
    have HR3 := hid (HP2.out.rk.only ho HP2.out.dx HP2.out.rx)
    replace c1 : w3.cell? ⟨N, 1, none⟩ = some (.int .i64 n) := (HB2.out.kept (ho.block N HB2.out.lt (by have := HP2.out.dx; have := HXN.out; omega) (by have := HP2.out.rx; have := HXN.out; omega))).cell rfl
    clear hK ho
    go_wp2_with fail
    refine (within10_any n 6 (by omega) (by omega) _).mono ?_
    rintro _ wx ⟨rfl, hwx⟩
    rw [hwx, HZ.out]
    clear hwx wx
    go_wp2_with fail
    refine (xStop_any x s (z - 1) (by omega) _ HR3.out).mono ?_
    rintro _ w4 ⟨rfl, hR4, hb4⟩
    have HP4 := hid (HP2.out.stepX HK3.out hR4 hb4)
    clear hR4 hb4
    go_wp2_with fail
    go_ret
    exact ⟨rfl, _, HP4.out⟩
  · subst e
    have c1 : w2.cell? ⟨N, 1, none⟩ = some (.int .i64 n) := HB2.out.cell rfl
    go_wp2_with fail
    refine (kCrash_at HP2.out.kd n (s.crash n) rfl).mono ?_
    rintro _ w3 ⟨rfl, hK, ho⟩
    have HK3 := hid hK
    have HR3 := hid (HP2.out.rk.only ho HP2.out.dx HP2.out.rx)
    replace c1 : w3.cell? ⟨N, 1, none⟩ = some (.int .i64 n) := (HB2.out.kept (ho.block N HB2.out.lt (by have := HP2.out.dx; have := HXN.out; omega) (by have := HP2.out.rx; have := HXN.out; omega))).cell rfl
    clear hK ho
    go_wp2_with fail
    refine (xCrash_any x s n _ HR3.out).mono ?_
    rintro _ w4 ⟨rfl, hR4, hb4⟩
    have HP4 := hid (HP2.out.stepX HK3.out hR4 hb4)
    clear hR4 hb4
    go_wp2_with fail
    go_ret
    exact ⟨rfl, _, HP4.out⟩
end Go.Proofs.Ytekcoeckgolhcaa

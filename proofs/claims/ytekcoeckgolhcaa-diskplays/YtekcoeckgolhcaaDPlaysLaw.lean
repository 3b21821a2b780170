/- The law DiskPlays: whatever is appended, synced, cut, wherever the power goes, and whatever stays, it is, and answers, what the document says. -/
import Derived.Test.YtekcoeckgolhcaaDo10
import Derived.BigQuiet
import Derived.Deep.RegionHeld3
import Derived.Deep.DeepCutAuto
namespace Go.Proofs.Ytekcoeckgolhcaa
open Go.RowKit
set_option linter.unusedSimpArgs false
set_option linter.unusedVariables false

set_option maxRecDepth 100000 in
set_option maxHeartbeats 16000000 in
theorem dplays_any (a : Int) (ao : Option Addr) (len cap : Nat) (w : World) (hl : InActs w ao len cap) :
    Calls Try.prog 3 #[.int .i64 a, .slice ao len cap] w fun e w' => e = .returned (.bool true) ∧ Below w.heap.size w w' := by
  obtain ⟨L, hL⟩ : ∃ L, w.heap.size = L := ⟨_, rfl⟩
  have HL := hid hL
  rw [hL]
  clear hL
  have HN := hid hl
  have hle := hl.le
  have hn2 : len ≤ 9223372036854775807 := by have h2 := hl.cap; unfold maxLen at h2; omega
  have HIA := hid (show (Try.prog.info? 33).map (·.size) = some 3 by kernel_rfl)
  clear hl
  go_enter Try.func3, Try.ntmps3
  go_wp2_with fail
  refine (known10_any _).mono ?_
  rintro _ w1 ⟨rfl, hb1⟩
  have Hb1 := hid (show Below L w w1 by rw [← HL.out]; exact hb1)
  have HL1 := hid (show L ≤ w1.heap.size by rw [← HL.out]; exact hb1.size)
  clear hb1
  have HN1 := hid (HN.out.later (by rw [HL.out]; exact Hb1.out))
  go_wp2_with fail
  refine (few10_any ao len cap _ HN1.out).mono ?_
  rintro _ wx ⟨b, rfl, hwx, hF⟩
  rw [hwx]
  clear hwx wx
  cases b with
  | false =>
    go_wp2_with fail
    go_ret
    exact ⟨rfl, Hb1.out⟩
  | true =>
  have HF := hid (hF rfl)
  clear hF
  go_wp2_with fail
  refine (within10_any a 200 (by omega) (by omega) _).mono ?_
  rintro _ wx ⟨rfl, hwx⟩
  rw [hwx]
  clear hwx wx
  obtain ⟨z, hz⟩ : ∃ z, a % 200 = z := ⟨_, rfl⟩
  rw [hz]
  clear hz
  obtain ⟨R, hR⟩ : ∃ R, w1.heap.size = R := ⟨_, rfl⟩
  have HR := hid hR
  rw [hR] at HL1
  clear hR
  go_upto_region 6 with fail
  obtain ⟨w3, hw3⟩ : ∃ w3, w3 = w1.alloc (.cells #[.int .i64 a, .int .i64 z, .int .i64 1000] 3) := ⟨_, rfl⟩
  have HRB := hid (show Blk w3 3 R [.int .i64 a, .int .i64 z, .int .i64 1000] by rw [hw3, ← HR.out]; exact Blk.new w1 _ _)
  have Hb3 := hid (show Below L w w3 by rw [hw3]; exact Hb1.out.alloc (by rw [HR.out]; exact HL1.out) _)
  obtain ⟨L2, hL2⟩ : ∃ L2, R + 1 = L2 := ⟨_, rfl⟩
  have HL2 := hid (show w3.heap.size = L2 ∧ L ≤ L2 ∧ R < L2 by rw [hw3]; have := HR.out; have := HL1.out; exact ⟨by simp; omega, by omega, by omega⟩)
  rw [HR.out, ← hw3]
  clear hw3 hL2 HL1
  go_wp2_with fail
  go_loopw [6] (fun kv wr => ∃ k : Nat, k ≤ 3 ∧ kv = .int .i64 k ∧ Below L2 w3 wr) (fun kv _ => 3 - (intOf kv).toNat)
  case atStart => exact ⟨0, by omega, rfl, Below.refl _ _⟩
  case round =>
    obtain ⟨k, hk, rfl, hb⟩ := hrel
    have HBR := hid hb
    have HLR := hid (show L2 ≤ wr.heap.size by have := hb.size; rw [HL2.out.1] at this; exact this)
    clear hb
    by_cases hk3 : (k : Int) < 3
    · obtain ⟨y, hy⟩ : ∃ y, ([.int .i64 a, .int .i64 z, .int .i64 1000] : List Value)[k]? = some (.int .i64 y) := by
        rcases (show k = 0 ∨ k = 1 ∨ k = 2 by omega) with rfl | rfl | rfl
        · exact ⟨_, rfl⟩
        · exact ⟨_, rfl⟩
        · exact ⟨_, rfl⟩
      have HCK := hid (show ∀ wx, Below wr.heap.size wr wx → wx.cell? ⟨R, k, none⟩ = some (.int .i64 y) from fun wx hx =>
        ((HRB.out.later (by rw [HL2.out.1]; exact HBR.out)).later hx).cell hy)
      clear hy
      go_upto_region 9 with fail
      refine wp_region_held_drew (S := fun w' => Below wr.heap.size wr w') (by kernel_rfl) ((Below.refl _ _).drew) (fun hHeld => ?_)
      generalize wr.drew = wd at *
      refine wpAnyH_take (i := 0) (v := .slice (some ⟨R, 0, none⟩) 3 3) rfl (by kernel_rfl) (by kernel_rfl) (by kernel_rfl) (fun _ _ _ h => h) (Or.inl ⟨by rfl, by intro w hSw; go_simp⟩) hHeld ?_
      try simp only [Act.put, List.setIfInBounds_toArray, List.set_cons_zero, List.set_cons_succ, List.getElem_toArray, List.getElem_cons_zero, List.getElem_cons_succ]
      refine wpAnyH_take (i := 1) (v := .int .i64 (k : Int)) rfl (by kernel_rfl) (by kernel_rfl) (by kernel_rfl) (fun _ _ _ h => h) (Or.inl ⟨by rfl, by intro w hSw; go_simp⟩) hHeld ?_
      try simp only [Act.put, List.setIfInBounds_toArray, List.set_cons_zero, List.set_cons_succ, List.getElem_toArray, List.getElem_cons_zero, List.getElem_cons_succ]
      refine wpAnyH_take (i := 2) (v := .pointer (some ⟨R, k, none⟩)) rfl (by kernel_rfl) (by kernel_rfl) (by kernel_rfl) (fun _ _ _ h => h) (Or.inl ⟨by rfl, by intro w hSw; go_simp⟩) hHeld ?_
      try simp only [Act.put, List.setIfInBounds_toArray, List.set_cons_zero, List.set_cons_succ, List.getElem_toArray, List.getElem_cons_zero, List.getElem_cons_succ]
      refine wpAnyH_take (i := 3) (v := .int .i64 y) rfl (by kernel_rfl) (by kernel_rfl) (by kernel_rfl) (fun _ _ _ h => h) (Or.inl ⟨by rfl, by intro w hSw; have q0 := HCK.out _ hSw; go_simp⟩) hHeld ?_
      try simp only [Act.put, List.setIfInBounds_toArray, List.set_cons_zero, List.set_cons_succ, List.getElem_toArray, List.getElem_cons_zero, List.getElem_cons_succ]
      refine wpAnyH_take (i := 5) (v := .slice (some ⟨R, 0, none⟩) 3 3) rfl (by kernel_rfl) (by kernel_rfl) (by kernel_rfl) (fun _ _ _ h => h) (Or.inl ⟨by rfl, by intro w hSw; go_simp⟩) hHeld ?_
      try simp only [Act.put, List.setIfInBounds_toArray, List.set_cons_zero, List.set_cons_succ, List.getElem_toArray, List.getElem_cons_zero, List.getElem_cons_succ]
      refine wpAnyH_take (i := 6) (v := .int .i64 (k : Int)) rfl (by kernel_rfl) (by kernel_rfl) (by kernel_rfl) (fun _ _ _ h => h) (Or.inl ⟨by rfl, by intro w hSw; go_simp⟩) hHeld ?_
      try simp only [Act.put, List.setIfInBounds_toArray, List.set_cons_zero, List.set_cons_succ, List.getElem_toArray, List.getElem_cons_zero, List.getElem_cons_succ]
      refine wpAnyH_take (i := 7) (v := .pointer (some ⟨R, k, none⟩)) rfl (by kernel_rfl) (by kernel_rfl) (by kernel_rfl) (fun _ _ _ h => h) (Or.inl ⟨by rfl, by intro w hSw; go_simp⟩) hHeld ?_
      try simp only [Act.put, List.setIfInBounds_toArray, List.set_cons_zero, List.set_cons_succ, List.getElem_toArray, List.getElem_cons_zero, List.getElem_cons_succ]
      refine wpAnyH_take (i := 8) (v := .int .i64 y) rfl (by kernel_rfl) (by kernel_rfl) (by kernel_rfl) (fun _ _ _ h => h) (Or.inl ⟨by rfl, by intro w hSw; have q0 := HCK.out _ hSw; go_simp⟩) hHeld ?_
      try simp only [Act.put, List.setIfInBounds_toArray, List.set_cons_zero, List.set_cons_succ, List.getElem_toArray, List.getElem_cons_zero, List.getElem_cons_succ]
      refine wpAnyH_ready (rs := [4]) (by kernel_rfl) (by simp) ?_
      refine AllReadyH.cons rfl (fun K hK => ?_) (AllReadyH.nil)
      go_simp
      refine (kNew_at (L := L2) (w := w3) y (HBR.out.trans (hHeld.mono HLR.out)) (Nat.le_trans HLR.out hHeld.size)).mono ?_
      rintro _ w5 ⟨d, r, rfl, hK, hd, hr, hb5⟩
      have HK5 := hid hK
      have HD5 := hid hK.lt
      have Hb5 := hid (hHeld.trans (hb5.mono hHeld.size))
      clear hK hd hr hb5
      refine hK.out _ _ (Hb5.out) (fun hHeld => ?_)
      clear hK K
      try simp only [Act.put, List.setIfInBounds_toArray, List.set_cons_zero, List.set_cons_succ, List.getElem_toArray, List.getElem_cons_zero, List.getElem_cons_succ]
      refine wpAnyH_ready (rs := [9]) (by kernel_rfl) (by simp) ?_
      refine AllReadyH.cons rfl (fun K hK => ?_) (AllReadyH.nil)
      go_simp
      refine (xNew_any y _).mono ?_
      rintro _ w6 ⟨rfl, hR, hb6⟩
      obtain ⟨x, hx⟩ : ∃ x, w5.heap.size = x := ⟨_, rfl⟩
      have HP6 := hid (show PD L2 w3 w6 d r x (Dk.new y) from ⟨HK5.out.later hb6, by rw [← hx]; exact hR, by have := HD5.out; omega, by have := HD5.out; omega⟩)
      have Hb6 := hid (Hb5.out.trans (hb6.mono Hb5.out.size))
      rw [hx]
      clear hR hb6 hx Hb5
      refine hK.out _ _ (Hb6.out) (fun hHeld => ?_)
      clear hK K
      try simp only [Act.put, List.setIfInBounds_toArray, List.set_cons_zero, List.set_cons_succ, List.getElem_toArray, List.getElem_cons_zero, List.getElem_cons_succ]
      refine wpAnyH_ready (rs := [10]) (by kernel_rfl) (by simp) ?_
      refine AllReadyH.cons rfl (fun K hK => ?_) (AllReadyH.nil)
      go_simp
      refine hK.out _ _ (hHeld) (fun hHeld => ?_)
      clear hK K
      try simp only [Act.put, List.setIfInBounds_toArray, List.set_cons_zero, List.set_cons_succ, List.getElem_toArray, List.getElem_cons_zero, List.getElem_cons_succ]
      refine wpAnyH_ready (rs := [11]) (by kernel_rfl) (by simp) ?_
      refine AllReadyH.cons rfl (fun K hK => ?_) (AllReadyH.nil)
      go_simp
      refine hK.out _ _ (hHeld) (fun hHeld => ?_)
      clear hK K
      try simp only [Act.put, List.setIfInBounds_toArray, List.set_cons_zero, List.set_cons_succ, List.getElem_toArray, List.getElem_cons_zero, List.getElem_cons_succ]
      refine wpAnyH_done (by kernel_rfl) ?_ _
      clear hHeld HK5 HD5 Hb6
      go_wp2_with fail
      go_loopw [9] (fun iv wq => ∃ (j : Nat) (s : Dk), j ≤ len ∧ iv = .int .i64 j ∧ PD L2 w3 wq d r x s) (fun iv _ => len - (intOf iv).toNat)
      case atStart => exact ⟨0, _, Nat.zero_le _, rfl, HP6.out⟩
      case round =>
        obtain ⟨j, s, hj, rfl, hP⟩ := hrel
        have HP := hid hP
        clear hP HP6 HCK
        by_cases hlt : j < len
        · have hlt' : (j : Int) < (len : Int) := by omega
          obtain ⟨kb, off, ka, ma, so, sl, sc, l, rfl, hr, h3, h4, h5, h6, h7⟩ := HN.out.at_ j hlt
          have hsl : sl ≤ 60 := HF.out.2 j hlt kb off so sl sc rfl (rangeAt_later hr (by rw [HL.out]; exact Hb1.out) 2 _ rfl)
          have HBW := hid (show ∀ wx, Below L2 w3 wx → Below L w wx from fun wx hx => Hb3.out.trans (hx.mono HL2.out.2.1))
          have HRG := hid (rangeAt_later hr (by rw [HL.out]; exact HBW.out _ HP.out.kd.bel))
          have HRD := hid (show ∀ wx, Below L2 w3 wx → Reads wx (.slice so sl sc) (B l) from fun wx hx => h6.later (by rw [HL.out]; exact HBW.out _ hx))
          have hwf := wf_i64 h7
          have HLN := hid h3
          clear hr h3 h6 h7 hlt
          go_wp2_with (show wpList _ _ _ (⟨some 42, Op.load _ _, _, _, _, _⟩ :: _) _ _; go_must (refine wpList_load_mid rfl 33 _ rfl kb (off + j * 3) rfl [.int .i64 ka, .int .i64 ma, .slice so sl sc] _ HRG.out Try.underlying33 rfl HIA.out ?_))
          refine (do10_any HP.out ka ma hwf.1 hwf.2 so sl sc l HLN.out hsl HRD.out).mono ?_
          rintro _ w7 ⟨rfl, s2, hP7⟩
          have HP7 := hid hP7
          clear hP7 HP
          go_wp2_with fail
          refine (same10_any HP7.out).mono ?_
          rintro _ w8 ⟨rfl, hP8⟩
          have HP8 := hid hP8
          clear hP8 HP7
          go_wp2_with fail
          go_roundw
          case rel => exact ⟨j + 1, s2, by omega, by go_num, HP8.out⟩
          case measure => simp [intOf]; omega
        · have hj2 : ¬ (j : Int) < (len : Int) := by omega
          go_wp2_with fail
          go_roundw
          case rel => exact ⟨k + 1, by omega, by go_num, HP.out.kd.bel⟩
          case measure => simp [intOf]; omega
    · go_wp2_with fail
      go_ret
      exact ⟨rfl, Hb3.out.trans (HBR.out.mono HL2.out.2.1)⟩
theorem dplays_row (W : World) (a : Int) (wa : (Lit.int .i64 a).wf = true) (ao : Option Addr) (len cap : Nat) (h : InActs W ao len cap) (_u : World) :
    Calls Try.prog 3 #[.int .i64 a, .slice ao len cap] W fun e w' => e = .returned (.bool true) ∧ Below W.heap.size W w' := dplays_any a ao len cap W h
end Go.Proofs.Ytekcoeckgolhcaa

/- The contracts of the second say's OpBytes and Bytes (chapter 8). -/
import Derived.Test.YtinifnpajkldbaaDoorPk4
import Derived.Deep.RegionHeld3
namespace Go.Proofs.YtinifnpajkldbaaDoor
open Go.RowKit
set_option linter.unusedSimpArgs false
set_option linter.unusedVariables false

set_option maxRecDepth 100000 in
set_option maxHeartbeats 4000000 in
theorem rOpBytes_any (v : Value) (o : List Cp) (w : World) (hv : RC w v o) (hf : FewS o) :
    Calls Tryd.prog 56 #[v] w fun e w' => ∃ g cap, e = .returned (.slice (some ⟨g, 0, none⟩) (1 + partsN o) cap) ∧ w.heap.size ≤ g ∧ Owns w' 5 g cap (1 + partsN o) (B (opB o)) ∧ Below w.heap.size w w' := by
  obtain ⟨ao, cap, rfl⟩ := hv.form
  have HV := hid hv
  have HF := hid hf
  have hlen := hf.1
  clear hv hf
  go_enter Tryd.func56, Tryd.ntmps56
  go_wp2_with fail
  refine (fByte_has w.heap.size (.slice none 0 0) 0 [] (o.length : Int) _ (Has.nil _ _ _) (Nat.le_refl _) (by omega)).mono ?_
  rintro _ w1 ⟨v1, rfl, hH1, hb1⟩
  have HH1 := hid (show Has w1 5 w.heap.size v1 (1 + partsN (o.take 0)) (B (i1 o.length ++ (o.take 0).flatMap partB)) by have h := hH1; simp only [List.nil_append, Nat.zero_add] at h; simpa [partsN] using h)
  have Hb1 := hid hb1
  clear hH1 hb1
  go_wp2_with fail
  go_loopw [3, 4] (fun out i wr => ∃ j : Nat, j ≤ o.length ∧ i = .int .i64 j ∧ Has wr 5 w.heap.size out (1 + partsN (o.take j)) (B (i1 o.length ++ (o.take j).flatMap partB)) ∧ Below w.heap.size w wr) (fun _ i _ => o.length - (intOf i).toNat)
  case atStart => exact ⟨0, Nat.zero_le _, rfl, HH1.out, Hb1.out⟩
  case round =>
    obtain ⟨j, hj, rfl, hH, hb⟩ := hrel
    obtain ⟨g, cp, rfl, hg, hO⟩ := hH.owns (by omega)
    have HH := hid hH
    have Hb := hid hb
    clear hH hb hO HH1 Hb1
    by_cases hlt : j < o.length
    · have hlt' : (j : Int) < (o.length : Int) := by omega
      obtain ⟨c, hc⟩ : ∃ c, o[j]? = some c := ⟨_, List.getElem?_eq_getElem hlt⟩
      obtain ⟨ga, off, cap', e, hcap, hr, hga⟩ := HV.out.place (by omega)
      injection e with e1 e2 e3
      subst e1 e3
      obtain ⟨c0, c1, c2⟩ := RC.cells hr hc
      have C0 := hid c0
      have C1 := hid c1
      have C2 := hid c2
      have HS := hid (HF.out.2 c (List.mem_of_getElem? hc))
      have HN := hid (partsN_take hc)
      have HFl := hid (flat_take hc)
      have HB := hid ((HF.out.take (j + 1)).le)
      clear hr hc e2 c0 c1 c2
      obtain ⟨n, hn⟩ : ∃ n, partsN (o.take j) = n := ⟨_, rfl⟩
      rw [hn] at HN HH ⊢
      clear hn
      obtain ⟨ps, hps⟩ : ∃ ps, i1 o.length ++ (o.take j).flatMap partB = ps := ⟨_, rfl⟩
      rw [hps] at HH
      have HPS := hid hps
      have hb2 : n + (11 + c.s.size) ≤ 8050 := by have h1 := HB.out; rw [HN.out] at h1; exact h1
      clear hps
      go_upto_region 5 with fail
      refine wp_region_held_drew (S := fun w' => Below w.heap.size w w') (by kernel_rfl) (Hb.out.drew) (fun hHeld => ?_)
      refine wpAnyH_take (i := 0) (v := .slice (some ⟨g, 0, none⟩) (1 + n) cp) rfl (by kernel_rfl) (by kernel_rfl) (by kernel_rfl) (fun _ _ _ h => h) (Or.inl ⟨by rfl, by intro w hSw; go_simp⟩) hHeld ?_
      try simp only [Act.put, List.setIfInBounds_toArray, List.set_cons_zero, List.set_cons_succ, List.getElem_toArray, List.getElem_cons_zero, List.getElem_cons_succ]
      refine wpAnyH_take (i := 1) (v := .slice (some ⟨ga, off, none⟩) o.length cap) rfl (by kernel_rfl) (by kernel_rfl) (by kernel_rfl) (fun _ _ _ h => h) (Or.inl ⟨by rfl, by intro w hSw; go_simp⟩) hHeld ?_
      try simp only [Act.put, List.setIfInBounds_toArray, List.set_cons_zero, List.set_cons_succ, List.getElem_toArray, List.getElem_cons_zero, List.getElem_cons_succ]
      refine wpAnyH_take (i := 2) (v := .int .i64 j) rfl (by kernel_rfl) (by kernel_rfl) (by kernel_rfl) (fun _ _ _ h => h) (Or.inl ⟨by rfl, by intro w hSw; go_simp⟩) hHeld ?_
      try simp only [Act.put, List.setIfInBounds_toArray, List.set_cons_zero, List.set_cons_succ, List.getElem_toArray, List.getElem_cons_zero, List.getElem_cons_succ]
      refine wpAnyH_take (i := 3) (v := .pointer (some ⟨ga, off + j * 3, none⟩)) rfl (by kernel_rfl) (by kernel_rfl) (by kernel_rfl) (fun _ _ _ h => h) (Or.inl ⟨by rfl, by intro w hSw; go_simp⟩) hHeld ?_
      try simp only [Act.put, List.setIfInBounds_toArray, List.set_cons_zero, List.set_cons_succ, List.getElem_toArray, List.getElem_cons_zero, List.getElem_cons_succ]
      refine wpAnyH_take (i := 4) (v := .pointer (some ⟨ga, off + j * 3, none⟩)) rfl (by kernel_rfl) (by kernel_rfl) (by kernel_rfl) (fun _ _ _ h => h) (Or.inl ⟨by rfl, by intro w hSw; go_simp⟩) hHeld ?_
      try simp only [Act.put, List.setIfInBounds_toArray, List.set_cons_zero, List.set_cons_succ, List.getElem_toArray, List.getElem_cons_zero, List.getElem_cons_succ]
      refine wpAnyH_take (i := 5) (v := .int .i64 c.k) rfl (by kernel_rfl) (by kernel_rfl) (by kernel_rfl) (fun _ _ _ h => h) (Or.inl ⟨by rfl, by intro w hSw; have q := cell_later hSw C0.out; go_simp⟩) hHeld ?_
      try simp only [Act.put, List.setIfInBounds_toArray, List.set_cons_zero, List.set_cons_succ, List.getElem_toArray, List.getElem_cons_zero, List.getElem_cons_succ]
      refine wpAnyH_take (i := 7) (v := .slice (some ⟨ga, off, none⟩) o.length cap) rfl (by kernel_rfl) (by kernel_rfl) (by kernel_rfl) (fun _ _ _ h => h) (Or.inl ⟨by rfl, by intro w hSw; go_simp⟩) hHeld ?_
      try simp only [Act.put, List.setIfInBounds_toArray, List.set_cons_zero, List.set_cons_succ, List.getElem_toArray, List.getElem_cons_zero, List.getElem_cons_succ]
      refine wpAnyH_take (i := 8) (v := .int .i64 j) rfl (by kernel_rfl) (by kernel_rfl) (by kernel_rfl) (fun _ _ _ h => h) (Or.inl ⟨by rfl, by intro w hSw; go_simp⟩) hHeld ?_
      try simp only [Act.put, List.setIfInBounds_toArray, List.set_cons_zero, List.set_cons_succ, List.getElem_toArray, List.getElem_cons_zero, List.getElem_cons_succ]
      refine wpAnyH_take (i := 9) (v := .pointer (some ⟨ga, off + j * 3, none⟩)) rfl (by kernel_rfl) (by kernel_rfl) (by kernel_rfl) (fun _ _ _ h => h) (Or.inl ⟨by rfl, by intro w hSw; go_simp⟩) hHeld ?_
      try simp only [Act.put, List.setIfInBounds_toArray, List.set_cons_zero, List.set_cons_succ, List.getElem_toArray, List.getElem_cons_zero, List.getElem_cons_succ]
      refine wpAnyH_take (i := 10) (v := .pointer (some ⟨ga, off + j * 3 + 1, none⟩)) rfl (by kernel_rfl) (by kernel_rfl) (by kernel_rfl) (fun _ _ _ h => h) (Or.inl ⟨by rfl, by intro w hSw; go_simp⟩) hHeld ?_
      try simp only [Act.put, List.setIfInBounds_toArray, List.set_cons_zero, List.set_cons_succ, List.getElem_toArray, List.getElem_cons_zero, List.getElem_cons_succ]
      refine wpAnyH_take (i := 11) (v := .int .i64 c.n) rfl (by kernel_rfl) (by kernel_rfl) (by kernel_rfl) (fun _ _ _ h => h) (Or.inl ⟨by rfl, by intro w hSw; have q := cell_later hSw C1.out; go_simp⟩) hHeld ?_
      try simp only [Act.put, List.setIfInBounds_toArray, List.set_cons_zero, List.set_cons_succ, List.getElem_toArray, List.getElem_cons_zero, List.getElem_cons_succ]
      refine wpAnyH_take (i := 13) (v := .slice (some ⟨ga, off, none⟩) o.length cap) rfl (by kernel_rfl) (by kernel_rfl) (by kernel_rfl) (fun _ _ _ h => h) (Or.inl ⟨by rfl, by intro w hSw; go_simp⟩) hHeld ?_
      try simp only [Act.put, List.setIfInBounds_toArray, List.set_cons_zero, List.set_cons_succ, List.getElem_toArray, List.getElem_cons_zero, List.getElem_cons_succ]
      refine wpAnyH_take (i := 14) (v := .int .i64 j) rfl (by kernel_rfl) (by kernel_rfl) (by kernel_rfl) (fun _ _ _ h => h) (Or.inl ⟨by rfl, by intro w hSw; go_simp⟩) hHeld ?_
      try simp only [Act.put, List.setIfInBounds_toArray, List.set_cons_zero, List.set_cons_succ, List.getElem_toArray, List.getElem_cons_zero, List.getElem_cons_succ]
      refine wpAnyH_take (i := 15) (v := .pointer (some ⟨ga, off + j * 3, none⟩)) rfl (by kernel_rfl) (by kernel_rfl) (by kernel_rfl) (fun _ _ _ h => h) (Or.inl ⟨by rfl, by intro w hSw; go_simp⟩) hHeld ?_
      try simp only [Act.put, List.setIfInBounds_toArray, List.set_cons_zero, List.set_cons_succ, List.getElem_toArray, List.getElem_cons_zero, List.getElem_cons_succ]
      refine wpAnyH_take (i := 16) (v := .pointer (some ⟨ga, off + j * 3 + 2, none⟩)) rfl (by kernel_rfl) (by kernel_rfl) (by kernel_rfl) (fun _ _ _ h => h) (Or.inl ⟨by rfl, by intro w hSw; go_simp⟩) hHeld ?_
      try simp only [Act.put, List.setIfInBounds_toArray, List.set_cons_zero, List.set_cons_succ, List.getElem_toArray, List.getElem_cons_zero, List.getElem_cons_succ]
      refine wpAnyH_take (i := 17) (v := .string c.s) rfl (by kernel_rfl) (by kernel_rfl) (by kernel_rfl) (fun _ _ _ h => h) (Or.inl ⟨by rfl, by intro w hSw; have q := cell_later hSw C2.out; go_simp⟩) hHeld ?_
      try simp only [Act.put, List.setIfInBounds_toArray, List.set_cons_zero, List.set_cons_succ, List.getElem_toArray, List.getElem_cons_zero, List.getElem_cons_succ]
      refine wpAnyH_ready (rs := [6]) (by kernel_rfl) (by simp) ?_
      refine AllReadyH.cons rfl (fun K hK => ?_) AllReadyH.nil
      go_simp
      refine (fByte_has w.heap.size _ (1 + n) ps c.k _ (show Has wr.drew _ _ _ _ _ from HH.out) hHeld.size (by omega)).mono ?_
      rintro _ w2 ⟨v2, rfl, hH2, hb2⟩
      obtain ⟨g2, cp2, rfl, hg2, hO2⟩ := hH2.owns (by omega)
      refine hK.out _ _ (hHeld.trans hb2) (fun hHeld => ?_)
      clear hK K
      try simp only [Act.put, List.setIfInBounds_toArray, List.set_cons_zero, List.set_cons_succ, List.getElem_toArray, List.getElem_cons_zero, List.getElem_cons_succ]
      have HH2 := hid hH2
      have hz2 := hHeld.size
      clear hH2 hb2 hO2
      refine wpAnyH_ready (rs := [12]) (by kernel_rfl) (by simp) ?_
      refine AllReadyH.cons rfl (fun K hK => ?_) AllReadyH.nil
      go_simp
      refine (fInt_has w.heap.size _ (1 + n + 1) (ps ++ i1 c.k) c.n _ HH2.out hz2 (by omega)).mono ?_
      rintro _ w3 ⟨v3, rfl, hH3, hb3⟩
      obtain ⟨g3, cp3, rfl, hg3, hO3⟩ := hH3.owns (by omega)
      refine hK.out _ _ (hHeld.trans hb3) (fun hHeld => ?_)
      clear hK K
      try simp only [Act.put, List.setIfInBounds_toArray, List.set_cons_zero, List.set_cons_succ, List.getElem_toArray, List.getElem_cons_zero, List.getElem_cons_succ]
      have HO3 := hid hO3
      have HG3 := hid hg3
      have hz3 := hHeld.size
      clear hH3 hb3 hO3 HH2
      refine wpAnyH_ready (rs := [18]) (by kernel_rfl) (by simp) ?_
      refine AllReadyH.cons rfl (fun K hK => ?_) AllReadyH.nil
      go_simp
      refine (fText_has w.heap.size g3 cp3 (1 + n + 1 + 8) (ps ++ i1 c.k ++ i8 c.n) c.s _ HO3.out HG3.out hz3 (by have := HS.out; omega) (by omega)).mono ?_
      rintro _ w4 ⟨v4, rfl, hH4, hb4⟩
      obtain ⟨g4, cp4, rfl, hg4, hO4⟩ := hH4.owns (by omega)
      refine hK.out _ _ (hHeld.trans hb4) (fun hHeld => ?_)
      clear hK K
      try simp only [Act.put, List.setIfInBounds_toArray, List.set_cons_zero, List.set_cons_succ, List.getElem_toArray, List.getElem_cons_zero, List.getElem_cons_succ]
      have HH4 := hid hH4
      clear hH4 hb4 hO4
      have Hb4 := hid hHeld
      refine wpAnyH_take (i := 19) (v := .slice (some ⟨g4, 0, none⟩) (1 + n + 1 + 8 + 2 + c.s.size) cp4) rfl (by kernel_rfl) (by kernel_rfl) (by kernel_rfl) (fun _ _ _ h => h) (Or.inl ⟨by rfl, by intro w hSw; go_simp⟩) hHeld ?_
      try simp only [Act.put, List.setIfInBounds_toArray, List.set_cons_zero, List.set_cons_succ, List.getElem_toArray, List.getElem_cons_zero, List.getElem_cons_succ]
      refine wpAnyH_done (by kernel_rfl) ?_ _
      go_wp2_with fail
      go_roundw
      case rel =>
        have hN : 1 + n + 1 + 8 + 2 + c.s.size = 1 + partsN (o.take (j + 1)) := by rw [HN.out]; omega
        refine ⟨j + 1, by omega, by go_num, ?_, Hb4.out⟩
        have h := HH4.out
        rw [hN] at h
        rw [hN, HFl.out, ← List.append_assoc, HPS.out, partB]
        simpa only [List.append_assoc] using h
      case measure => simp [intOf]; omega
    · have hj2 : j = o.length := by omega
      subst hj2
      have HT := hid (List.take_length (l := o))
      rw [HT.out] at HH ⊢
      go_wp2_with fail
      go_ret
      obtain ⟨g', cp', e, hg', hO'⟩ := HH.out.owns (by omega)
      injection e with e1 e2 e3
      injection e1 with e1
      injection e1 with e1
      subst e1 e3
      exact ⟨g, cp, rfl, hg', hO', Hb.out⟩

set_option maxRecDepth 100000 in
set_option maxHeartbeats 4000000 in
theorem rBytes_any (d : Dl) (hd : d.h.length = 32) (v : Value) (o : List Cp) (w : World) (hv : RC w v o) (hf : FewS o) :
    Calls Tryd.prog 29 #[.agg (d.cells v).toArray] w fun e w' => ∃ g cap, e = .returned (.slice (some ⟨g, 0, none⟩) (84 + partsN o) cap) ∧ w.heap.size ≤ g ∧ Owns w' 5 g cap (84 + partsN o) (B (dB d o)) ∧ Below w.heap.size w w' := by
  obtain ⟨i0, hi, hz0, hz1, hz2⟩ := info_parts Tryd.infoByte
  obtain ⟨ao, cap, rfl⟩ := hv.form
  obtain ⟨cs, hcs⟩ : ∃ cs, d.cells (.slice ao o.length cap) = cs := ⟨_, rfl⟩
  rw [hcs]
  have HCS := hid hcs
  have HV := hid hv
  have HF := hid hf
  have HD := hid hd
  have HP := hid hf.le
  obtain ⟨L, hL⟩ : ∃ L, w.heap.size = L := ⟨_, rfl⟩
  clear hcs hv hf hd
  go_enter Tryd.func29, Tryd.ntmps29
  go_upto_region 1 with ((show wpList _ _ _ (⟨some 1, Op.box _ _, _, _, _, _⟩ :: _) _ _; go_must (refine wpList_box_blk rfl 30 _ rfl cs rfl L hL ?_); intro w1 hB1 hb1 hs1; rw [← HCS.out] at hB1; have HW := hid (DW.mk HD.out hB1); clear hB1; replace hb1 := hid hb1))
  have HS := hid (show L + 1 ≤ w1.heap.size by omega)
  clear hs1
  have HZ := HS
  have HHeld := hid (show DW w1.drew 30 L d (.slice ao o.length cap) ∧ Below L w w1.drew from ⟨HW.out.kept rfl, hb1.out.drew⟩)
  clear HW hb1 HS
  refine wp_region_held_drew (S := fun w' => DW w' 30 L d (.slice ao o.length cap) ∧ Below L w w') (by kernel_rfl) (HHeld.out) (fun hHeld => ?_)
  refine wpAnyH_take (i := 0) (v := .pointer (some ⟨L, 0, none⟩)) rfl (by kernel_rfl) (by kernel_rfl) (by kernel_rfl) (fun _ _ _ h => h) (Or.inl ⟨by rfl, by intro w hSw; go_simp⟩) hHeld ?_
  try simp only [Act.put, List.setIfInBounds_toArray, List.set_cons_zero, List.set_cons_succ, List.getElem_toArray, List.getElem_cons_zero, List.getElem_cons_succ]
  refine wpAnyH_take (i := 1) (v := .pointer (some ⟨L, 0, none⟩)) rfl (by kernel_rfl) (by kernel_rfl) (by kernel_rfl) (fun _ _ _ h => h) (Or.inl ⟨by rfl, by intro w hSw; go_simp⟩) hHeld ?_
  try simp only [Act.put, List.setIfInBounds_toArray, List.set_cons_zero, List.set_cons_succ, List.getElem_toArray, List.getElem_cons_zero, List.getElem_cons_succ]
  refine wpAnyH_take (i := 2) (v := .int .i64 d.aD) rfl (by kernel_rfl) (by kernel_rfl) (by kernel_rfl) (fun _ _ _ h => h) (Or.inl ⟨by rfl, by intro w hSw; have q := hSw.1.cells.1; go_simp⟩) hHeld ?_
  try simp only [Act.put, List.setIfInBounds_toArray, List.set_cons_zero, List.set_cons_succ, List.getElem_toArray, List.getElem_cons_zero, List.getElem_cons_succ]
  refine wpAnyH_take (i := 4) (v := .pointer (some ⟨L, 0, none⟩)) rfl (by kernel_rfl) (by kernel_rfl) (by kernel_rfl) (fun _ _ _ h => h) (Or.inl ⟨by rfl, by intro w hSw; go_simp⟩) hHeld ?_
  try simp only [Act.put, List.setIfInBounds_toArray, List.set_cons_zero, List.set_cons_succ, List.getElem_toArray, List.getElem_cons_zero, List.getElem_cons_succ]
  refine wpAnyH_take (i := 5) (v := .pointer (some ⟨L, 1, none⟩)) rfl (by kernel_rfl) (by kernel_rfl) (by kernel_rfl) (fun _ _ _ h => h) (Or.inl ⟨by rfl, by intro w hSw; go_simp⟩) hHeld ?_
  try simp only [Act.put, List.setIfInBounds_toArray, List.set_cons_zero, List.set_cons_succ, List.getElem_toArray, List.getElem_cons_zero, List.getElem_cons_succ]
  refine wpAnyH_take (i := 6) (v := .int .i64 d.aU) rfl (by kernel_rfl) (by kernel_rfl) (by kernel_rfl) (fun _ _ _ h => h) (Or.inl ⟨by rfl, by intro w hSw; have q := hSw.1.cells.2.1; go_simp⟩) hHeld ?_
  try simp only [Act.put, List.setIfInBounds_toArray, List.set_cons_zero, List.set_cons_succ, List.getElem_toArray, List.getElem_cons_zero, List.getElem_cons_succ]
  refine wpAnyH_ready (rs := [3]) (by kernel_rfl) (by simp) ?_
  refine AllReadyH.cons rfl (fun K hK => ?_) AllReadyH.nil
  go_simp
  refine (fInt_has (L + 1) (.slice none 0 0) (0) ([]) d.aD _ (Has.nil _ _ _) (show L + 1 ≤ w1.drew.heap.size from HZ.out) (by have := HP.out; omega)).mono ?_
  rintro _ w2 ⟨v2, rfl, hH2, hb2⟩
  obtain ⟨g2, cp2, rfl, hg2, hO2⟩ := hH2.owns (by omega)
  refine hK.out _ _ (⟨hHeld.1.kept (hb2.block L (by omega)), hHeld.2.trans (hb2.mono (by omega))⟩) (fun hHeld => ?_)
  clear hK K
  try simp only [Act.put, List.setIfInBounds_toArray, List.set_cons_zero, List.set_cons_succ, List.getElem_toArray, List.getElem_cons_zero, List.getElem_cons_succ]
  have HH2 := hid hH2
  have HZ := hid (show L + 1 ≤ w2.heap.size by have h1 := hb2.size; have h2 := HZ.out; exact Nat.le_trans h2 h1)
  clear hH2 hb2 hO2 hg2
  refine wpAnyH_ready (rs := [7]) (by kernel_rfl) (by simp) ?_
  refine AllReadyH.cons rfl (fun K hK => ?_) AllReadyH.nil
  go_simp
  refine (fInt_has (L + 1) _ (0 + 8) ([] ++ i8 d.aD) d.aU _ HH2.out HZ.out (by have := HP.out; omega)).mono ?_
  rintro _ w3 ⟨v3, rfl, hH3, hb3⟩
  obtain ⟨g3, cp3, rfl, hg3, hO3⟩ := hH3.owns (by omega)
  refine hK.out _ _ (⟨hHeld.1.kept (hb3.block L (by omega)), hHeld.2.trans (hb3.mono (by omega))⟩) (fun hHeld => ?_)
  clear hK K
  try simp only [Act.put, List.setIfInBounds_toArray, List.set_cons_zero, List.set_cons_succ, List.getElem_toArray, List.getElem_cons_zero, List.getElem_cons_succ]
  have HH3 := hid hH3
  have HZ := hid (show L + 1 ≤ w3.heap.size by have h1 := hb3.size; have h2 := HZ.out; exact Nat.le_trans h2 h1)
  clear hH3 hb3 hO3 hg3
  refine wpAnyH_take (i := 8) (v := .slice (some ⟨g3, 0, none⟩) (0 + 8 + 8) cp3) rfl (by kernel_rfl) (by kernel_rfl) (by kernel_rfl) (fun _ _ _ h => h) (Or.inl ⟨by rfl, by intro w hSw; go_simp⟩) hHeld ?_
  try simp only [Act.put, List.setIfInBounds_toArray, List.set_cons_zero, List.set_cons_succ, List.getElem_toArray, List.getElem_cons_zero, List.getElem_cons_succ]
  replace HHeld := hid hHeld
  clear hHeld HH2
  refine wpAnyH_done (by kernel_rfl) ?_ _
  go_upto_region 2 with fail
  replace HHeld := hid (show DW w3.drew 30 L d (.slice ao o.length cap) ∧ Below L w w3.drew from ⟨HHeld.out.1.kept rfl, HHeld.out.2.drew⟩)
  refine wp_region_held_drew (S := fun w' => DW w' 30 L d (.slice ao o.length cap) ∧ Below L w w') (by kernel_rfl) (HHeld.out) (fun hHeld => ?_)
  refine wpAnyH_take (i := 0) (v := .slice (some ⟨g3, 0, none⟩) (0 + 8 + 8) cp3) rfl (by kernel_rfl) (by kernel_rfl) (by kernel_rfl) (fun _ _ _ h => h) (Or.inl ⟨by rfl, by intro w hSw; go_simp⟩) hHeld ?_
  try simp only [Act.put, List.setIfInBounds_toArray, List.set_cons_zero, List.set_cons_succ, List.getElem_toArray, List.getElem_cons_zero, List.getElem_cons_succ]
  refine wpAnyH_take (i := 1) (v := .pointer (some ⟨L, 2, none⟩)) rfl (by kernel_rfl) (by kernel_rfl) (by kernel_rfl) (fun _ _ _ h => h) (Or.inl ⟨by rfl, by intro w hSw; go_simp⟩) hHeld ?_
  try simp only [Act.put, List.setIfInBounds_toArray, List.set_cons_zero, List.set_cons_succ, List.getElem_toArray, List.getElem_cons_zero, List.getElem_cons_succ]
  refine wpAnyH_take (i := 2) (v := .int .i64 d.id) rfl (by kernel_rfl) (by kernel_rfl) (by kernel_rfl) (fun _ _ _ h => h) (Or.inl ⟨by rfl, by intro w hSw; have q := hSw.1.cells.2.2.1; go_simp⟩) hHeld ?_
  try simp only [Act.put, List.setIfInBounds_toArray, List.set_cons_zero, List.set_cons_succ, List.getElem_toArray, List.getElem_cons_zero, List.getElem_cons_succ]
  refine wpAnyH_take (i := 4) (v := .pointer (some ⟨L, 3, none⟩)) rfl (by kernel_rfl) (by kernel_rfl) (by kernel_rfl) (fun _ _ _ h => h) (Or.inl ⟨by rfl, by intro w hSw; go_simp⟩) hHeld ?_
  try simp only [Act.put, List.setIfInBounds_toArray, List.set_cons_zero, List.set_cons_succ, List.getElem_toArray, List.getElem_cons_zero, List.getElem_cons_succ]
  refine wpAnyH_take (i := 5) (v := .int .i64 d.ver) rfl (by kernel_rfl) (by kernel_rfl) (by kernel_rfl) (fun _ _ _ h => h) (Or.inl ⟨by rfl, by intro w hSw; have q := hSw.1.cells.2.2.2.1; go_simp⟩) hHeld ?_
  try simp only [Act.put, List.setIfInBounds_toArray, List.set_cons_zero, List.set_cons_succ, List.getElem_toArray, List.getElem_cons_zero, List.getElem_cons_succ]
  refine wpAnyH_ready (rs := [3]) (by kernel_rfl) (by simp) ?_
  refine AllReadyH.cons rfl (fun K hK => ?_) AllReadyH.nil
  go_simp
  refine (fInt_has (L + 1) _ (0 + 8 + 8) ([] ++ i8 d.aD ++ i8 d.aU) d.id _ (show Has w3.drew _ _ _ _ _ from HH3.out) (show L + 1 ≤ w3.drew.heap.size from HZ.out) (by have := HP.out; omega)).mono ?_
  rintro _ w4 ⟨v4, rfl, hH4, hb4⟩
  obtain ⟨g4, cp4, rfl, hg4, hO4⟩ := hH4.owns (by omega)
  refine hK.out _ _ (⟨hHeld.1.kept (hb4.block L (by omega)), hHeld.2.trans (hb4.mono (by omega))⟩) (fun hHeld => ?_)
  clear hK K
  try simp only [Act.put, List.setIfInBounds_toArray, List.set_cons_zero, List.set_cons_succ, List.getElem_toArray, List.getElem_cons_zero, List.getElem_cons_succ]
  have HH4 := hid hH4
  have HZ := hid (show L + 1 ≤ w4.heap.size by have h1 := hb4.size; have h2 := HZ.out; exact Nat.le_trans h2 h1)
  clear hH4 hb4 hO4 hg4
  refine wpAnyH_ready (rs := [6]) (by kernel_rfl) (by simp) ?_
  refine AllReadyH.cons rfl (fun K hK => ?_) AllReadyH.nil
  go_simp
  refine (fInt_has (L + 1) _ (0 + 8 + 8 + 8) ([] ++ i8 d.aD ++ i8 d.aU ++ i8 d.id) d.ver _ HH4.out HZ.out (by have := HP.out; omega)).mono ?_
  rintro _ w5 ⟨v5, rfl, hH5, hb5⟩
  obtain ⟨g5, cp5, rfl, hg5, hO5⟩ := hH5.owns (by omega)
  refine hK.out _ _ (⟨hHeld.1.kept (hb5.block L (by omega)), hHeld.2.trans (hb5.mono (by omega))⟩) (fun hHeld => ?_)
  clear hK K
  try simp only [Act.put, List.setIfInBounds_toArray, List.set_cons_zero, List.set_cons_succ, List.getElem_toArray, List.getElem_cons_zero, List.getElem_cons_succ]
  have HH5 := hid hH5
  have HZ := hid (show L + 1 ≤ w5.heap.size by have h1 := hb5.size; have h2 := HZ.out; exact Nat.le_trans h2 h1)
  clear hH5 hb5 hO5 hg5
  refine wpAnyH_take (i := 7) (v := .slice (some ⟨g5, 0, none⟩) (0 + 8 + 8 + 8 + 8) cp5) rfl (by kernel_rfl) (by kernel_rfl) (by kernel_rfl) (fun _ _ _ h => h) (Or.inl ⟨by rfl, by intro w hSw; go_simp⟩) hHeld ?_
  try simp only [Act.put, List.setIfInBounds_toArray, List.set_cons_zero, List.set_cons_succ, List.getElem_toArray, List.getElem_cons_zero, List.getElem_cons_succ]
  replace HHeld := hid hHeld
  clear hHeld HH3 HH4
  refine wpAnyH_done (by kernel_rfl) ?_ _
  have HO5 := hid (show Owns w5 5 g5 cp5 (0 + 8 + 8 + 8 + 8) (B ([] ++ i8 d.aD ++ i8 d.aU ++ i8 d.id ++ i8 d.ver)) ∧ L < g5 by
    obtain ⟨g', c', e, h1, h2⟩ := HH5.out.owns (by omega)
    injection e with e1 e2 e3
    injection e1 with e1
    injection e1 with e1
    subst e1 e3
    exact ⟨h2, h1⟩)
  clear HH5
  have HSr := hid (show Src Tryd.prog 1 22 (.slice (some ⟨L, 4, none⟩) 32 32) 32 (B d.h) w5 from
    Src.ofSlice w5 Tryd.underlying22 ⟨L, 4, none⟩ 32 32 (B d.h) (by rw [B_length, HD.out]) (fun j u hj => by rw [Addr.add_lit]; exact HHeld.out.1.hash j u hj) (B_one _))
  go_upto_region 4 with (at_builtin; go_must (refine wpList_append_src _ rfl _ _ 22 22 rfl 5 i0 (.int .u8 0) Tryd.underlying22 hi hz0 hz1 hz2 rfl g5 cp5 (0 + 8 + 8 + 8 + 8) _ rfl HO5.out.1 _ 32 (B d.h) rfl HSr.out (by omega) ?_); intro g6 cp6 w6 hG6)
  have HO6 := hid (show Has w6 5 (L + 1) (.slice (some ⟨g6, 0, none⟩) (0 + 8 + 8 + 8 + 8 + 32) cp6) (0 + 8 + 8 + 8 + 8 + 32) (B ([] ++ i8 d.aD ++ i8 d.aU ++ i8 d.id ++ i8 d.ver ++ d.h)) by
    rw [B_append]
    exact .inr ⟨g6, cp6, rfl, by rcases hG6.blk with ⟨rfl, _⟩ | hb; exact HO5.out.2; have := HZ.out; omega, hG6.own⟩)
  have HHeld2 := hid (show DW w6.drew 30 L d (.slice ao o.length cap) ∧ Below L w w6.drew from ⟨(HHeld.out.1.grown hG6.grown (by intro e; cases e; have := HO5.out.2; omega)).kept rfl, (hG6.below HHeld.out.2 (Nat.le_of_lt HO5.out.2)).drew⟩)
  have HZ2 := hid (show L + 1 ≤ w6.heap.size by have := hG6.grown.size; have := HZ.out; omega)
  clear hG6 HSr HO5 HHeld HZ
  have HHeld := HHeld2
  have HZ := HZ2
  clear HHeld2 HZ2
  refine wp_region_held_drew (S := fun w' => DW w' 30 L d (.slice ao o.length cap) ∧ Below L w w') (by kernel_rfl) (HHeld.out) (fun hHeld => ?_)
  refine wpAnyH_take (i := 0) (v := .slice (some ⟨g6, 0, none⟩) (0 + 8 + 8 + 8 + 8 + 32) cp6) rfl (by kernel_rfl) (by kernel_rfl) (by kernel_rfl) (fun _ _ _ h => h) (Or.inl ⟨by rfl, by intro w hSw; go_simp⟩) hHeld ?_
  try simp only [Act.put, List.setIfInBounds_toArray, List.set_cons_zero, List.set_cons_succ, List.getElem_toArray, List.getElem_cons_zero, List.getElem_cons_succ]
  refine wpAnyH_take (i := 1) (v := .pointer (some ⟨L, 36, none⟩)) rfl (by kernel_rfl) (by kernel_rfl) (by kernel_rfl) (fun _ _ _ h => h) (Or.inl ⟨by rfl, by intro w hSw; go_simp⟩) hHeld ?_
  try simp only [Act.put, List.setIfInBounds_toArray, List.set_cons_zero, List.set_cons_succ, List.getElem_toArray, List.getElem_cons_zero, List.getElem_cons_succ]
  refine wpAnyH_take (i := 2) (v := .int .i64 d.k) rfl (by kernel_rfl) (by kernel_rfl) (by kernel_rfl) (fun _ _ _ h => h) (Or.inl ⟨by rfl, by intro w hSw; have q := hSw.1.cells.2.2.2.2.1; go_simp⟩) hHeld ?_
  try simp only [Act.put, List.setIfInBounds_toArray, List.set_cons_zero, List.set_cons_succ, List.getElem_toArray, List.getElem_cons_zero, List.getElem_cons_succ]
  refine wpAnyH_take (i := 4) (v := .pointer (some ⟨L, 37, none⟩)) rfl (by kernel_rfl) (by kernel_rfl) (by kernel_rfl) (fun _ _ _ h => h) (Or.inl ⟨by rfl, by intro w hSw; go_simp⟩) hHeld ?_
  try simp only [Act.put, List.setIfInBounds_toArray, List.set_cons_zero, List.set_cons_succ, List.getElem_toArray, List.getElem_cons_zero, List.getElem_cons_succ]
  refine wpAnyH_take (i := 5) (v := .slice ao o.length cap) rfl (by kernel_rfl) (by kernel_rfl) (by kernel_rfl) (fun _ _ _ h => h) (Or.inl ⟨by rfl, by intro w hSw; have q := hSw.1.cells.2.2.2.2.2.1; go_simp⟩) hHeld ?_
  try simp only [Act.put, List.setIfInBounds_toArray, List.set_cons_zero, List.set_cons_succ, List.getElem_toArray, List.getElem_cons_zero, List.getElem_cons_succ]
  refine wpAnyH_ready (rs := [3]) (by kernel_rfl) (by simp) ?_
  refine AllReadyH.cons rfl (fun K hK => ?_) AllReadyH.nil
  go_simp
  refine (fByte_has (L + 1) _ (0 + 8 + 8 + 8 + 8 + 32) ([] ++ i8 d.aD ++ i8 d.aU ++ i8 d.id ++ i8 d.ver ++ d.h) d.k _ (show Has w6.drew _ _ _ _ _ from HO6.out) (show L + 1 ≤ w6.drew.heap.size from HZ.out) (by omega)).mono ?_
  rintro _ w7 ⟨v7, rfl, hH7, hb7⟩
  obtain ⟨g7, cp7, rfl, hg7, hO7⟩ := hH7.owns (by omega)
  refine hK.out _ _ (⟨hHeld.1.kept (hb7.block L (by omega)), hHeld.2.trans (hb7.mono (by omega))⟩) (fun hHeld => ?_)
  clear hK K
  try simp only [Act.put, List.setIfInBounds_toArray, List.set_cons_zero, List.set_cons_succ, List.getElem_toArray, List.getElem_cons_zero, List.getElem_cons_succ]
  have HO7 := hid hO7
  have HG7 := hid hg7
  have HZ7 := hid (show L + 1 ≤ w7.heap.size from Nat.le_trans HZ.out hb7.size)
  have HV7 := hid (show RC w7 (.slice ao o.length cap) o from HV.out.later (by rw [hL]; exact hHeld.2))
  clear hH7 hb7 hO7 hg7 HO6 HZ
  refine wpAnyH_ready (rs := [6]) (by kernel_rfl) (by simp) ?_
  refine AllReadyH.cons rfl (fun K hK => ?_) AllReadyH.nil
  go_simp
  refine (rOpBytes_any _ o _ HV7.out HF.out).mono ?_
  rintro _ w8 ⟨g8, cp8, rfl, hg8, ho8, hb8⟩
  refine hK.out _ _ (⟨hHeld.1.later hb8, hHeld.2.trans (hb8.mono (by have := HZ7.out; omega))⟩) (fun hHeld => ?_)
  clear hK K
  try simp only [Act.put, List.setIfInBounds_toArray, List.set_cons_zero, List.set_cons_succ, List.getElem_toArray, List.getElem_cons_zero, List.getElem_cons_succ]
  have HO8 := hid (HO7.out.later hb8)
  have HZ8 := hid (show L + 1 ≤ w8.heap.size from Nat.le_trans HZ7.out hb8.size)
  have hS8 := run_string (P := Tryd.prog) w8 22 9 5 Tryd.underlying22 Tryd.underlying5 Tryd.underlying9 ho8.reads
  clear ho8 hb8 hg8 HV7 HO7 HZ7
  refine wpAnyH_ready (rs := [7]) (by kernel_rfl) (by simp) ?_
  refine AllReadyH.cons rfl (fun K hK => ?_) AllReadyH.nil
  go_simp
  refine hK.out _ _ (hHeld) (fun hHeld => ?_)
  clear hK K
  try simp only [Act.put, List.setIfInBounds_toArray, List.set_cons_zero, List.set_cons_succ, List.getElem_toArray, List.getElem_cons_zero, List.getElem_cons_succ]
  clear hS8
  have HTL := hid (show (⟨(opB o).toArray⟩ : ByteArray).size = 1 + partsN o by rw [← opB_len]; rfl)
  refine wpAnyH_ready (rs := [8]) (by kernel_rfl) (by simp) ?_
  refine AllReadyH.cons rfl (fun K hK => ?_) AllReadyH.nil
  go_simp
  refine (fText_has (L + 1) g7 cp7 (0 + 8 + 8 + 8 + 8 + 32 + 1) ([] ++ i8 d.aD ++ i8 d.aU ++ i8 d.id ++ i8 d.ver ++ d.h ++ i1 d.k) ⟨(opB o).toArray⟩ _ HO8.out HG7.out HZ8.out (by rw [HTL.out]; have := HP.out; omega) (by rw [HTL.out]; have := HP.out; omega)).mono ?_
  rw [HTL.out]
  rintro _ w9 ⟨v9, rfl, hH9, hb9⟩
  obtain ⟨g9, cp9, rfl, hg9, hO9⟩ := hH9.owns (by omega)
  refine hK.out _ _ (⟨hHeld.1.kept (hb9.block L (by omega)), hHeld.2.trans (hb9.mono (by omega))⟩) (fun hHeld => ?_)
  clear hK K
  try simp only [Act.put, List.setIfInBounds_toArray, List.set_cons_zero, List.set_cons_succ, List.getElem_toArray, List.getElem_cons_zero, List.getElem_cons_succ]
  have HH9 := hid (show Has w9 5 (L + 1) (.slice (some ⟨g9, 0, none⟩) (0 + 8 + 8 + 8 + 8 + 32 + 1 + 2 + (1 + partsN o)) cp9) (0 + 8 + 8 + 8 + 8 + 32 + 1 + 2 + (1 + partsN o)) (B ([] ++ i8 d.aD ++ i8 d.aU ++ i8 d.id ++ i8 d.ver ++ d.h ++ i1 d.k ++ tx (opB o))) by
    rw [tx, opB_len, ← List.append_assoc]; exact hH9)
  have HZ := hid (show L + 1 ≤ w9.heap.size from Nat.le_trans HZ8.out hb9.size)
  clear hH9 hb9 hO9 hg9 HO8 HZ8 HG7 HTL
  refine wpAnyH_take (i := 9) (v := .slice (some ⟨g9, 0, none⟩) (0 + 8 + 8 + 8 + 8 + 32 + 1 + 2 + (1 + partsN o)) cp9) rfl (by kernel_rfl) (by kernel_rfl) (by kernel_rfl) (fun _ _ _ h => h) (Or.inl ⟨by rfl, by intro w hSw; go_simp⟩) hHeld ?_
  try simp only [Act.put, List.setIfInBounds_toArray, List.set_cons_zero, List.set_cons_succ, List.getElem_toArray, List.getElem_cons_zero, List.getElem_cons_succ]
  replace HHeld := hid hHeld
  clear hHeld
  refine wpAnyH_done (by kernel_rfl) ?_ _
  go_upto_region 5 with fail
  replace HHeld := hid (show DW w9.drew 30 L d (.slice ao o.length cap) ∧ Below L w w9.drew from ⟨HHeld.out.1.kept rfl, HHeld.out.2.drew⟩)
  refine wp_region_held_drew (S := fun w' => DW w' 30 L d (.slice ao o.length cap) ∧ Below L w w') (by kernel_rfl) (HHeld.out) (fun hHeld => ?_)
  refine wpAnyH_take (i := 0) (v := .slice (some ⟨g9, 0, none⟩) (0 + 8 + 8 + 8 + 8 + 32 + 1 + 2 + (1 + partsN o)) cp9) rfl (by kernel_rfl) (by kernel_rfl) (by kernel_rfl) (fun _ _ _ h => h) (Or.inl ⟨by rfl, by intro w hSw; go_simp⟩) hHeld ?_
  try simp only [Act.put, List.setIfInBounds_toArray, List.set_cons_zero, List.set_cons_succ, List.getElem_toArray, List.getElem_cons_zero, List.getElem_cons_succ]
  refine wpAnyH_take (i := 1) (v := .pointer (some ⟨L, 38, none⟩)) rfl (by kernel_rfl) (by kernel_rfl) (by kernel_rfl) (fun _ _ _ h => h) (Or.inl ⟨by rfl, by intro w hSw; go_simp⟩) hHeld ?_
  try simp only [Act.put, List.setIfInBounds_toArray, List.set_cons_zero, List.set_cons_succ, List.getElem_toArray, List.getElem_cons_zero, List.getElem_cons_succ]
  refine wpAnyH_take (i := 2) (v := .pointer (some ⟨L, 38, none⟩)) rfl (by kernel_rfl) (by kernel_rfl) (by kernel_rfl) (fun _ _ _ h => h) (Or.inl ⟨by rfl, by intro w hSw; go_simp⟩) hHeld ?_
  try simp only [Act.put, List.setIfInBounds_toArray, List.set_cons_zero, List.set_cons_succ, List.getElem_toArray, List.getElem_cons_zero, List.getElem_cons_succ]
  refine wpAnyH_take (i := 3) (v := .int .i64 d.wD) rfl (by kernel_rfl) (by kernel_rfl) (by kernel_rfl) (fun _ _ _ h => h) (Or.inl ⟨by rfl, by intro w hSw; have q := hSw.1.cells.2.2.2.2.2.2.1; go_simp⟩) hHeld ?_
  try simp only [Act.put, List.setIfInBounds_toArray, List.set_cons_zero, List.set_cons_succ, List.getElem_toArray, List.getElem_cons_zero, List.getElem_cons_succ]
  refine wpAnyH_take (i := 5) (v := .pointer (some ⟨L, 38, none⟩)) rfl (by kernel_rfl) (by kernel_rfl) (by kernel_rfl) (fun _ _ _ h => h) (Or.inl ⟨by rfl, by intro w hSw; go_simp⟩) hHeld ?_
  try simp only [Act.put, List.setIfInBounds_toArray, List.set_cons_zero, List.set_cons_succ, List.getElem_toArray, List.getElem_cons_zero, List.getElem_cons_succ]
  refine wpAnyH_take (i := 6) (v := .pointer (some ⟨L, 39, none⟩)) rfl (by kernel_rfl) (by kernel_rfl) (by kernel_rfl) (fun _ _ _ h => h) (Or.inl ⟨by rfl, by intro w hSw; go_simp⟩) hHeld ?_
  try simp only [Act.put, List.setIfInBounds_toArray, List.set_cons_zero, List.set_cons_succ, List.getElem_toArray, List.getElem_cons_zero, List.getElem_cons_succ]
  refine wpAnyH_take (i := 7) (v := .int .i64 d.wU) rfl (by kernel_rfl) (by kernel_rfl) (by kernel_rfl) (fun _ _ _ h => h) (Or.inl ⟨by rfl, by intro w hSw; have q := hSw.1.cells.2.2.2.2.2.2.2; go_simp⟩) hHeld ?_
  try simp only [Act.put, List.setIfInBounds_toArray, List.set_cons_zero, List.set_cons_succ, List.getElem_toArray, List.getElem_cons_zero, List.getElem_cons_succ]
  refine wpAnyH_ready (rs := [4]) (by kernel_rfl) (by simp) ?_
  refine AllReadyH.cons rfl (fun K hK => ?_) AllReadyH.nil
  go_simp
  refine (fInt_has (L + 1) _ (0 + 8 + 8 + 8 + 8 + 32 + 1 + 2 + (1 + partsN o)) ([] ++ i8 d.aD ++ i8 d.aU ++ i8 d.id ++ i8 d.ver ++ d.h ++ i1 d.k ++ tx (opB o)) d.wD _ (show Has w9.drew _ _ _ _ _ from HH9.out) (show L + 1 ≤ w9.drew.heap.size from HZ.out) (by have := HP.out; omega)).mono ?_
  rintro _ w10 ⟨v10, rfl, hH10, hb10⟩
  obtain ⟨g10, cp10, rfl, hg10, hO10⟩ := hH10.owns (by omega)
  refine hK.out _ _ (⟨hHeld.1.kept (hb10.block L (by omega)), hHeld.2.trans (hb10.mono (by omega))⟩) (fun hHeld => ?_)
  clear hK K
  try simp only [Act.put, List.setIfInBounds_toArray, List.set_cons_zero, List.set_cons_succ, List.getElem_toArray, List.getElem_cons_zero, List.getElem_cons_succ]
  have HH10 := hid hH10
  have HZ := hid (show L + 1 ≤ w10.heap.size by have h1 := hb10.size; have h2 := HZ.out; exact Nat.le_trans h2 h1)
  clear hH10 hb10 hO10 hg10
  refine wpAnyH_ready (rs := [8]) (by kernel_rfl) (by simp) ?_
  refine AllReadyH.cons rfl (fun K hK => ?_) AllReadyH.nil
  go_simp
  refine (fInt_has (L + 1) _ (0 + 8 + 8 + 8 + 8 + 32 + 1 + 2 + (1 + partsN o) + 8) ([] ++ i8 d.aD ++ i8 d.aU ++ i8 d.id ++ i8 d.ver ++ d.h ++ i1 d.k ++ tx (opB o) ++ i8 d.wD) d.wU _ HH10.out HZ.out (by have := HP.out; omega)).mono ?_
  rintro _ w11 ⟨v11, rfl, hH11, hb11⟩
  obtain ⟨g11, cp11, rfl, hg11, hO11⟩ := hH11.owns (by omega)
  refine hK.out _ _ (⟨hHeld.1.kept (hb11.block L (by omega)), hHeld.2.trans (hb11.mono (by omega))⟩) (fun hHeld => ?_)
  clear hK K
  try simp only [Act.put, List.setIfInBounds_toArray, List.set_cons_zero, List.set_cons_succ, List.getElem_toArray, List.getElem_cons_zero, List.getElem_cons_succ]
  have HH11 := hid hH11
  have HZ := hid (show L + 1 ≤ w11.heap.size by have h1 := hb11.size; have h2 := HZ.out; exact Nat.le_trans h2 h1)
  clear hH11 hb11 hO11 hg11
  refine wpAnyH_take (i := 9) (v := .slice (some ⟨g11, 0, none⟩) (0 + 8 + 8 + 8 + 8 + 32 + 1 + 2 + (1 + partsN o) + 8 + 8) cp11) rfl (by kernel_rfl) (by kernel_rfl) (by kernel_rfl) (fun _ _ _ h => h) (Or.inl ⟨by rfl, by intro w hSw; go_simp⟩) hHeld ?_
  try simp only [Act.put, List.setIfInBounds_toArray, List.set_cons_zero, List.set_cons_succ, List.getElem_toArray, List.getElem_cons_zero, List.getElem_cons_succ]
  replace HHeld := hid hHeld
  clear hHeld HH9 HH10
  refine wpAnyH_done (by kernel_rfl) ?_ _
  go_wp2_with fail
  go_ret
  subst hL
  have hN : 0 + 8 + 8 + 8 + 8 + 32 + 1 + 2 + (1 + partsN o) + 8 + 8 = 84 + partsN o := by omega
  obtain ⟨g', c', e, h1, h2⟩ := HH11.out.owns (by omega)
  rw [hN] at h2 e ⊢
  refine ⟨g', c', congrArg Ending.returned e, by omega, ?_, HHeld.out.2⟩
  exact h2
end Go.Proofs.YtinifnpajkldbaaDoor

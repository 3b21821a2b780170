/- The contract of the laws' own user (chapter 12). -/
import Derived.Test.YtjedajfemhpogaaTk
import Derived.Test.YtjedajfemhpogaaUserS
import Derived.Test.YtjedajfemhpogaaWithin12
import Derived.Test.YtjedajfemhpogaaBlk
import Derived.Test.YtjedajfemhpogaaReady
import Derived.Deep.RegionHeld3
import Derived.Deep.DeepCutAuto
namespace Go.Proofs.Ytjedajfemhpogaa
open Go.RowKit
set_option linter.unusedSimpArgs false
set_option linter.unusedVariables false

/-- A user, of a raw one; now and then none. -/
def userF (D U : Int) : Ad := if U.tmod 17 = 16 then (D, U) else (D % 3, U % 4)
set_option maxRecDepth 100000 in
set_option maxHeartbeats 2000000 in
theorem user12_any (D U : Int) (g : Bool) (w : World) : Calls Try.prog 6 #[.agg #[.int .i64 D, .int .i64 U, .bool g]] w fun x w' => x = .returned (.agg #[.int .i64 (userF D U).1, .int .i64 (userF D U).2]) ∧ Below w.heap.size w w' := by
  obtain ⟨L, hL⟩ : ∃ L, w.heap.size = L := ⟨_, rfl⟩
  have HZ := hid (show (Try.prog.info? 29).bind (fun i => i.zero.map fun z => z.cells.toList) = some [.int .i64 0, .int .i64 0] by kernel_rfl)
  go_enter Try.func6, Try.ntmps6
  go_upto_region 1 with (first
    | (show wpList _ _ _ (⟨some 1, Op.box _ _, _, _, _, _⟩ :: _) _ _; go_must (refine wpList_box_blk rfl 31 _ rfl [.int .i64 D, .int .i64 U, .bool g] rfl L hL ?_); intro w1 hB1 hb1 hs1; have HB1 := hid hB1; have Hb1 := hid hb1; clear hB1 hb1)
    | (show wpList _ _ _ (⟨some 2, Op.alloc _, _, _, _, _⟩ :: _) _ _; go_must (refine wpList_alloc_blk rfl 29 rfl _ HZ.out (L + 1) hs1 ?_); intro w2 hB2 hb2 hs2; have HB2 := hid hB2; have HA2 := hid (HB1.out.kept (hb2.block L (by omega))); have Hb2 := hid (Hb1.out.trans (hb2.mono (by omega))); clear hB2 hb2 HB1 Hb1 hs1))
  have c1 : w2.cell? ⟨L, 1, none⟩ = some (.int .i64 U) := HA2.out.cell (j := 1) rfl
  have HRG := hid (show w2.rangeAt L 0 [.int .i64 D, .int .i64 U] from HA2.out.range fun j v hv => by
    rw [Nat.zero_add]
    match j, hv with
    | 0, hv => exact hv
    | 1, hv => exact hv
    | n + 2, hv => simp at hv)
  try simp only [Act.put, List.setIfInBounds_toArray, List.set_cons_zero, List.set_cons_succ, List.getElem_toArray, List.getElem_cons_zero, List.getElem_cons_succ]
  by_cases h16 : U.tmod 17 = 16
  · have HF := hid (show userF D U = (D, U) by rw [userF, if_pos h16])
    have h16' : (U.tmod 17 == 16) = true := by simpa using h16
    go_wp2_with (first
      | (show wpList _ _ _ (⟨some 9, Op.load _ _, _, _, _, _⟩ :: _) _ _; go_must (refine wpList_load_mid rfl 29 _ rfl L 0 rfl [.int .i64 D, .int .i64 U] _ HRG.out Try.underlying29 rfl (by kernel_rfl) ?_))
      | (show wpList _ _ _ (⟨none, Op.store _ _ _, _, _, _, _⟩ :: _) _ _; go_must (refine wpList_store_list rfl 29 _ _ rfl (L + 1) 0 [.int .i64 D, .int .i64 U] rfl rfl (HB2.out.there (by simp)) (by kernel_rfl) (by simp [Value.oneCell']) ?_); intro w3 hw3; have HB3 := hid (show Blk w3 29 (L + 1) [.int .i64 D, .int .i64 U] by rw [hw3]; have h3 := Blk.setCells [.int .i64 D, .int .i64 U] [] [.int .i64 0, .int .i64 0] [] (o := 0) (by simpa using HB2.out) rfl rfl; simpa using h3); have HX3 := hid (show Below L w w3 by rw [hw3]; exact below_setCells (by omega) _ _ Hb2.out); clear hw3))
    refine ret_cell 2 29 rfl (L + 1) rfl [.int .i64 D, .int .i64 U] _ (HB3.out.range fun j v hv => by rw [Nat.zero_add]; exact hv) Try.underlying29 rfl (by kernel_rfl) rfl ⟨by rw [HF.out], by rw [hL]; exact HX3.out⟩
  · have HF := hid (show userF D U = (D % 3, U % 4) by rw [userF, if_neg h16])
    have h16' : (U.tmod 17 == 16) = false := by simpa using h16
    go_upto_region 3 with fail
    have HS := hid (show Blk w2.drew 31 L [.int .i64 D, .int .i64 U, .bool g] ∧ (∃ zs : List Value, zs.length = 2 ∧ Blk w2.drew 29 (L + 1) zs) ∧ Below L w w2.drew from ⟨HA2.out.kept rfl, ⟨_, rfl, HB2.out.kept rfl⟩, Hb2.out.drew⟩)
    clear HA2 HB2 Hb2 c1
    refine wp_region_held_drew (S := fun w' => Blk w' 31 L [.int .i64 D, .int .i64 U, .bool g] ∧ (∃ zs : List Value, zs.length = 2 ∧ Blk w' 29 (L + 1) zs) ∧ Below L w w') (by kernel_rfl) (HS.out) (fun hHeld => ?_)
    generalize w2.drew = wd at *
    refine tk (i := 0) (v := .pointer (some ⟨L, 0, none⟩)) rfl (by kernel_rfl) (Or.inl ⟨by rfl, by intro w hSw; go_simp⟩) hHeld ?_
    try simp only [putL, List.set]
    refine tk (i := 1) (v := .pointer (some ⟨L, 0, none⟩)) rfl (by kernel_rfl) (Or.inl ⟨by rfl, by intro w hSw; go_simp⟩) hHeld ?_
    try simp only [putL, List.set]
    refine tk (i := 2) (v := .int .i64 D) rfl (by kernel_rfl) (Or.inl ⟨by rfl, by intro w hSw; have q := hSw.1.cell (j := 0) rfl; go_simp⟩) hHeld ?_
    try simp only [putL, List.set]
    refine tk (i := 4) (v := .pointer (some ⟨L, 0, none⟩)) rfl (by kernel_rfl) (Or.inl ⟨by rfl, by intro w hSw; go_simp⟩) hHeld ?_
    try simp only [putL, List.set]
    refine tk (i := 5) (v := .pointer (some ⟨L, 1, none⟩)) rfl (by kernel_rfl) (Or.inl ⟨by rfl, by intro w hSw; go_simp⟩) hHeld ?_
    try simp only [putL, List.set]
    refine tk (i := 6) (v := .int .i64 U) rfl (by kernel_rfl) (Or.inl ⟨by rfl, by intro w hSw; have q := hSw.1.cell (j := 1) rfl; go_simp⟩) hHeld ?_
    try simp only [putL, List.set]
    refine wpAnyH_ready (rs := [3]) (by kernel_rfl) (by simp) ?_
    refine AllReadyH.cons rfl (fun K hK => ?_) AllReadyH.nil
    go_simp
    refine (within12_any D 3 (by omega) (by omega) _).mono ?_
    rintro _ w3 ⟨rfl, rfl⟩
    refine hK.out _ _ (hHeld) (fun hHeld => ?_)
    clear hK K
    try simp only [putL, List.set]
    refine wpAnyH_ready (rs := [7]) (by kernel_rfl) (by simp) ?_
    refine AllReadyH.cons rfl (fun K hK => ?_) AllReadyH.nil
    go_simp
    refine (within12_any U 4 (by omega) (by omega) _).mono ?_
    rintro _ w4 ⟨rfl, rfl⟩
    refine hK.out _ _ (hHeld) (fun hHeld => ?_)
    clear hK K
    try simp only [putL, List.set]
    refine tk (i := 8) (v := .agg #[.int .i64 (D % 3), .int .i64 (U % 4)]) rfl (by kernel_rfl) (Or.inl ⟨by rfl, by intro w hSw; go_simp⟩) hHeld ?_
    try simp only [putL, List.set]
    refine wpAnyH_ready (rs := [9]) (by kernel_rfl) (by simp) ?_
    refine AllReadyH.cons rfl (fun K hK => ?_) AllReadyH.nil
    obtain ⟨zs, hz1, hz2⟩ := hHeld.2.1
    refine Eq.mpr (if_pos (by rfl)) ?_
    refine wp_store_list 29 _ _ rfl (L + 1) 0 [.int .i64 (D % 3), .int .i64 (U % 4)] rfl rfl (hz2.there (by rw [hz1]; simp)) (by kernel_rfl) (by simp [Value.oneCell']) ?_
    intro w5 hw5
    have hB5 : Blk w5 29 (L + 1) [.int .i64 (D % 3), .int .i64 (U % 4)] := by
      rw [hw5]
      have h3 := Blk.setCells [.int .i64 (D % 3), .int .i64 (U % 4)] [] zs [] (o := 0) (by simpa using hz2) (by rw [hz1]; rfl) rfl
      simpa using h3
    have HB5 := hid hB5
    have hL5 : Below L w w5 := by rw [hw5]; exact below_setCells (by omega) _ _ hHeld.2.2
    have hA5 : Blk w5 31 L [.int .i64 D, .int .i64 U, .bool g] := hHeld.1.kept (by rw [hw5]; exact setCells_heap (by omega) _ _ _)
    refine hK.out _ _ (⟨hA5, ⟨_, rfl, hB5⟩, hL5⟩) (fun hHeld => ?_)
    clear hK K
    try simp only [putL, List.set]
    have HL5 := hid hHeld.2.2
    clear hw5 hz1 hz2 hB5 hL5 hA5
    refine wpAnyH_done (by kernel_rfl) ?_ _
    go_wp2_with fail
    refine ret_cell 2 29 rfl (L + 1) rfl [.int .i64 (D % 3), .int .i64 (U % 4)] _ (HB5.out.range fun j v hv => by rw [Nat.zero_add]; exact hv) Try.underlying29 rfl (by kernel_rfl) rfl ⟨by rw [HF.out], by rw [hL]; exact HL5.out⟩
end Go.Proofs.Ytjedajfemhpogaa

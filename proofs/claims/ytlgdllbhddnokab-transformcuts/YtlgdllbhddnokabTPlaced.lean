/- The contracts of package transform's placed and led. -/
import Derived.Test.YtlgdllbhddnokabTMem
import Derived.Test.YtlgdllbhddnokabPairS
import Derived.Deep.RegionHeld3
namespace Go.Proofs.Ytlgdllbhddnokab
open Go.RowKit
set_option linter.unusedSimpArgs false
set_option linter.unusedVariables false

/-- What a part puts, and what is kept of it. -/
def putL (c : Cp) : List Cp := if c.k = 2 then [c] else []
def keptL (c : Cp) : List Cp := if c.k = 2 then [pK c.s.size] else []

set_option maxRecDepth 100000 in
set_option maxHeartbeats 4000000 in
theorem placed_any (v1 v2 : Value) (l1 l2 : List Cp) (c : Cp) (Bd : Nat) (w : World) (hO : O2 w Bd v1 l1 v2 l2) (hB : Bd ≤ w.heap.size) (h1 : l1.length ≤ 4194304) (h2 : l2.length ≤ 4194304) (hs : c.s.size ≤ 1099511627776) :
    Calls Try.prog 24 #[v1, v2, .agg c.vals.toArray] w fun e w' => ∃ x y, e = .returned (.tuple #[x, y]) ∧ O2 w' Bd x (l1 ++ putL c) y (l2 ++ keptL c) ∧ Below Bd w w' := by
  obtain ⟨a1, c1, rfl⟩ := hO.o1.form
  obtain ⟨a2, c2, rfl⟩ := hO.o2.form
  have HO := hid hO
  have HBd := hid hB
  clear hO hB
  by_cases hk : c.k = 2
  case neg =>
    have e1 : putL c = [] := if_neg hk
    have e2 : keptL c = [] := if_neg hk
    have hne : (c.k == 2) = false := by simpa using hk
    rw [e1, e2]
    simp only [List.append_nil, Cp.vals]
    clear e1 e2 hk
    go_enter Try.func24, Try.ntmps24
    go_wp2_with fail
    go_ret2
    exact ⟨_, _, rfl, HO.out.later ((Below.refl _ _).alloc (Nat.le_refl _) _), ((Below.refl _ _).alloc HBd.out _)⟩
  have e1 : putL c = [c] := if_pos hk
  have e2 : keptL c = [pK c.s.size] := if_pos hk
  rw [e1, e2]
  clear e1 e2
  obtain ⟨ck, cn, cs⟩ := c
  simp only at hk hs
  subst hk
  simp only [Cp.vals]
  have HS0 := hid (Side.new (N := w.heap.size) HO.out (Cp.vals ⟨2, cn, cs⟩) rfl)
  have HW0 := hid (show Below Bd w (w.alloc (.cells (Cp.vals ⟨2, cn, cs⟩).toArray 42)) from (Below.refl _ _).alloc HBd.out _)
  replace HO := hid (HO.out.later ((Below.refl _ _).alloc (Nat.le_refl _) (.cells (Cp.vals ⟨2, cn, cs⟩).toArray 42)))
  obtain ⟨ub, hub⟩ : ∃ u, w.alloc (.cells (Cp.vals ⟨2, cn, cs⟩).toArray 42) = u := ⟨_, rfl⟩
  obtain ⟨g, hg⟩ : ∃ g, w.heap.size = g := ⟨_, rfl⟩
  go_enter Try.func24, Try.ntmps24
  go_wp2_with fail
  rw [show w.alloc (.cells #[.int .i64 2, .int .i64 cn, .string cs] 42) = ub from hub]
  rw [hub] at HS0 HW0 HO
  rw [hg] at HS0
  have HG := hid hg
  clear hub hg
  have hsz : ub.drew.heap.size = ub.heap.size := rfl
  refine wp_region_held_drew (S := fun w' => Blk w' 42 g (Cp.vals ⟨2, cn, cs⟩)) (by kernel_rfl) (HS0.out.k.kept rfl) (fun hHeld => ?_)
  refine wpAnyH_take (i := 0) (v := .slice a1 l1.length c1) rfl (by kernel_rfl) (by kernel_rfl) (by kernel_rfl) (fun _ _ _ h => h) (Or.inl ⟨by rfl, by intro w hSw; go_simp⟩) hHeld ?_
  try simp only [Act.put, List.setIfInBounds_toArray, List.set_cons_zero, List.set_cons_succ, List.getElem_toArray, List.getElem_cons_zero, List.getElem_cons_succ]
  refine wpAnyH_take (i := 4) (v := .slice a2 l2.length c2) rfl (by kernel_rfl) (by kernel_rfl) (by kernel_rfl) (fun _ _ _ h => h) (Or.inl ⟨by rfl, by intro w hSw; go_simp⟩) hHeld ?_
  try simp only [Act.put, List.setIfInBounds_toArray, List.set_cons_zero, List.set_cons_succ, List.getElem_toArray, List.getElem_cons_zero, List.getElem_cons_succ]
  refine wpAnyH_take (i := 1) (v := _) rfl (by kernel_rfl) (by kernel_rfl) (by kernel_rfl) (fun _ _ _ h => h) (yieldsIf_load_mid (by rfl) _ _ rfl _ _ rfl (Cp.vals ⟨2, cn, cs⟩) _ (fun w hSw => hSw.range fun j v hv => by rw [Nat.zero_add]; exact hv) Try.underlying42 rfl (by kernel_rfl)) hHeld ?_
  try simp only [Act.put, List.setIfInBounds_toArray, List.set_cons_zero, List.set_cons_succ, List.getElem_toArray, List.getElem_cons_zero, List.getElem_cons_succ]
  refine wpAnyH_take (i := 5) (v := .pointer (some ⟨g, 2, none⟩)) rfl (by kernel_rfl) (by kernel_rfl) (by kernel_rfl) (fun _ _ _ h => h) (Or.inl ⟨by rfl, by intro w hSw; go_simp⟩) hHeld ?_
  try simp only [Act.put, List.setIfInBounds_toArray, List.set_cons_zero, List.set_cons_succ, List.getElem_toArray, List.getElem_cons_zero, List.getElem_cons_succ]
  refine wpAnyH_take (i := 6) (v := .string cs) rfl (by kernel_rfl) (by kernel_rfl) (by kernel_rfl) (fun _ _ _ h => h) (Or.inl ⟨by rfl, by intro w hSw; have z2 : w.cell? ⟨g, 2, none⟩ = some (.string cs) := hSw.cell rfl; clear hSw; go_simp⟩) hHeld ?_
  try simp only [Act.put, List.setIfInBounds_toArray, List.set_cons_zero, List.set_cons_succ, List.getElem_toArray, List.getElem_cons_zero, List.getElem_cons_succ]
  refine wpAnyH_take (i := 7) (v := .int .i64 (cs.size : Int)) rfl (by kernel_rfl) (by kernel_rfl) (by kernel_rfl) (fun _ _ _ h => h) (Or.inl ⟨by rfl, by intro w hSw; go_simp⟩) hHeld ?_
  try simp only [Act.put, List.setIfInBounds_toArray, List.set_cons_zero, List.set_cons_succ, List.getElem_toArray, List.getElem_cons_zero, List.getElem_cons_succ]
  refine wpAnyH_take (i := 8) (v := .agg (Cp.vals (pK (cs.size : Int))).toArray) rfl (by kernel_rfl) (by kernel_rfl) (by kernel_rfl) (fun _ _ _ h => h) (Or.inl ⟨by rfl, by intro w hSw; clear hSw; simp only [Cp.vals, pK]; go_simp; rfl⟩) hHeld ?_
  try simp only [Act.put, List.setIfInBounds_toArray, List.set_cons_zero, List.set_cons_succ, List.getElem_toArray, List.getElem_cons_zero, List.getElem_cons_succ]
  have HO1 := HO
  clear HO
  have HO := hid (HO1.out.later (w' := ub.drew) (Below.refl _ _).drew)
  have HS := hid (HS0.out.later (w' := ub.drew) (Below.refl _ _).drew)
  have HW := hid (show Below Bd w ub.drew from HW0.out.drew)
  clear HO1 HS0 HW0
  simp only [Cp.vals, pK]
  refine wpAnyH_ready (rs := [2, 9]) (by kernel_rfl) (by simp) ?_
  refine AllReadyH.cons rfl (fun K hK => ?_) (AllReadyH.cons rfl (fun K hK => ?_) AllReadyH.nil)
  · go_simp
    have hbx := (Below.refl ub.drew.heap.size ub.drew).alloc (Nat.le_refl _) (.cells (⟨2, cn, cs⟩ : Cp).vals.toArray 42)
    have HX1 := hid (Side.new (N := ub.heap.size) HO.out (⟨2, cn, cs⟩ : Cp).vals (by simp))
    replace HS := hid (HS.out.later hbx)
    replace HO := hid (HO.out.later hbx)
    replace HW := hid (HW.out.alloc (Nat.le_trans HBd.out HW.out.size) (.cells (⟨2, cn, cs⟩ : Cp).vals.toArray 42))
    clear hbx
    refine hK.out _ _ (HS.out.k) (fun hHeld => ?_)
    clear hK K
    try simp only [Act.put, List.setIfInBounds_toArray, List.set_cons_zero, List.set_cons_succ, List.getElem_toArray, List.getElem_cons_zero, List.getElem_cons_succ]
    refine wpAnyH_ready (rs := [3, 9]) (by kernel_rfl) (by simp) ?_
    refine AllReadyH.cons rfl (fun K hK => ?_) (AllReadyH.cons rfl (fun K hK => ?_) AllReadyH.nil)
    · refine Eq.mpr (if_pos (by rfl)) ?_
      refine wp_append_o2 _ _ rfl Bd _ _ _ _ rfl HO.out (Nat.le_trans HBd.out HW.out.size) _ (⟨2, cn, cs⟩ : Cp) rfl HX1.out (by omega) ?_
      intro x1 u1 hO hb hSd
      replace HW := hid (HW.out.trans hb)
      replace HO := hid hO
      replace HS := hid (hSd _ _ HS.out)
      replace HX1 := hid (hSd _ _ HX1.out)
      clear hO hb hSd
      refine hK.out _ _ (HS.out.k) (fun hHeld => ?_)
      clear hK K
      try simp only [Act.put, List.setIfInBounds_toArray, List.set_cons_zero, List.set_cons_succ, List.getElem_toArray, List.getElem_cons_zero, List.getElem_cons_succ]
      refine wpAnyH_ready (rs := [9]) (by kernel_rfl) (by simp) ?_
      refine AllReadyH.cons rfl (fun K hK => ?_) AllReadyH.nil
      go_simp
      have hbx := (Below.refl u1.heap.size u1).alloc (Nat.le_refl _) (.cells (pK (cs.size : Int)).vals.toArray 42)
      have HX2 := hid (Side.new (N := u1.heap.size) HO.out (pK (cs.size : Int)).vals (by simp))
      replace HS := hid (HS.out.later hbx)
      replace HX1 := hid (HX1.out.later hbx)
      replace HO := hid (HO.out.later hbx)
      replace HW := hid (HW.out.alloc (Nat.le_trans HBd.out HW.out.size) (.cells (pK (cs.size : Int)).vals.toArray 42))
      clear hbx
      refine hK.out _ _ (HS.out.k) (fun hHeld => ?_)
      clear hK K
      try simp only [Act.put, List.setIfInBounds_toArray, List.set_cons_zero, List.set_cons_succ, List.getElem_toArray, List.getElem_cons_zero, List.getElem_cons_succ]
      refine wpAnyH_ready (rs := [10]) (by kernel_rfl) (by simp) ?_
      refine AllReadyH.cons rfl (fun K hK => ?_) AllReadyH.nil
      refine Eq.mpr (if_pos (by rfl)) ?_
      refine wp_append_o2 _ _ rfl Bd _ _ _ _ rfl HO.out.swap (Nat.le_trans HBd.out HW.out.size) _ (pK (cs.size : Int)) rfl HX2.out.swap (by omega) ?_
      intro x2 u2 hO hb hSd
      replace HW := hid (HW.out.trans hb)
      replace HO := hid hO.swap
      replace HS := hid (hSd _ _ HS.out.swap)
      replace HX1 := hid (hSd _ _ HX1.out.swap)
      replace HX2 := hid (hSd _ _ HX2.out.swap)
      replace HS := hid HS.out.swap
      replace HX1 := hid HX1.out.swap
      replace HX2 := hid HX2.out.swap
      clear hO hb hSd
      refine hK.out _ _ (HS.out.k) (fun hHeld => ?_)
      clear hK K
      try simp only [Act.put, List.setIfInBounds_toArray, List.set_cons_zero, List.set_cons_succ, List.getElem_toArray, List.getElem_cons_zero, List.getElem_cons_succ]
      refine wpAnyH_ready (rs := [11]) (by kernel_rfl) (by simp) ?_
      refine AllReadyH.cons rfl (fun K hK => ?_) AllReadyH.nil
      go_simp
      refine hK.out _ _ (HS.out.k) (fun hHeld => ?_)
      clear hK K
      try simp only [Act.put, List.setIfInBounds_toArray, List.set_cons_zero, List.set_cons_succ, List.getElem_toArray, List.getElem_cons_zero, List.getElem_cons_succ]
      refine wpAnyH_ready (rs := [12]) (by kernel_rfl) (by simp) ?_
      refine AllReadyH.cons rfl (fun K hK => ?_) AllReadyH.nil
      go_simp
      refine hK.out _ _ (HS.out.k) (fun hHeld => ?_)
      clear hK K
      try simp only [Act.put, List.setIfInBounds_toArray, List.set_cons_zero, List.set_cons_succ, List.getElem_toArray, List.getElem_cons_zero, List.getElem_cons_succ]
      refine wpAnyH_done (by kernel_rfl) ?_ _
      go_wp2_with fail
      go_ret2
      exact ⟨_, _, rfl, HO.out, HW.out⟩
    · go_simp
      have hbx := (Below.refl (ub.drew.alloc (.cells (⟨2, cn, cs⟩ : Cp).vals.toArray 42)).heap.size (ub.drew.alloc (.cells (⟨2, cn, cs⟩ : Cp).vals.toArray 42))).alloc (Nat.le_refl _) (.cells (pK (cs.size : Int)).vals.toArray 42)
      have HX2 := hid (Side.new (N := (ub.heap.size + 1)) HO.out (pK (cs.size : Int)).vals (by simp))
      replace HS := hid (HS.out.later hbx)
      replace HX1 := hid (HX1.out.later hbx)
      replace HO := hid (HO.out.later hbx)
      replace HW := hid (HW.out.alloc (Nat.le_trans HBd.out HW.out.size) (.cells (pK (cs.size : Int)).vals.toArray 42))
      clear hbx
      refine hK.out _ _ (HS.out.k) (fun hHeld => ?_)
      clear hK K
      try simp only [Act.put, List.setIfInBounds_toArray, List.set_cons_zero, List.set_cons_succ, List.getElem_toArray, List.getElem_cons_zero, List.getElem_cons_succ]
      refine wpAnyH_ready (rs := [3]) (by kernel_rfl) (by simp) ?_
      refine AllReadyH.cons rfl (fun K hK => ?_) AllReadyH.nil
      refine Eq.mpr (if_pos (by rfl)) ?_
      refine wp_append_o2 _ _ rfl Bd _ _ _ _ rfl HO.out (Nat.le_trans HBd.out HW.out.size) _ (⟨2, cn, cs⟩ : Cp) rfl HX1.out (by omega) ?_
      intro x1 u1 hO hb hSd
      replace HW := hid (HW.out.trans hb)
      replace HO := hid hO
      replace HS := hid (hSd _ _ HS.out)
      replace HX1 := hid (hSd _ _ HX1.out)
      replace HX2 := hid (hSd _ _ HX2.out)
      clear hO hb hSd
      refine hK.out _ _ (HS.out.k) (fun hHeld => ?_)
      clear hK K
      try simp only [Act.put, List.setIfInBounds_toArray, List.set_cons_zero, List.set_cons_succ, List.getElem_toArray, List.getElem_cons_zero, List.getElem_cons_succ]
      refine wpAnyH_ready (rs := [10]) (by kernel_rfl) (by simp) ?_
      refine AllReadyH.cons rfl (fun K hK => ?_) AllReadyH.nil
      refine Eq.mpr (if_pos (by rfl)) ?_
      refine wp_append_o2 _ _ rfl Bd _ _ _ _ rfl HO.out.swap (Nat.le_trans HBd.out HW.out.size) _ (pK (cs.size : Int)) rfl HX2.out.swap (by omega) ?_
      intro x2 u2 hO hb hSd
      replace HW := hid (HW.out.trans hb)
      replace HO := hid hO.swap
      replace HS := hid (hSd _ _ HS.out.swap)
      replace HX1 := hid (hSd _ _ HX1.out.swap)
      replace HX2 := hid (hSd _ _ HX2.out.swap)
      replace HS := hid HS.out.swap
      replace HX1 := hid HX1.out.swap
      replace HX2 := hid HX2.out.swap
      clear hO hb hSd
      refine hK.out _ _ (HS.out.k) (fun hHeld => ?_)
      clear hK K
      try simp only [Act.put, List.setIfInBounds_toArray, List.set_cons_zero, List.set_cons_succ, List.getElem_toArray, List.getElem_cons_zero, List.getElem_cons_succ]
      refine wpAnyH_ready (rs := [11]) (by kernel_rfl) (by simp) ?_
      refine AllReadyH.cons rfl (fun K hK => ?_) AllReadyH.nil
      go_simp
      refine hK.out _ _ (HS.out.k) (fun hHeld => ?_)
      clear hK K
      try simp only [Act.put, List.setIfInBounds_toArray, List.set_cons_zero, List.set_cons_succ, List.getElem_toArray, List.getElem_cons_zero, List.getElem_cons_succ]
      refine wpAnyH_ready (rs := [12]) (by kernel_rfl) (by simp) ?_
      refine AllReadyH.cons rfl (fun K hK => ?_) AllReadyH.nil
      go_simp
      refine hK.out _ _ (HS.out.k) (fun hHeld => ?_)
      clear hK K
      try simp only [Act.put, List.setIfInBounds_toArray, List.set_cons_zero, List.set_cons_succ, List.getElem_toArray, List.getElem_cons_zero, List.getElem_cons_succ]
      refine wpAnyH_done (by kernel_rfl) ?_ _
      go_wp2_with fail
      go_ret2
      exact ⟨_, _, rfl, HO.out, HW.out⟩
  · go_simp
    have hbx := (Below.refl ub.drew.heap.size ub.drew).alloc (Nat.le_refl _) (.cells (pK (cs.size : Int)).vals.toArray 42)
    have HX2 := hid (Side.new (N := ub.heap.size) HO.out (pK (cs.size : Int)).vals (by simp))
    replace HS := hid (HS.out.later hbx)
    replace HO := hid (HO.out.later hbx)
    replace HW := hid (HW.out.alloc (Nat.le_trans HBd.out HW.out.size) (.cells (pK (cs.size : Int)).vals.toArray 42))
    clear hbx
    refine hK.out _ _ (HS.out.k) (fun hHeld => ?_)
    clear hK K
    try simp only [Act.put, List.setIfInBounds_toArray, List.set_cons_zero, List.set_cons_succ, List.getElem_toArray, List.getElem_cons_zero, List.getElem_cons_succ]
    refine wpAnyH_ready (rs := [2]) (by kernel_rfl) (by simp) ?_
    refine AllReadyH.cons rfl (fun K hK => ?_) AllReadyH.nil
    go_simp
    have hbx := (Below.refl (ub.drew.alloc (.cells (pK (cs.size : Int)).vals.toArray 42)).heap.size (ub.drew.alloc (.cells (pK (cs.size : Int)).vals.toArray 42))).alloc (Nat.le_refl _) (.cells (⟨2, cn, cs⟩ : Cp).vals.toArray 42)
    have HX1 := hid (Side.new (N := (ub.heap.size + 1)) HO.out (⟨2, cn, cs⟩ : Cp).vals (by simp))
    replace HS := hid (HS.out.later hbx)
    replace HX2 := hid (HX2.out.later hbx)
    replace HO := hid (HO.out.later hbx)
    replace HW := hid (HW.out.alloc (Nat.le_trans HBd.out HW.out.size) (.cells (⟨2, cn, cs⟩ : Cp).vals.toArray 42))
    clear hbx
    refine hK.out _ _ (HS.out.k) (fun hHeld => ?_)
    clear hK K
    try simp only [Act.put, List.setIfInBounds_toArray, List.set_cons_zero, List.set_cons_succ, List.getElem_toArray, List.getElem_cons_zero, List.getElem_cons_succ]
    refine wpAnyH_ready (rs := [3]) (by kernel_rfl) (by simp) ?_
    refine AllReadyH.cons rfl (fun K hK => ?_) AllReadyH.nil
    refine Eq.mpr (if_pos (by rfl)) ?_
    refine wp_append_o2 _ _ rfl Bd _ _ _ _ rfl HO.out (Nat.le_trans HBd.out HW.out.size) _ (⟨2, cn, cs⟩ : Cp) rfl HX1.out (by omega) ?_
    intro x1 u1 hO hb hSd
    replace HW := hid (HW.out.trans hb)
    replace HO := hid hO
    replace HS := hid (hSd _ _ HS.out)
    replace HX1 := hid (hSd _ _ HX1.out)
    replace HX2 := hid (hSd _ _ HX2.out)
    clear hO hb hSd
    refine hK.out _ _ (HS.out.k) (fun hHeld => ?_)
    clear hK K
    try simp only [Act.put, List.setIfInBounds_toArray, List.set_cons_zero, List.set_cons_succ, List.getElem_toArray, List.getElem_cons_zero, List.getElem_cons_succ]
    refine wpAnyH_ready (rs := [10]) (by kernel_rfl) (by simp) ?_
    refine AllReadyH.cons rfl (fun K hK => ?_) AllReadyH.nil
    refine Eq.mpr (if_pos (by rfl)) ?_
    refine wp_append_o2 _ _ rfl Bd _ _ _ _ rfl HO.out.swap (Nat.le_trans HBd.out HW.out.size) _ (pK (cs.size : Int)) rfl HX2.out.swap (by omega) ?_
    intro x2 u2 hO hb hSd
    replace HW := hid (HW.out.trans hb)
    replace HO := hid hO.swap
    replace HS := hid (hSd _ _ HS.out.swap)
    replace HX1 := hid (hSd _ _ HX1.out.swap)
    replace HX2 := hid (hSd _ _ HX2.out.swap)
    replace HS := hid HS.out.swap
    replace HX1 := hid HX1.out.swap
    replace HX2 := hid HX2.out.swap
    clear hO hb hSd
    refine hK.out _ _ (HS.out.k) (fun hHeld => ?_)
    clear hK K
    try simp only [Act.put, List.setIfInBounds_toArray, List.set_cons_zero, List.set_cons_succ, List.getElem_toArray, List.getElem_cons_zero, List.getElem_cons_succ]
    refine wpAnyH_ready (rs := [11]) (by kernel_rfl) (by simp) ?_
    refine AllReadyH.cons rfl (fun K hK => ?_) AllReadyH.nil
    go_simp
    refine hK.out _ _ (HS.out.k) (fun hHeld => ?_)
    clear hK K
    try simp only [Act.put, List.setIfInBounds_toArray, List.set_cons_zero, List.set_cons_succ, List.getElem_toArray, List.getElem_cons_zero, List.getElem_cons_succ]
    refine wpAnyH_ready (rs := [12]) (by kernel_rfl) (by simp) ?_
    refine AllReadyH.cons rfl (fun K hK => ?_) AllReadyH.nil
    go_simp
    refine hK.out _ _ (HS.out.k) (fun hHeld => ?_)
    clear hK K
    try simp only [Act.put, List.setIfInBounds_toArray, List.set_cons_zero, List.set_cons_succ, List.getElem_toArray, List.getElem_cons_zero, List.getElem_cons_succ]
    refine wpAnyH_done (by kernel_rfl) ?_ _
    go_wp2_with fail
    go_ret2
    exact ⟨_, _, rfl, HO.out, HW.out⟩

set_option maxRecDepth 100000 in
set_option maxHeartbeats 4000000 in
theorem led_any (v1 v2 : Value) (l1 l2 : List Cp) (c d : Cp) (n Bd : Nat) (w : World) (hO : O2 w Bd v1 l1 v2 l2) (hB : Bd ≤ w.heap.size) (h1 : l1.length ≤ 4194304) :
    Calls Try.prog 26 #[v1, .agg c.vals.toArray, .agg d.vals.toArray, .int .i64 (n : Int)] w fun e w' => ∃ x, e = .returned x ∧ O2 w' Bd x (l1 ++ ledS n c d) v2 l2 ∧ Below Bd w w' := by
  obtain ⟨a1, c1, rfl⟩ := hO.o1.form
  have HO := hid hO
  have HBd := hid hB
  clear hO hB
  by_cases hk : d.k = 3
  · have e1 : ledS n c d = [] := if_pos hk
    have hne : (d.k == 3) = true := by simpa using hk
    rw [e1]
    simp only [List.append_nil, Cp.vals]
    clear e1 hk
    go_enter Try.func26, Try.ntmps26
    go_wp2_with fail
    go_ret
    exact ⟨_, rfl, HO.out.later (below2 _ _ _), (below2 _ _ _).mono HBd.out⟩
  · have e1 : ledS n c d = [⟨c.k, n, Em⟩] := if_neg hk
    have hne : (d.k == 3) = false := by simpa using hk
    rw [e1]
    obtain ⟨ub, hub⟩ : ∃ u, (w.alloc (.cells c.vals.toArray 42)).alloc (.cells d.vals.toArray 42) = u := ⟨_, rfl⟩
    have hbu : Below w.heap.size w ub := by rw [← hub]; exact below2 _ _ _
    have k0 : ub.cell? ⟨w.heap.size, 0, none⟩ = some (.int .i64 c.k) := by rw [← hub]; exact ((Blk.new w 42 c.vals).alloc _).cell rfl
    have y0 : ub.cell? ⟨w.heap.size + 1, 0, none⟩ = some (.int .i64 d.k) := by
      have := Blk.new (w.alloc (.cells c.vals.toArray 42)) 42 d.vals
      rw [show (w.alloc (.cells c.vals.toArray 42)).heap.size = w.heap.size + 1 by simp, hub] at this
      exact this.cell rfl
    replace HO := hid (HO.out.later hbu)
    have HW := hid (hbu.mono HBd.out)
    replace HBd := hid (Nat.le_trans HBd.out hbu.size)
    simp only [Cp.vals] at hub ⊢
    clear e1 hk hbu
    obtain ⟨g, hg⟩ : ∃ g, w.heap.size = g := ⟨_, rfl⟩
    rw [hg] at k0 y0
    go_enter Try.func26, Try.ntmps26
    go_upto_region 1 with fail
    clear hub hg
    go_wp2_with (at_builtin; go_must (refine wpList_append_o2 rfl _ _ rfl Bd _ v2 l1 l2 rfl (HO.out.later ((Below.refl _ _).alloc (Nat.le_refl _) (.cells (Cp.vals ⟨c.k, n, Em⟩).toArray 42))) ?hs ub.heap.size ⟨c.k, n, Em⟩ rfl (Side.new HO.out (Cp.vals ⟨c.k, n, Em⟩) rfl) ?hb ?_))
    case hs => have := HBd.out; simp; omega
    case hb => omega
    intro v3 w3 hO3 hb3 hS3
    have HO3 := hid hO3
    have HW3 := hid ((HW.out.alloc HBd.out _).trans hb3)
    clear hO3 hb3 hS3
    go_wp2_with fail
    go_ret
    exact ⟨_, rfl, HO3.out, HW3.out⟩
end Go.Proofs.Ytlgdllbhddnokab

/- The law DeltaKinds: an edit has an operation, and nobody else; the others somebody, and no operation. -/
import Derived.Test.YtajkjbhfkeakhaaKnown8
import Derived.Test.YtajkjbhfkeakhaaHasC
import Derived.Test.YtajkjbhfkeakhaaNormS
import Derived.Test.YtajkjbhfkeakhaaArg
import Derived.Deep.RegionHeld3
namespace Go.Proofs.Ytajkjbhfkeakhaa
open Go.RowKit
set_option linter.unusedSimpArgs false
set_option linter.unusedVariables false

def dk (k D U : Int) : Dl := ⟨0, 0, 0, 0, List.replicate 32 0, k, D, U⟩
theorem dk_len (k D U : Int) : (dk k D U).h.length = 32 := by simp [dk]

theorem dk_chk0 (k : Int) (hk : k = 1 ∨ k = 2 ∨ k = 3) : chkD (dk k 0 0) [] = 0 := by rcases hk with rfl | rfl | rfl <;> decide +kernel
theorem dk_user {D U : Int} (h1 : 0 ≤ D) (h2 : D < 3) (h3 : 0 ≤ U) (h4 : U < 7) : userS D (1 + U) = true := by
  rw [userS, upS_in h1 (by omega), upS_in (by omega) (by omega)]; rfl
theorem dk_ok (k D U : Int) (o : List Cp) : chkD (dk k D U) o = if k = 1 then editS o D U else if k = 2 ∨ k = 3 then peopleS o D U else 3 := rfl
theorem dk_one : chkS [pP ⟨#[120]⟩] = 0 := by decide +kernel

set_option maxRecDepth 100000 in
set_option maxHeartbeats 4000000 in
theorem kinds_any (a : Int) (wa : (Lit.int .i64 a).wf = true) (D U : Int) (wD : (Lit.int .i64 D).wf = true) (wU : (Lit.int .i64 U).wf = true) (w : World) :
    Calls Try.prog 8 #[.int .i64 a, .agg #[.int .i64 D, .int .i64 U]] w fun e w' => e = .returned (.bool true) ∧ Below w.heap.size w w' := by
  clear wa wD wU
  go_enter Try.func8, Try.ntmps8
  go_wp2_with fail
  obtain ⟨L, hL⟩ : ∃ L, w.heap.size = L := ⟨_, rfl⟩
  have Hb0 := hid (show Below L w (w.alloc (.cells #[.int .i64 D, .int .i64 U] 23)) by subst hL; exact (Below.refl _ _).alloc (Nat.le_refl _) _)
  have HB0 := hid (show Blk (w.alloc (.cells #[.int .i64 D, .int .i64 U] 23)) 23 L [.int .i64 D, .int .i64 U] by subst hL; exact Blk.new w _ _)
  have HS0 := hid (show L ≤ (w.alloc (.cells #[.int .i64 D, .int .i64 U] 23)).heap.size by simp; omega)
  generalize w.alloc (.cells #[.int .i64 D, .int .i64 U] 23) = w1 at *
  rw [hL]
  refine (known8_any _).mono ?_
  rintro _ w2 ⟨rfl, hb⟩
  have HB2 := hid (HB0.out.later hb)
  have Hb2 := hid (show Below L w w2 from Hb0.out.trans (hb.mono HS0.out))
  clear hb Hb0 HB0 HS0
  go_wp2_with fail
  refine (within8_any a 3 (by omega) (by omega) _).mono ?_
  rintro _ w' ⟨rfl, hw'⟩
  subst hw'
  obtain ⟨r, hr⟩ : ∃ r, a % 3 = r := ⟨_, rfl⟩
  have hr3 : r = 0 ∨ r = 1 ∨ r = 2 := by omega
  rw [hr]
  clear hr
  obtain ⟨D1, hD1⟩ : ∃ D1, D % 3 = D1 := ⟨_, rfl⟩
  obtain ⟨U1, hU1⟩ : ∃ U1, U % 7 = U1 := ⟨_, rfl⟩
  have hD0 : 0 ≤ D1 := by omega
  have hD3 : D1 < 3 := by omega
  have hU0 : 0 ≤ U1 := by omega
  have hU7 : U1 < 7 := by omega
  have HD1 := hid hD1
  have HU1 := hid hU1
  clear hD1 hU1
  have hw2 := HB2.out.lt
  have HSZ := hid (show L ≤ w.heap.size by omega)
  have hr0 : 0 ≤ r := by omega
  have hr2 : r ≤ 2 := by omega
  have HR3 := hid hr3
  clear hr3
  go_upto_region 4 with fail
  go_cut [] (fun w' => Blk w' 23 L [.int .i64 D1, .int .i64 (1 + U1)] ∧ Below L w w')
  case first =>
    have c0 := HB2.out.cell (j := 0) rfl
    have c1 := HB2.out.cell (j := 1) rfl
    have f0 := HB2.out.frozen 0
    have f1 := HB2.out.frozen 1
    have HST := hid (show Blk ((w'.setCell ⟨L, 0, none⟩ (.int .i64 D1)).setCell ⟨L, 1, none⟩ (.int .i64 (1 + U1))).drew 23 L [.int .i64 D1, .int .i64 (1 + U1)] ∧ Below L w ((w'.setCell ⟨L, 0, none⟩ (.int .i64 D1)).setCell ⟨L, 1, none⟩ (.int .i64 (1 + U1))).drew from
      ⟨((HB2.out.setCell 0 _).setCell 1 _).drewN 1, ((Hb2.out.setCell (Nat.le_refl _) _).setCell (Nat.le_refl _) _).drew⟩)
    have HWU := hid (show IntKind.i64.wrap (1 + U1) = 1 + U1 by rw [IntKind.wrap_i64]; omega)
    -- the region
    refine wp_region_held_drew (S := fun w' => True) (by kernel_rfl) (trivial) (fun hHeld => ?_)
    refine wpAnyH_take (i := 0) (v := .pointer (some ⟨L, 0, none⟩)) rfl (by kernel_rfl) (by kernel_rfl) (by kernel_rfl) (fun _ _ _ h => h) (Or.inl ⟨by rfl, by intro w hSw; go_simp⟩) hHeld ?_
    try simp only [Act.put, List.setIfInBounds_toArray, List.set_cons_zero, List.set_cons_succ, List.getElem_toArray, List.getElem_cons_zero, List.getElem_cons_succ]
    refine wpAnyH_take (i := 3) (v := .pointer (some ⟨L, 1, none⟩)) rfl (by kernel_rfl) (by kernel_rfl) (by kernel_rfl) (fun _ _ _ h => h) (Or.inl ⟨by rfl, by intro w hSw; go_simp⟩) hHeld ?_
    try simp only [Act.put, List.setIfInBounds_toArray, List.set_cons_zero, List.set_cons_succ, List.getElem_toArray, List.getElem_cons_zero, List.getElem_cons_succ]
    refine wpAnyH_ready (rs := [1, 4]) (by kernel_rfl) (by simp) ?_
    refine AllReadyH.cons rfl (fun K hK => ?_) (AllReadyH.cons rfl (fun K hK => ?_) (AllReadyH.nil))
    · go_simp
      refine hK.out _ _ trivial (fun hHeld => ?_)
      clear hK K
      try simp only [Act.put, List.setIfInBounds_toArray, List.set_cons_zero, List.set_cons_succ, List.getElem_toArray, List.getElem_cons_zero, List.getElem_cons_succ]
      refine wpAnyH_ready (rs := [2, 4]) (by kernel_rfl) (by simp) ?_
      refine AllReadyH.cons rfl (fun K hK => ?_) (AllReadyH.cons rfl (fun K hK => ?_) (AllReadyH.nil))
      · go_simp
        refine (within8_any _ 3 (by omega) (by omega) _).mono ?_
        rintro _ wz ⟨rfl, hwz⟩
        rw [HD1.out, hwz]
        clear hwz wz
        refine hK.out _ _ trivial (fun hHeld => ?_)
        clear hK K
        try simp only [Act.put, List.setIfInBounds_toArray, List.set_cons_zero, List.set_cons_succ, List.getElem_toArray, List.getElem_cons_zero, List.getElem_cons_succ]
        refine wpAnyH_ready (rs := [4]) (by kernel_rfl) (by simp) ?_
        refine AllReadyH.cons rfl (fun K hK => ?_) (AllReadyH.nil)
        go_simp
        refine hK.out _ _ trivial (fun hHeld => ?_)
        clear hK K
        try simp only [Act.put, List.setIfInBounds_toArray, List.set_cons_zero, List.set_cons_succ, List.getElem_toArray, List.getElem_cons_zero, List.getElem_cons_succ]
        refine wpAnyH_ready (rs := [5]) (by kernel_rfl) (by simp) ?_
        refine AllReadyH.cons rfl (fun K hK => ?_) (AllReadyH.nil)
        go_simp
        refine (within8_any _ 7 (by omega) (by omega) _).mono ?_
        rintro _ wz ⟨rfl, hwz⟩
        rw [HU1.out, hwz]
        clear hwz wz
        refine hK.out _ _ trivial (fun hHeld => ?_)
        clear hK K
        try simp only [Act.put, List.setIfInBounds_toArray, List.set_cons_zero, List.set_cons_succ, List.getElem_toArray, List.getElem_cons_zero, List.getElem_cons_succ]
        refine wpAnyH_take (i := 6) (v := .int .i64 (1 + U1)) rfl (by kernel_rfl) (by kernel_rfl) (by kernel_rfl) (fun _ _ _ h => h) (Or.inl ⟨by rfl, by intro w hSw; have q := HWU.out; go_simp⟩) hHeld ?_
        try simp only [Act.put, List.setIfInBounds_toArray, List.set_cons_zero, List.set_cons_succ, List.getElem_toArray, List.getElem_cons_zero, List.getElem_cons_succ]
        refine wpAnyH_take (i := 7) (v := .agg #[.int .i64 D1, .int .i64 (1 + U1)]) rfl (by kernel_rfl) (by kernel_rfl) (by kernel_rfl) (fun _ _ _ h => h) (Or.inl ⟨by rfl, by intro w hSw; go_simp⟩) hHeld ?_
        try simp only [Act.put, List.setIfInBounds_toArray, List.set_cons_zero, List.set_cons_succ, List.getElem_toArray, List.getElem_cons_zero, List.getElem_cons_succ]
        refine wpAnyH_ready (rs := [8]) (by kernel_rfl) (by simp) ?_
        refine AllReadyH.cons rfl (fun K hK => ?_) AllReadyH.nil
        go_simp
        refine hK.out _ _ trivial (fun hHeld => ?_)
        clear hK K
        try simp only [Act.put, List.setIfInBounds_toArray, List.set_cons_zero, List.set_cons_succ, List.getElem_toArray, List.getElem_cons_zero, List.getElem_cons_succ]
        refine wpAnyH_done (by kernel_rfl) ?_ _
        go_wp2_with fail
        go_meet
        exact HST.out
      · go_simp
        refine hK.out _ _ trivial (fun hHeld => ?_)
        clear hK K
        try simp only [Act.put, List.setIfInBounds_toArray, List.set_cons_zero, List.set_cons_succ, List.getElem_toArray, List.getElem_cons_zero, List.getElem_cons_succ]
        refine wpAnyH_ready (rs := [2]) (by kernel_rfl) (by simp) ?_
        refine AllReadyH.cons rfl (fun K hK => ?_) (AllReadyH.nil)
        go_simp
        refine (within8_any _ 3 (by omega) (by omega) _).mono ?_
        rintro _ wz ⟨rfl, hwz⟩
        rw [HD1.out, hwz]
        clear hwz wz
        refine hK.out _ _ trivial (fun hHeld => ?_)
        clear hK K
        try simp only [Act.put, List.setIfInBounds_toArray, List.set_cons_zero, List.set_cons_succ, List.getElem_toArray, List.getElem_cons_zero, List.getElem_cons_succ]
        refine wpAnyH_ready (rs := [5]) (by kernel_rfl) (by simp) ?_
        refine AllReadyH.cons rfl (fun K hK => ?_) (AllReadyH.nil)
        go_simp
        refine (within8_any _ 7 (by omega) (by omega) _).mono ?_
        rintro _ wz ⟨rfl, hwz⟩
        rw [HU1.out, hwz]
        clear hwz wz
        refine hK.out _ _ trivial (fun hHeld => ?_)
        clear hK K
        try simp only [Act.put, List.setIfInBounds_toArray, List.set_cons_zero, List.set_cons_succ, List.getElem_toArray, List.getElem_cons_zero, List.getElem_cons_succ]
        refine wpAnyH_take (i := 6) (v := .int .i64 (1 + U1)) rfl (by kernel_rfl) (by kernel_rfl) (by kernel_rfl) (fun _ _ _ h => h) (Or.inl ⟨by rfl, by intro w hSw; have q := HWU.out; go_simp⟩) hHeld ?_
        try simp only [Act.put, List.setIfInBounds_toArray, List.set_cons_zero, List.set_cons_succ, List.getElem_toArray, List.getElem_cons_zero, List.getElem_cons_succ]
        refine wpAnyH_take (i := 7) (v := .agg #[.int .i64 D1, .int .i64 (1 + U1)]) rfl (by kernel_rfl) (by kernel_rfl) (by kernel_rfl) (fun _ _ _ h => h) (Or.inl ⟨by rfl, by intro w hSw; go_simp⟩) hHeld ?_
        try simp only [Act.put, List.setIfInBounds_toArray, List.set_cons_zero, List.set_cons_succ, List.getElem_toArray, List.getElem_cons_zero, List.getElem_cons_succ]
        refine wpAnyH_ready (rs := [8]) (by kernel_rfl) (by simp) ?_
        refine AllReadyH.cons rfl (fun K hK => ?_) AllReadyH.nil
        go_simp
        refine hK.out _ _ trivial (fun hHeld => ?_)
        clear hK K
        try simp only [Act.put, List.setIfInBounds_toArray, List.set_cons_zero, List.set_cons_succ, List.getElem_toArray, List.getElem_cons_zero, List.getElem_cons_succ]
        refine wpAnyH_done (by kernel_rfl) ?_ _
        go_wp2_with fail
        go_meet
        exact HST.out
    · go_simp
      refine hK.out _ _ trivial (fun hHeld => ?_)
      clear hK K
      try simp only [Act.put, List.setIfInBounds_toArray, List.set_cons_zero, List.set_cons_succ, List.getElem_toArray, List.getElem_cons_zero, List.getElem_cons_succ]
      refine wpAnyH_ready (rs := [1]) (by kernel_rfl) (by simp) ?_
      refine AllReadyH.cons rfl (fun K hK => ?_) (AllReadyH.nil)
      go_simp
      refine hK.out _ _ trivial (fun hHeld => ?_)
      clear hK K
      try simp only [Act.put, List.setIfInBounds_toArray, List.set_cons_zero, List.set_cons_succ, List.getElem_toArray, List.getElem_cons_zero, List.getElem_cons_succ]
      refine wpAnyH_ready (rs := [2]) (by kernel_rfl) (by simp) ?_
      refine AllReadyH.cons rfl (fun K hK => ?_) (AllReadyH.nil)
      go_simp
      refine (within8_any _ 3 (by omega) (by omega) _).mono ?_
      rintro _ wz ⟨rfl, hwz⟩
      rw [HD1.out, hwz]
      clear hwz wz
      refine hK.out _ _ trivial (fun hHeld => ?_)
      clear hK K
      try simp only [Act.put, List.setIfInBounds_toArray, List.set_cons_zero, List.set_cons_succ, List.getElem_toArray, List.getElem_cons_zero, List.getElem_cons_succ]
      refine wpAnyH_ready (rs := [5]) (by kernel_rfl) (by simp) ?_
      refine AllReadyH.cons rfl (fun K hK => ?_) (AllReadyH.nil)
      go_simp
      refine (within8_any _ 7 (by omega) (by omega) _).mono ?_
      rintro _ wz ⟨rfl, hwz⟩
      rw [HU1.out, hwz]
      clear hwz wz
      refine hK.out _ _ trivial (fun hHeld => ?_)
      clear hK K
      try simp only [Act.put, List.setIfInBounds_toArray, List.set_cons_zero, List.set_cons_succ, List.getElem_toArray, List.getElem_cons_zero, List.getElem_cons_succ]
      refine wpAnyH_take (i := 6) (v := .int .i64 (1 + U1)) rfl (by kernel_rfl) (by kernel_rfl) (by kernel_rfl) (fun _ _ _ h => h) (Or.inl ⟨by rfl, by intro w hSw; have q := HWU.out; go_simp⟩) hHeld ?_
      try simp only [Act.put, List.setIfInBounds_toArray, List.set_cons_zero, List.set_cons_succ, List.getElem_toArray, List.getElem_cons_zero, List.getElem_cons_succ]
      refine wpAnyH_take (i := 7) (v := .agg #[.int .i64 D1, .int .i64 (1 + U1)]) rfl (by kernel_rfl) (by kernel_rfl) (by kernel_rfl) (fun _ _ _ h => h) (Or.inl ⟨by rfl, by intro w hSw; go_simp⟩) hHeld ?_
      try simp only [Act.put, List.setIfInBounds_toArray, List.set_cons_zero, List.set_cons_succ, List.getElem_toArray, List.getElem_cons_zero, List.getElem_cons_succ]
      refine wpAnyH_ready (rs := [8]) (by kernel_rfl) (by simp) ?_
      refine AllReadyH.cons rfl (fun K hK => ?_) AllReadyH.nil
      go_simp
      refine hK.out _ _ trivial (fun hHeld => ?_)
      clear hK K
      try simp only [Act.put, List.setIfInBounds_toArray, List.set_cons_zero, List.set_cons_succ, List.getElem_toArray, List.getElem_cons_zero, List.getElem_cons_succ]
      refine wpAnyH_done (by kernel_rfl) ?_ _
      go_wp2_with fail
      go_meet
      exact HST.out
    -- behind it
  case rest =>
  obtain ⟨hB, hb⟩ := hcut
  have HB3 := hid hB
  have Hb3 := hid hb
  have HS3 := hid hb.size
  clear hB hb HB2 Hb2 hw2 HD1 HU1
  have HR1 := hid (dk_chk0 (1 + r) (by have := HR3.out; omega))
  go_wp2_with fail
  refine (dCheck_any (dk (1 + r) 0 0) (dk_len _ _ _) (.slice none 0 0) [] _ (RC.nil _) (fun c hc => by simp at hc) (by simp)).mono ?_
  rintro _ w4 ⟨rfl, hb4⟩
  rw [HR1.out]
  have HO4 := hid ((parts_new wc [pP ⟨#[120]⟩] 1 rfl).reads.later hb4)
  have HB4 := hid ((HB3.out.alloc (.cells #[.int .i64 2, .int .i64 0, .string ⟨#[120]⟩] 55)).later hb4)
  have Hb4 := hid (show Below L w w4 from (Hb3.out.alloc (by have := HS3.out; omega) (.cells #[.int .i64 2, .int .i64 0, .string ⟨#[120]⟩] 55)).trans (hb4.mono (by have := HS3.out; simp; omega)))
  have c0 := HB4.out.cell (j := 0) rfl
  have c1 := HB4.out.cell (j := 1) rfl
  clear hb4 HB3 Hb3 HR1
  have HE1 := hid (show chkD (dk (1 + r) D1 (1 + U1)) [] = if r = 0 then 1 else 0 by
    rw [dk_ok]
    by_cases h : r = 0
    · subst h
      have e0 : chkS [] = 0 := rfl
      rw [if_pos (by omega), editS, e0, if_neg (by omega), if_neg (by omega), if_pos rfl]
    · rw [if_neg (by omega), if_pos (by have := HR3.out; omega), peopleS, if_pos ⟨rfl, dk_user hD0 hD3 hU0 hU7⟩, if_neg h])
  have HE2 := hid (show chkD (dk (1 + r) 0 0) [pP ⟨#[120]⟩] = if r = 0 then 0 else 1 by
    rw [dk_ok]
    by_cases h : r = 0
    · subst h
      rw [if_pos (by omega), editS, dk_one, if_neg (by omega), if_pos ⟨rfl, rfl⟩, if_pos rfl]
    · rw [if_neg (by omega), if_pos (by have := HR3.out; omega), peopleS, if_neg (by simp), if_neg h])
  go_wp2_with fail
  refine (dCheck_any (dk (1 + r) D1 (1 + U1)) (dk_len _ _ _) (.slice none 0 0) [] _ (RC.nil _) (fun c hc => by simp at hc) (by simp)).mono ?_
  rintro _ w5 ⟨rfl, hb5⟩
  rw [HE1.out]
  have HO5 := hid (HO4.out.later hb5)
  have Hb5 := hid (show Below L w w5 from Hb4.out.trans (hb5.mono (by have := Hb4.out.size; omega)))
  clear hb5 HB4 Hb4 HO4 c0 c1 HE1
  obtain ⟨x, hx⟩ : ∃ x : Int, (if r = 0 then (1 : Int) else 0) = x := ⟨_, rfl⟩
  rw [hx]
  go_wp2_with fail
  refine (dCheck_any (dk (1 + r) 0 0) (dk_len _ _ _) (.slice (some ⟨wc.heap.size, 0, none⟩) 1 1) [pP ⟨#[120]⟩] _ HO5.out (fun c hc => by simp at hc; subst hc; decide) (by simp)).mono ?_
  rintro _ w6 ⟨rfl, hb6⟩
  rw [HE2.out]
  have Hb6 := hid (show Below L w w6 from Hb5.out.trans (hb6.mono (by have := Hb5.out.size; omega)))
  clear hb6 Hb5 HO5 HE2
  by_cases h : r = 0
  · rw [if_pos h] at hx ⊢
    subst hx h
    go_wp2_with fail
    go_ret
    exact ⟨rfl, by subst hL; exact Hb6.out⟩
  · rw [if_neg h] at hx ⊢
    subst hx
    have hne : (1 + r == 1) = false := by simp; omega
    go_wp2_with fail
    go_ret
    exact ⟨rfl, by subst hL; exact Hb6.out⟩
end Go.Proofs.Ytajkjbhfkeakhaa

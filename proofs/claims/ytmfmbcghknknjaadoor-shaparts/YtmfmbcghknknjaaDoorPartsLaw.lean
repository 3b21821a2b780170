/- The law ShaParts: any number of parts, empty ones among them, are summed as one. -/
import Derived.Test.YtmfmbcghknknjaaDoorHasV
import Derived.Test.YtmfmbcghknknjaaDoorWithin2
import Derived.Test.YtmfmbcghknknjaaDoorArg
namespace Go.Proofs.YtmfmbcghknknjaaDoor
open Go.RowKit
set_option linter.unusedSimpArgs false
set_option linter.unusedVariables false

theorem parts_nils (w : World) : Parts (w.alloc (.cells #[.slice none 0 0, .slice none 0 0] 26)) (.slice (some ⟨w.heap.size, 0, none⟩) 2 2) [[], []] :=
  Parts.pair (t := 26) (fr := (0, 0)) (n := 0) (c := 0) (n' := 0) (c' := 0) (p := none) (q := none) (by rw [heap_of_alloc, if_pos rfl]) ⟨none, 0, rfl, Nat.le_refl _, fun _ => rfl, fun _ h => by cases h⟩ rfl (Nat.zero_le _) ⟨none, 0, rfl, Nat.le_refl _, fun _ => rfl, fun _ h => by cases h⟩ rfl (Nat.zero_le _)

set_option maxRecDepth 100000 in
set_option maxHeartbeats 4000000 in
theorem parts_any (m : List UInt8) (ao : Option Addr) (bl cap : Nat) (hbl : m.length = bl) (a1 : Option Addr) (len1 cap1 : Nat) (zs : List Int) (w : World) (ht : Tabs w)
    (hr : Reads w (.slice ao bl cap) (B m)) (hcap : cap ≤ maxLen) (hz : len1 ≤ zs.length) (h1n : a1 = none → len1 = 0) (hcz : ∀ x, a1 = some x → ∀ j, j < len1 → w.cell? (x.add j) = some (.int .i64 (zs.getD j 0))) :
    Calls Tryd.prog 7 #[.slice ao bl cap, .slice a1 len1 cap1] w fun e w' => e = .returned (.bool true) ∧ Below w.heap.size w w' := by
  obtain ⟨i0, hi, hz0, hz1, hz2⟩ := info_parts Tryd.infoBytes
  have hbc : bl ≤ cap := by obtain ⟨_, c, e, hc, _⟩ := hr; injection e with e1 e2 e3; subst e3; rw [B_length, hbl] at hc; exact hc
  have HRd := hid hr
  have HBL := hid hbl
  have HT := hid ht
  have HCZ := hid hcz
  have HN1 := hid h1n
  have hcap63 : cap ≤ 9223372036854775807 := by unfold maxLen at hcap; omega
  have HCap := hid hcap
  have h2 := ht.two
  clear hr hbl ht hcz h1n hcap
  go_enter Tryd.func7, Tryd.ntmps7
  go_wp2_with fail
  refine (known_any _ HT.out).mono ?_
  rintro _ w1 ⟨rfl, hb1⟩
  have Hb1 := hid hb1
  have hs1 := hb1.size
  clear hb1
  by_cases hb3 : (300 : Int) < (bl : Int)
  · go_wp2_with fail
    go_ret
    exact ⟨rfl, Hb1.out⟩
  by_cases hc2 : (20 : Int) < (len1 : Int)
  · go_wp2_with fail
    go_ret
    exact ⟨rfl, Hb1.out⟩
  go_wp2_with fail
  go_loopw [5, 6, 7] (fun v at0 i wr => ∃ (j p : Nat) (ls : List (List UInt8)), j ≤ len1 ∧ p ≤ bl ∧ i = .int .i64 j ∧ at0 = .int .i64 p ∧ ls.length = j ∧ ls.flatten = m.take p ∧ PRow w wr w.heap.size v ls ∧ Below w.heap.size w wr) (fun _ _ i _ => len1 - (intOf i).toNat)
  case atStart => exact ⟨0, 0, [], Nat.zero_le _, Nat.zero_le _, rfl, rfl, rfl, rfl, ⟨[], Has.nil _ _ _, fun j l h => by simp at h⟩, Hb1.out⟩
  case round =>
    obtain ⟨j, p, ls, hj, hp, rfl, rfl, hlj, hfl, hP, hb⟩ := hrel
    have HP := hid hP
    have Hb := hid hb
    have Hlj := hid hlj
    have Hfl := hid hfl
    have hszr := hb.size
    clear hP hb hlj hfl
    by_cases hlt : j < len1
    · have hlt' : (j : Int) < (len1 : Int) := by omega
      cases a1 with
      | none => have := HN1.out rfl; omega
      | some ad =>
      have c := cell_later Hb.out (HCZ.out ad rfl j hlt)
      obtain ⟨x, hx⟩ : ∃ x, zs.getD j 0 = x := ⟨_, rfl⟩
      rw [hx] at c
      clear hx
      obtain ⟨xs, hH, hxs⟩ := HP.out
      rw [Hlj.out] at hH
      have HH := hid hH
      have HX := hid hxs
      have Hxl := hid (show xs.length = ls.length by rw [Hlj.out]; exact hH.len)
      clear hH hxs
      go_wp2_with fail
      refine (within_any x ((bl : Int) - (p : Int) + 1) (by omega) (by omega) _).mono ?_
      rintro _ wC ⟨rfl, rfl⟩
      obtain ⟨k, hk⟩ : ∃ k : Nat, x % ((bl : Int) - (p : Int) + 1) = (k : Int) := Int.eq_ofNat_of_zero_le (Int.emod_nonneg _ (by omega))
      have hkb : k ≤ bl - p := by have := Int.emod_lt_of_pos x (show (0 : Int) < (bl : Int) - (p : Int) + 1 by omega); omega
      rw [hk]
      have Hsl := hid (show ((m.drop p).take k).length = k by rw [List.length_take, List.length_drop, HBL.out]; omega)
      have Hf2 := hid (show (ls ++ [(m.drop p).take k]).flatten = m.take (p + k) by
        rw [List.flatten_append, Hfl.out, List.take_add]
        simp)
      clear c hk
      rcases Nat.lt_or_ge p cap with hpc | hpc
      · have hpc' : (p : Int) < (cap : Int) := by omega
        go_wp2_with (at_builtin; go_must (refine wpList_append_row _ rfl _ _ 22 22 rfl 26 i0 (.slice none 0 0) Tryd.underlying22 hi hz0 hz1 rfl w.heap.size _ j xs rfl (HH.out.alloc _) (by simp; omega) _ 1 _ rfl (Src.ofSlice _ Tryd.underlying22 ⟨wC.heap.size, 0, none⟩ 1 1 [_] rfl (cell_one_new _ _ _) (by intro u hu; simp at hu; subst hu; rfl)) (by omega) (by rw [hz2]; omega) (by omega) ?_); intro v2 w2 hH2 hb2; replace hH2 := hid hH2; replace hb2 := hid hb2)
        go_roundw
        case rel => exact ⟨j + 1, p + k, ls ++ [(m.drop p).take k], by omega, by omega, by go_num, by go_num, by rw [List.length_append, Hlj.out]; rfl, Hf2.out, PRow.snoc HX.out Hxl.out _ _ _ _ Hsl.out (HRd.out.seg p k (by rw [HBL.out]; omega)) (by have := HCap.out; omega) (by rw [Hlj.out]; exact hH2.out), (Hb.out.alloc (by omega) _).trans hb2.out⟩
        case measure => simp [intOf]; omega
      · have hpe : p = cap := by omega
        have hk0 : k = 0 := by omega
        subst hk0
        go_wp2_with (at_builtin; go_must (refine wpList_append_row _ rfl _ _ 22 22 rfl 26 i0 (.slice none 0 0) Tryd.underlying22 hi hz0 hz1 rfl w.heap.size _ j xs rfl (HH.out.alloc _) (by simp; omega) _ 1 _ rfl (Src.ofSlice _ Tryd.underlying22 ⟨wC.heap.size, 0, none⟩ 1 1 [_] rfl (cell_one_new _ _ _) (by intro u hu; simp at hu; subst hu; rfl)) (by omega) (by rw [hz2]; omega) (by omega) ?_); intro v2 w2 hH2 hb2; replace hH2 := hid hH2; replace hb2 := hid hb2)
        go_roundw
        case rel => exact ⟨j + 1, cap, ls ++ [[]], by omega, by omega, by go_num, rfl, by rw [List.length_append, Hlj.out]; rfl, by rw [List.flatten_append, Hfl.out, hpe]; simp, PRow.snoc HX.out Hxl.out [] _ _ _ rfl ⟨ao, 0, rfl, Nat.le_refl _, fun _ => rfl, fun _ _ _ _ hj => by simp [B] at hj⟩ (Nat.zero_le _) (by rw [Hlj.out]; exact hH2.out), (Hb.out.alloc (by omega) _).trans hb2.out⟩
        case measure => simp [intOf]; omega
    · have hjl : j = len1 := by omega
      subst hjl
      obtain ⟨xs, hH, hxs⟩ := HP.out
      rw [Hlj.out] at hH
      have HH := hid hH
      have HX := hid hxs
      have Hxl := hid (show xs.length = ls.length by rw [Hlj.out]; exact hH.len)
      clear hH hxs
      rcases Nat.lt_or_ge p cap with hpc | hpc
      · have hpc' : (p : Int) < (cap : Int) := by omega
        go_wp2_with (at_builtin; go_must (refine wpList_append_row _ rfl _ _ 22 22 rfl 26 i0 (.slice none 0 0) Tryd.underlying22 hi hz0 hz1 rfl w.heap.size _ j xs rfl (HH.out.alloc _) (by simp; omega) _ 1 _ rfl (Src.ofSlice _ Tryd.underlying22 ⟨wr.heap.size, 0, none⟩ 1 1 [_] rfl (cell_one_new _ _ _) (by intro u hu; simp at hu; subst hu; rfl)) (by omega) (by rw [hz2]; omega) (by omega) ?_); intro v2 w2 hH2 hb2; replace hH2 := hid hH2; replace hb2 := hid hb2)
        have HPR := hid (PRow.snoc HX.out Hxl.out (m.drop p) _ _ _ (by rw [List.length_drop, HBL.out]) (HRd.out.dropped p (by rw [HBL.out]; exact hp)) (by have := HCap.out; omega) (by rw [Hlj.out]; exact hH2.out))
        have Hfm := hid (show (ls ++ [m.drop p]).flatten = m by rw [List.flatten_append, Hfl.out]; simp)
        have Hb2 := hid (show Below w.heap.size w w2 from (Hb.out.alloc (by omega) _).trans hb2.out)
        have Hpt := hid (HPR.out.parts Hb2.out)
        have hs2 := Hb2.out.size
        clear hH2 hb2 HH HX Hxl HPR
        refine (Sum_any w2 (HT.out.below Hb2.out h2) v2 _ Hpt.out (by rw [List.length_append, Hlj.out]; simp only [List.length_singleton]; omega) (by rw [Hfm.out, HBL.out]; omega)).mono ?_
        rintro _ w3 ⟨rfl, hb3'⟩
        rw [Hfm.out]
        have Hb3 := hid (below_seq Hb2.out hb3')
        have hE := eqH (shaS m) (shaS_len m)
        clear hb3' Hpt
        go_wp2_with fail
        refine (refSum_any m ao bl cap HBL.out w3 (HRd.out.later Hb3.out) (by omega)).mono ?_
        rintro _ w4 ⟨rfl, hb4⟩
        have Hb4 := hid (below_seq Hb3.out hb4)
        clear hb4
        generalize (B (shaS m)).toArray = hm0 at *
        go_wp2_with fail
        refine (Sum_any w4 (HT.out.below Hb4.out h2) _ [] (Parts.nil w4) (by simp) (by simp)).mono ?_
        rintro _ w5 ⟨rfl, hb5⟩
        rw [show ([] : List (List UInt8)).flatten = [] from rfl]
        have Hb5 := hid (below_seq Hb4.out hb5)
        have hE0 := eqH (shaS []) (shaS_len [])
        clear hb5
        go_wp2_with fail
        refine (refSum_any [] none 0 0 rfl w5 (Has.nil w5 5 0).reads (by omega)).mono ?_
        rintro _ w6 ⟨rfl, hb6⟩
        have Hb6 := hid (below_seq Hb5.out hb6)
        clear hb6
        generalize (B (shaS [])).toArray = hn0 at *
        go_wp2_with fail
        refine (Sum_any _ (HT.out.below (Hb6.out.alloc Hb6.out.size _) h2) _ [[], []] (parts_nils w6) (by simp) (by simp)).mono ?_
        rintro _ w7 ⟨rfl, hb7⟩
        rw [show ([[], []] : List (List UInt8)).flatten = [] from rfl]
        have Hb7 := hid (show Below w.heap.size w w7 from below_seq (Hb6.out.alloc Hb6.out.size _) hb7)
        have hE1 := eqH (shaS []) (shaS_len [])
        clear hb7
        go_wp2_with fail
        refine (refSum_any [] none 0 0 rfl w7 (Has.nil w7 5 0).reads (by omega)).mono ?_
        rintro _ w8 ⟨rfl, hb8⟩
        have Hb8 := hid (below_seq Hb7.out hb8)
        clear hb8
        generalize (B (shaS [])).toArray = hn1 at *
        go_wp2_with fail
        go_ret
        exact ⟨rfl, Hb8.out⟩
      · have hpe : p = cap := by omega
        have hpb : p = bl := by omega
        go_wp2_with (at_builtin; go_must (refine wpList_append_row _ rfl _ _ 22 22 rfl 26 i0 (.slice none 0 0) Tryd.underlying22 hi hz0 hz1 rfl w.heap.size _ j xs rfl (HH.out.alloc _) (by simp; omega) _ 1 _ rfl (Src.ofSlice _ Tryd.underlying22 ⟨wr.heap.size, 0, none⟩ 1 1 [_] rfl (cell_one_new _ _ _) (by intro u hu; simp at hu; subst hu; rfl)) (by omega) (by rw [hz2]; omega) (by omega) ?_); intro v2 w2 hH2 hb2; replace hH2 := hid hH2; replace hb2 := hid hb2)
        have HPR := hid (PRow.snoc (w' := w2) (v' := v2) (Bd := w.heap.size) HX.out Hxl.out [] ao 0 0 rfl ⟨ao, 0, rfl, Nat.le_refl _, fun _ => rfl, fun _ _ _ _ hj => by simp [B] at hj⟩ (Nat.zero_le _) (by rw [Hlj.out]; exact hH2.out))
        have Hfm := hid (show (ls ++ [[]]).flatten = m by rw [List.flatten_append, Hfl.out, hpb, List.take_of_length_le (by rw [HBL.out]; omega)]; simp)
        have Hb2 := hid (show Below w.heap.size w w2 from (Hb.out.alloc (by omega) _).trans hb2.out)
        have Hpt := hid (HPR.out.parts Hb2.out)
        have hs2 := Hb2.out.size
        clear hH2 hb2 HH HX Hxl HPR
        refine (Sum_any w2 (HT.out.below Hb2.out h2) v2 _ Hpt.out (by rw [List.length_append, Hlj.out]; simp only [List.length_singleton]; omega) (by rw [Hfm.out, HBL.out]; omega)).mono ?_
        rintro _ w3 ⟨rfl, hb3'⟩
        rw [Hfm.out]
        have Hb3 := hid (below_seq Hb2.out hb3')
        have hE := eqH (shaS m) (shaS_len m)
        clear hb3' Hpt
        go_wp2_with fail
        refine (refSum_any m ao bl cap HBL.out w3 (HRd.out.later Hb3.out) (by omega)).mono ?_
        rintro _ w4 ⟨rfl, hb4⟩
        have Hb4 := hid (below_seq Hb3.out hb4)
        clear hb4
        generalize (B (shaS m)).toArray = hm0 at *
        go_wp2_with fail
        refine (Sum_any w4 (HT.out.below Hb4.out h2) _ [] (Parts.nil w4) (by simp) (by simp)).mono ?_
        rintro _ w5 ⟨rfl, hb5⟩
        rw [show ([] : List (List UInt8)).flatten = [] from rfl]
        have Hb5 := hid (below_seq Hb4.out hb5)
        have hE0 := eqH (shaS []) (shaS_len [])
        clear hb5
        go_wp2_with fail
        refine (refSum_any [] none 0 0 rfl w5 (Has.nil w5 5 0).reads (by omega)).mono ?_
        rintro _ w6 ⟨rfl, hb6⟩
        have Hb6 := hid (below_seq Hb5.out hb6)
        clear hb6
        generalize (B (shaS [])).toArray = hn0 at *
        go_wp2_with fail
        refine (Sum_any _ (HT.out.below (Hb6.out.alloc Hb6.out.size _) h2) _ [[], []] (parts_nils w6) (by simp) (by simp)).mono ?_
        rintro _ w7 ⟨rfl, hb7⟩
        rw [show ([[], []] : List (List UInt8)).flatten = [] from rfl]
        have Hb7 := hid (show Below w.heap.size w w7 from below_seq (Hb6.out.alloc Hb6.out.size _) hb7)
        have hE1 := eqH (shaS []) (shaS_len [])
        clear hb7
        go_wp2_with fail
        refine (refSum_any [] none 0 0 rfl w7 (Has.nil w7 5 0).reads (by omega)).mono ?_
        rintro _ w8 ⟨rfl, hb8⟩
        have Hb8 := hid (below_seq Hb7.out hb8)
        clear hb8
        generalize (B (shaS [])).toArray = hn1 at *
        go_wp2_with fail
        go_ret
        exact ⟨rfl, Hb8.out⟩

theorem parts_row (a0 : Option Addr) (len0 cap0 : Nat) (z0 : List Int) (w0 : World) (h0 : IsRow .u8 w0 a0 len0 cap0 z0) (a1 : Option Addr) (len1 cap1 : Nat) (z1 : List Int) (h1 : IsRow .i64 w0 a1 len1 cap1 z1) (ht : Tabs w0) :
    Calls Tryd.prog 7 #[.slice a0 len0 cap0, .slice a1 len1 cap1] w0 fun e w' => e = .returned (.bool true) ∧ Below w0.heap.size w0 w' := by
  obtain ⟨l, hl, _, hr⟩ := bytes_of_row h0
  rw [hl] at hr
  have hcap : cap0 ≤ maxLen := by
    rcases h0 with ⟨_, _, rfl, _⟩ | ⟨x, _, _, h, _⟩
    · exact Nat.zero_le _
    · exact h
  rcases h1 with ⟨rfl, rfl, rfl, rfl⟩ | ⟨x, rfl, h1, h2, h3, h4, h5⟩
  · exact parts_any l a0 len0 cap0 hl none 0 0 [] w0 ht hr hcap (Nat.le_refl _) (fun _ => rfl) (fun _ h => by cases h)
  · refine parts_any l a0 len0 cap0 hl (some x) len1 cap1 z1 w0 ht hr hcap (by omega) (fun h => by cases h) (fun y hy j hj => ?_)
    cases hy
    exact h4 j (by omega)
end Go.Proofs.YtmfmbcghknknjaaDoor

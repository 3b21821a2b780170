/- The contracts of package delta's addrBytes, partBytes and OpBytes. -/
import Derived.Test.YtinifnpajkldbaaDoorPk2
import Derived.Test.YtinifnpajkldbaaDoorPk4
import Derived.Deep.RegionHeld3
namespace Go.Proofs.YtinifnpajkldbaaDoor
open Go.RowKit
set_option linter.unusedSimpArgs false
set_option linter.unusedVariables false

set_option maxRecDepth 100000 in
set_option maxHeartbeats 1000000 in
theorem addrB_any (v : Value) (l : List UInt8) (k : Nat) (hk : l.length = k) (D U : Int) (w : World) (hr : Reads w v (B l)) (hb : k + 16 ≤ 140737488355328) :
    Calls Tryd.prog 59 #[v, .agg #[.int .i64 D, .int .i64 U]] w fun e w' => ∃ g cap, e = .returned (.slice (some ⟨g, 0, none⟩) (k + 16) cap) ∧ w.heap.size ≤ g ∧ Owns w' 5 g cap (k + 16) (B (l ++ i8 D ++ i8 U)) ∧ Below w.heap.size w w' := by
  obtain ⟨ao, cp, rfl, _⟩ : ∃ ao cp, v = .slice ao k cp ∧ True := by obtain ⟨a, c, e, _⟩ := hr; rw [B_length, hk] at e; exact ⟨a, c, e, trivial⟩
  have HR := hid hr
  have HK := hid hk
  clear hr hk
  obtain ⟨L, hL⟩ : ∃ L, w.heap.size = L := ⟨_, rfl⟩
  have Hb0 := hid (show Below L w (w.alloc (.cells #[.int .i64 D, .int .i64 U] 24)) by rw [← hL]; exact (Below.refl _ _).alloc (Nat.le_refl _) _)
  have HB0 := hid (show Blk (w.alloc (.cells #[.int .i64 D, .int .i64 U] 24)) 24 L [.int .i64 D, .int .i64 U] by rw [← hL]; exact Blk.new w _ _)
  have HS0 := hid (show L + 1 = (w.alloc (.cells #[.int .i64 D, .int .i64 U] 24)).heap.size by simp; omega)
  have HR0 := hid (HR.out.later ((Below.refl _ _).alloc (Nat.le_refl _) (.cells #[.int .i64 D, .int .i64 U] 24)))
  go_enter Tryd.func59, Tryd.ntmps59
  go_wp2_with fail
  generalize w.alloc (.cells #[.int .i64 D, .int .i64 U] 24) = w1 at *
  try rw [hL]
  refine wp_region_held_drew (S := fun w' => Blk w' 24 L [.int .i64 D, .int .i64 U]) (by kernel_rfl) (HB0.out.drewN 1) (fun hHeld => ?_)
  refine wpAnyH_take (i := 0) (v := .slice ao k cp) rfl (by kernel_rfl) (by kernel_rfl) (by kernel_rfl) (fun _ _ _ h => h) (Or.inl ⟨by rfl, by intro w hSw; go_simp⟩) hHeld ?_
  try simp only [Act.put, List.setIfInBounds_toArray, List.set_cons_zero, List.set_cons_succ, List.getElem_toArray, List.getElem_cons_zero, List.getElem_cons_succ]
  refine wpAnyH_take (i := 1) (v := .pointer (some ⟨L, 0, none⟩)) rfl (by kernel_rfl) (by kernel_rfl) (by kernel_rfl) (fun _ _ _ h => h) (Or.inl ⟨by rfl, by intro w hSw; go_simp⟩) hHeld ?_
  try simp only [Act.put, List.setIfInBounds_toArray, List.set_cons_zero, List.set_cons_succ, List.getElem_toArray, List.getElem_cons_zero, List.getElem_cons_succ]
  refine wpAnyH_take (i := 2) (v := .int .i64 D) rfl (by kernel_rfl) (by kernel_rfl) (by kernel_rfl) (fun _ _ _ h => h) (Or.inl ⟨by rfl, by intro w hSw; have q := hSw.cell (j := 0) rfl; go_simp⟩) hHeld ?_
  try simp only [Act.put, List.setIfInBounds_toArray, List.set_cons_zero, List.set_cons_succ, List.getElem_toArray, List.getElem_cons_zero, List.getElem_cons_succ]
  refine wpAnyH_take (i := 4) (v := .pointer (some ⟨L, 1, none⟩)) rfl (by kernel_rfl) (by kernel_rfl) (by kernel_rfl) (fun _ _ _ h => h) (Or.inl ⟨by rfl, by intro w hSw; go_simp⟩) hHeld ?_
  try simp only [Act.put, List.setIfInBounds_toArray, List.set_cons_zero, List.set_cons_succ, List.getElem_toArray, List.getElem_cons_zero, List.getElem_cons_succ]
  refine wpAnyH_take (i := 5) (v := .int .i64 U) rfl (by kernel_rfl) (by kernel_rfl) (by kernel_rfl) (fun _ _ _ h => h) (Or.inl ⟨by rfl, by intro w hSw; have q := hSw.cell (j := 1) rfl; go_simp⟩) hHeld ?_
  try simp only [Act.put, List.setIfInBounds_toArray, List.set_cons_zero, List.set_cons_succ, List.getElem_toArray, List.getElem_cons_zero, List.getElem_cons_succ]
  refine wpAnyH_ready (rs := [3]) (by kernel_rfl) (by simp) ?_
  refine AllReadyH.cons rfl (fun K hK => ?_) AllReadyH.nil
  go_simp
  refine (cInt (.slice ao k cp) l k HK.out D _ (show Reads w1.drew _ _ from HR0.out) (by omega)).mono ?_
  rintro _ w2 ⟨g2, cap2, rfl, hg2, ho2, hb2⟩
  have hhb : Below w1.heap.size w1.drew w2 := hb2
  refine hK.out _ _ (hHeld.later hb2) (fun hHeld => ?_)
  clear hK K
  try simp only [Act.put, List.setIfInBounds_toArray, List.set_cons_zero, List.set_cons_succ, List.getElem_toArray, List.getElem_cons_zero, List.getElem_cons_succ]
  have HO2 := hid ho2
  have Hb2 := hid (show Below L w w2 from Hb0.out.trans ((below_of_drew hb2).mono (by have h1 : L + 1 = w1.drew.heap.size := HS0.out; omega)))
  have HG2 := hid (show L ≤ g2 by have h1 : w1.heap.size ≤ g2 := hg2; have := HS0.out; omega)
  clear ho2 hb2 hg2 hhb
  refine wpAnyH_ready (rs := [6]) (by kernel_rfl) (by simp) ?_
  refine AllReadyH.cons rfl (fun K hK => ?_) AllReadyH.nil
  go_simp
  refine (cInt (.slice (some ⟨g2, 0, none⟩) (k + 8) cap2) (l ++ i8 D) (k + 8) (by rw [List.length_append, HK.out, i8_len]) U _ HO2.out.reads (by omega)).mono ?_
  rintro _ w3 ⟨g3, cap3, rfl, hg3, ho3, hb3⟩
  refine hK.out _ _ (hHeld.later hb3) (fun hHeld => ?_)
  clear hK K
  try simp only [Act.put, List.setIfInBounds_toArray, List.set_cons_zero, List.set_cons_succ, List.getElem_toArray, List.getElem_cons_zero, List.getElem_cons_succ]
  have HO3 := hid ho3
  have Hb3 := hid (show Below L w w3 from Hb2.out.trans (hb3.mono (by have := Hb2.out.size; omega)))
  have HG3 := hid (show L ≤ g3 by have := Hb2.out.size; omega)
  clear ho3 hb3 hg3
  refine wpAnyH_take (i := 7) (v := .slice (some ⟨g3, 0, none⟩) (k + 8 + 8) cap3) rfl (by kernel_rfl) (by kernel_rfl) (by kernel_rfl) (fun _ _ _ h => h) (Or.inl ⟨by rfl, by intro w hSw; go_simp⟩) hHeld ?_
  try simp only [Act.put, List.setIfInBounds_toArray, List.set_cons_zero, List.set_cons_succ, List.getElem_toArray, List.getElem_cons_zero, List.getElem_cons_succ]
  refine wpAnyH_done (by kernel_rfl) ?_ _
  go_wp2_with fail
  go_ret
  subst hL
  exact ⟨g3, cap3, rfl, HG3.out, HO3.out, Hb3.out⟩

set_option maxRecDepth 100000 in
set_option maxHeartbeats 1000000 in
theorem partB_any (c : Cp) (hc : c.s.size ≤ 65535) (w : World) :
    Calls Tryd.prog 77 #[.agg c.vals.toArray] w fun e w' => ∃ g cap, e = .returned (.slice (some ⟨g, 0, none⟩) (11 + c.s.size) cap) ∧ w.heap.size ≤ g ∧ Owns w' 5 g cap (11 + c.s.size) (B (partB c)) ∧ Below w.heap.size w w' := by
  obtain ⟨k, n, s⟩ := c
  simp only [Cp.vals] at *
  obtain ⟨L, hL⟩ : ∃ L, w.heap.size = L := ⟨_, rfl⟩
  have Hb0 := hid (show Below L w (w.alloc (.cells #[.int .i64 k, .int .i64 n, .string s] 62)) by rw [← hL]; exact (Below.refl _ _).alloc (Nat.le_refl _) _)
  have HB0 := hid (show Blk (w.alloc (.cells #[.int .i64 k, .int .i64 n, .string s] 62)) 62 L [.int .i64 k, .int .i64 n, .string s] by rw [← hL]; exact Blk.new w _ _)
  have HS0 := hid (show L + 1 = (w.alloc (.cells #[.int .i64 k, .int .i64 n, .string s] 62)).heap.size by simp; omega)
  have HC := hid hc
  go_enter Tryd.func77, Tryd.ntmps77
  go_wp2_with fail
  generalize w.alloc (.cells #[.int .i64 k, .int .i64 n, .string s] 62) = w1 at *
  try rw [hL]
  refine wp_region_held_drew (S := fun w' => Blk w' 62 L [.int .i64 k, .int .i64 n, .string s]) (by kernel_rfl) (HB0.out.drewN 1) (fun hHeld => ?_)
  refine wpAnyH_take (i := 0) (v := .pointer (some ⟨L, 0, none⟩)) rfl (by kernel_rfl) (by kernel_rfl) (by kernel_rfl) (fun _ _ _ h => h) (Or.inl ⟨by rfl, by intro w hSw; go_simp⟩) hHeld ?_
  try simp only [Act.put, List.setIfInBounds_toArray, List.set_cons_zero, List.set_cons_succ, List.getElem_toArray, List.getElem_cons_zero, List.getElem_cons_succ]
  refine wpAnyH_take (i := 1) (v := .int .i64 k) rfl (by kernel_rfl) (by kernel_rfl) (by kernel_rfl) (fun _ _ _ h => h) (Or.inl ⟨by rfl, by intro w hSw; have q := hSw.cell (j := 0) rfl; go_simp⟩) hHeld ?_
  try simp only [Act.put, List.setIfInBounds_toArray, List.set_cons_zero, List.set_cons_succ, List.getElem_toArray, List.getElem_cons_zero, List.getElem_cons_succ]
  refine wpAnyH_take (i := 3) (v := .pointer (some ⟨L, 1, none⟩)) rfl (by kernel_rfl) (by kernel_rfl) (by kernel_rfl) (fun _ _ _ h => h) (Or.inl ⟨by rfl, by intro w hSw; go_simp⟩) hHeld ?_
  try simp only [Act.put, List.setIfInBounds_toArray, List.set_cons_zero, List.set_cons_succ, List.getElem_toArray, List.getElem_cons_zero, List.getElem_cons_succ]
  refine wpAnyH_take (i := 4) (v := .int .i64 n) rfl (by kernel_rfl) (by kernel_rfl) (by kernel_rfl) (fun _ _ _ h => h) (Or.inl ⟨by rfl, by intro w hSw; have q := hSw.cell (j := 1) rfl; go_simp⟩) hHeld ?_
  try simp only [Act.put, List.setIfInBounds_toArray, List.set_cons_zero, List.set_cons_succ, List.getElem_toArray, List.getElem_cons_zero, List.getElem_cons_succ]
  refine wpAnyH_take (i := 6) (v := .pointer (some ⟨L, 2, none⟩)) rfl (by kernel_rfl) (by kernel_rfl) (by kernel_rfl) (fun _ _ _ h => h) (Or.inl ⟨by rfl, by intro w hSw; go_simp⟩) hHeld ?_
  try simp only [Act.put, List.setIfInBounds_toArray, List.set_cons_zero, List.set_cons_succ, List.getElem_toArray, List.getElem_cons_zero, List.getElem_cons_succ]
  refine wpAnyH_take (i := 7) (v := .string s) rfl (by kernel_rfl) (by kernel_rfl) (by kernel_rfl) (fun _ _ _ h => h) (Or.inl ⟨by rfl, by intro w hSw; have q := hSw.cell (j := 2) rfl; go_simp⟩) hHeld ?_
  try simp only [Act.put, List.setIfInBounds_toArray, List.set_cons_zero, List.set_cons_succ, List.getElem_toArray, List.getElem_cons_zero, List.getElem_cons_succ]
  refine wpAnyH_ready (rs := [2]) (by kernel_rfl) (by simp) ?_
  refine AllReadyH.cons rfl (fun K hK => ?_) AllReadyH.nil
  go_simp
  refine (cByte (.slice none 0 0) [] 0 rfl k _ (Reads.nil _) (by omega)).mono ?_
  rintro _ w2 ⟨g2, cap2, rfl, hg2, ho2, hb2⟩
  refine hK.out _ _ (hHeld.later hb2) (fun hHeld => ?_)
  clear hK K
  try simp only [Act.put, List.setIfInBounds_toArray, List.set_cons_zero, List.set_cons_succ, List.getElem_toArray, List.getElem_cons_zero, List.getElem_cons_succ]
  have HO2 := hid ho2
  have Hb2 := hid (show Below L w w2 from Hb0.out.trans ((below_of_drew hb2).mono (by have h1 : L + 1 = w1.drew.heap.size := HS0.out; omega)))
  have HG2 := hid (show L ≤ g2 by have h1 : w1.heap.size ≤ g2 := hg2; have := HS0.out; omega)
  clear ho2 hb2 hg2
  refine wpAnyH_ready (rs := [5]) (by kernel_rfl) (by simp) ?_
  refine AllReadyH.cons rfl (fun K hK => ?_) AllReadyH.nil
  go_simp
  refine (cInt (.slice (some ⟨g2, 0, none⟩) (0 + 1) cap2) ([] ++ i1 k) (0 + 1) rfl n _ HO2.out.reads (by omega)).mono ?_
  rintro _ w3 ⟨g3, cap3, rfl, hg3, ho3, hb3⟩
  refine hK.out _ _ (hHeld.later hb3) (fun hHeld => ?_)
  clear hK K
  try simp only [Act.put, List.setIfInBounds_toArray, List.set_cons_zero, List.set_cons_succ, List.getElem_toArray, List.getElem_cons_zero, List.getElem_cons_succ]
  have HO3 := hid ho3
  have Hb3 := hid (show Below L w w3 from Hb2.out.trans (hb3.mono (by have := Hb2.out.size; omega)))
  have HG3 := hid (show L ≤ g3 by have := Hb2.out.size; omega)
  clear ho3 hb3 hg3
  refine wpAnyH_ready (rs := [8]) (by kernel_rfl) (by simp) ?_
  refine AllReadyH.cons rfl (fun K hK => ?_) AllReadyH.nil
  go_simp
  refine (cText (.slice (some ⟨g3, 0, none⟩) (0 + 1 + 8) cap3) ([] ++ i1 k ++ i8 n) (0 + 1 + 8) rfl s _ HO3.out.reads HC.out (by have := HC.out; omega)).mono ?_
  rintro _ w4 ⟨g4, cap4, rfl, hg4, ho4, hb4⟩
  refine hK.out _ _ (hHeld.later hb4) (fun hHeld => ?_)
  clear hK K
  try simp only [Act.put, List.setIfInBounds_toArray, List.set_cons_zero, List.set_cons_succ, List.getElem_toArray, List.getElem_cons_zero, List.getElem_cons_succ]
  have HO4 := hid ho4
  have Hb4 := hid (show Below L w w4 from Hb3.out.trans (hb4.mono (by have := Hb3.out.size; omega)))
  have HG4 := hid (show L ≤ g4 by have := Hb3.out.size; omega)
  clear ho4 hb4 hg4
  refine wpAnyH_take (i := 9) (v := .slice (some ⟨g4, 0, none⟩) (0 + 1 + 8 + 2 + s.size) cap4) rfl (by kernel_rfl) (by kernel_rfl) (by kernel_rfl) (fun _ _ _ h => h) (Or.inl ⟨by rfl, by intro w hSw; go_simp⟩) hHeld ?_
  try simp only [Act.put, List.setIfInBounds_toArray, List.set_cons_zero, List.set_cons_succ, List.getElem_toArray, List.getElem_cons_zero, List.getElem_cons_succ]
  refine wpAnyH_done (by kernel_rfl) ?_ _
  go_wp2_with fail
  go_ret
  subst hL
  refine ⟨g4, cap4, by simp only [Nat.zero_add, Nat.reduceAdd]; rfl, HG4.out, ?_, Hb4.out⟩
  have h := HO4.out
  simp only [Nat.zero_add, Nat.reduceAdd, List.nil_append] at h
  exact h
end Go.Proofs.YtinifnpajkldbaaDoor

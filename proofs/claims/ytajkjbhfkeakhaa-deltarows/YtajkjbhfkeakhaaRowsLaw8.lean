/- The law DeltaRows: each bound by itself: at it, and beyond it. -/
import Derived.Test.YtajkjbhfkeakhaaKnown8
import Derived.Test.YtajkjbhfkeakhaaHasC
import Derived.Test.YtajkjbhfkeakhaaNormS
namespace Go.Proofs.Ytajkjbhfkeakhaa
open Go.RowKit
set_option linter.unusedSimpArgs false
set_option linter.unusedVariables false

def dr : Dl := ⟨0, 0, 5, 6, List.replicate 32 0, 2, 0, 0⟩
theorem dr_len : dr.h.length = 32 := by simp [dr]

theorem HasC.setApart {w : World} {Bd : Nat} {v : Value} {o : List Cp} (h : HasC w Bd v o) {L : Nat} (hL : L < Bd) (j : Nat) (x : Value) : HasC (w.setCell ⟨L, j, none⟩ x) Bd v o := by
  rcases h with h | ⟨g, cap, cur, rfl, h1, h2, h3, h4, h5, h6⟩
  · exact .inl h
  · exact .inr ⟨g, cap, cur, rfl, h1, h2, h3, by rw [heap_setCell_other _ _ _ _ (by show g ≠ L; omega)]; exact h4, h5, h6⟩

/-- The delta, laid into a variable of its own. -/
theorem lay_delta {w1 : World} {L : Nat} {d : Dl} {v : Value} (hd : d.h.length = 32) (hB : Blk w1 29 L (Dl.zero.cells (.slice none 0 0))) (ho : v.oneCell' = true) :
    w1.there L 0 (d.cells v).length ∧ DW (w1.setCells L 0 (d.cells v)) 29 L d v :=
  ⟨(DW.mk Dl.zero_len hB).there (by rw [Dl.len hd]; omega), (DW.mk Dl.zero_len hB).set_all d hd v⟩

set_option maxRecDepth 100000 in
set_option maxHeartbeats 4000000 in
theorem rows8_0b (a : Int) (ha : a % 10 = 0) (w : World) :
    Calls Try.prog 5 #[.int .i64 a, .bool false] w fun e w' => e = .returned (.bool true) ∧ Below w.heap.size w w' := by
  obtain ⟨cs, hcs⟩ : ∃ cs, dr.cells (.slice none 0 0) = cs := ⟨_, rfl⟩
  have HCS := hid hcs
  have hi := hid (show (Try.prog.info? 29).map (·.size) = some 40 by kernel_rfl)
  have HC1 := hid (show ∀ v ∈ cs, v.oneCell' = true by rw [← hcs]; exact Dl.one rfl)
  have HCE := hid (show Value.agg cs.toArray = Value.agg (dr.cells (.slice none 0 0)).toArray by rw [hcs])
  have HL := hid (show cs.length = 40 by rw [← hcs, Dl.len dr_len])
  clear hcs
  go_enter Try.func5, Try.ntmps5
  go_wp2_with fail
  refine (known8_any _).mono ?_
  rintro _ w1 ⟨rfl, hb⟩
  have Hb1 := hid hb
  clear hb
  obtain ⟨L, hL⟩ : ∃ L, w1.heap.size = L := ⟨_, rfl⟩
  have HBZ : Blk (w1.alloc (.cells (Dl.zero.cells (.slice none 0 0)).toArray 29)) 29 L (Dl.zero.cells (.slice none 0 0)) := by rw [← hL]; exact Blk.new w1 29 (Dl.zero.cells (.slice none 0 0))
  have HT := hid (lay_delta (v := .slice none 0 0) dr_len HBZ rfl)
  clear HBZ
  rw [HCS.out] at HT
  have hb2 := hid (show Below L w1 (w1.alloc (.cells (Dl.zero.cells (.slice none 0 0)).toArray 29)) by rw [← hL]; exact (Below.refl _ _).alloc (Nat.le_refl _) _)
  go_wp2_with (show wpList _ _ _ (⟨none, Op.store 29 (Operand.tmp 6) (Operand.tmp 12), _, _, _, _⟩ :: _) _ _; go_must (refine wpList_store_list rfl 29 _ _ rfl L 0 cs rfl HCE.out.symm HT.out.1 (by rw [HL.out]; exact hi.out) HC1.out ?_); intro w3 hw3; have HW := hid HT.out.2; have hw3' : w3 = (w1.alloc (.cells (Dl.zero.cells (.slice none 0 0)).toArray 29)).setCells L 0 cs := hw3; rw [← hw3'] at HW; have hb3 := hid (show Below L w1 w3 by rw [hw3']; exact below_setCells (Nat.le_refl _) _ _ hb2.out); clear hw3 hw3' HT hb2)
  refine (within8_any a 10 (by omega) (by omega) _).mono ?_
  rintro _ wx ⟨rfl, hwx⟩
  rw [ha, hwx]
  clear hwx ha
  have Hb3 := hid (show Below w.heap.size w w3 from by have h := hb3.out; rw [← hL] at h; exact below_seq Hb1.out h)
  have Hb1S := hid (show w.heap.size ≤ L by have := Hb1.out.size; omega)
  clear hb3 Hb1
  obtain ⟨c0, c1, c2, c3, c36, c37, c38, c39⟩ := HW.out.cells
  have f := HW.out.frozen
  go_wp2_with (show wpList _ _ _ (⟨some 70, Op.load _ _, _, _, _, _⟩ :: _) _ _; go_must (refine wpList_load_mid rfl 29 _ rfl L 0 rfl (Dl.cells ({ dr with aD := 2 } : Dl) (.slice none 0 0)) _ (DW.whole (HW.out.set_aD 2)) Try.underlying29 rfl (by rw [Dl.len (by exact dr_len)]; exact hi.out) ?_))
  refine (dCheck_any ({ dr with aD := 2 } : Dl) (by exact dr_len) (.slice none 0 0) [] _ (RC.nil _) (fun c hc => by simp at hc) (by simp)).mono ?_
  rintro _ w5 ⟨rfl, hb5⟩
  rw [show chkD ({ dr with aD := 2 } : Dl) [] = 0 by decide +kernel]
  have Hb5 := hid (show Below w.heap.size w w5 from below_seq (Hb3.out.setCell (by have := Hb1S.out; omega) _) hb5)
  clear hb5
  go_wp2_with fail
  go_ret
  exact ⟨rfl, Hb5.out⟩

set_option maxRecDepth 100000 in
set_option maxHeartbeats 4000000 in
theorem rows8_1b (a : Int) (ha : a % 10 = 1) (w : World) :
    Calls Try.prog 5 #[.int .i64 a, .bool false] w fun e w' => e = .returned (.bool true) ∧ Below w.heap.size w w' := by
  obtain ⟨cs, hcs⟩ : ∃ cs, dr.cells (.slice none 0 0) = cs := ⟨_, rfl⟩
  have HCS := hid hcs
  have hi := hid (show (Try.prog.info? 29).map (·.size) = some 40 by kernel_rfl)
  have HC1 := hid (show ∀ v ∈ cs, v.oneCell' = true by rw [← hcs]; exact Dl.one rfl)
  have HCE := hid (show Value.agg cs.toArray = Value.agg (dr.cells (.slice none 0 0)).toArray by rw [hcs])
  have HL := hid (show cs.length = 40 by rw [← hcs, Dl.len dr_len])
  clear hcs
  go_enter Try.func5, Try.ntmps5
  go_wp2_with fail
  refine (known8_any _).mono ?_
  rintro _ w1 ⟨rfl, hb⟩
  have Hb1 := hid hb
  clear hb
  obtain ⟨L, hL⟩ : ∃ L, w1.heap.size = L := ⟨_, rfl⟩
  have HBZ : Blk (w1.alloc (.cells (Dl.zero.cells (.slice none 0 0)).toArray 29)) 29 L (Dl.zero.cells (.slice none 0 0)) := by rw [← hL]; exact Blk.new w1 29 (Dl.zero.cells (.slice none 0 0))
  have HT := hid (lay_delta (v := .slice none 0 0) dr_len HBZ rfl)
  clear HBZ
  rw [HCS.out] at HT
  have hb2 := hid (show Below L w1 (w1.alloc (.cells (Dl.zero.cells (.slice none 0 0)).toArray 29)) by rw [← hL]; exact (Below.refl _ _).alloc (Nat.le_refl _) _)
  go_wp2_with (show wpList _ _ _ (⟨none, Op.store 29 (Operand.tmp 6) (Operand.tmp 12), _, _, _, _⟩ :: _) _ _; go_must (refine wpList_store_list rfl 29 _ _ rfl L 0 cs rfl HCE.out.symm HT.out.1 (by rw [HL.out]; exact hi.out) HC1.out ?_); intro w3 hw3; have HW := hid HT.out.2; have hw3' : w3 = (w1.alloc (.cells (Dl.zero.cells (.slice none 0 0)).toArray 29)).setCells L 0 cs := hw3; rw [← hw3'] at HW; have hb3 := hid (show Below L w1 w3 by rw [hw3']; exact below_setCells (Nat.le_refl _) _ _ hb2.out); clear hw3 hw3' HT hb2)
  refine (within8_any a 10 (by omega) (by omega) _).mono ?_
  rintro _ wx ⟨rfl, hwx⟩
  rw [ha, hwx]
  clear hwx ha
  have Hb3 := hid (show Below w.heap.size w w3 from by have h := hb3.out; rw [← hL] at h; exact below_seq Hb1.out h)
  have Hb1S := hid (show w.heap.size ≤ L by have := Hb1.out.size; omega)
  clear hb3 Hb1
  obtain ⟨c0, c1, c2, c3, c36, c37, c38, c39⟩ := HW.out.cells
  have f := HW.out.frozen
  go_wp2_with (show wpList _ _ _ (⟨some 70, Op.load _ _, _, _, _, _⟩ :: _) _ _; go_must (refine wpList_load_mid rfl 29 _ rfl L 0 rfl (Dl.cells ({ dr with aU := 7 } : Dl) (.slice none 0 0)) _ (DW.whole (HW.out.set_aU 7)) Try.underlying29 rfl (by rw [Dl.len (by exact dr_len)]; exact hi.out) ?_))
  refine (dCheck_any ({ dr with aU := 7 } : Dl) (by exact dr_len) (.slice none 0 0) [] _ (RC.nil _) (fun c hc => by simp at hc) (by simp)).mono ?_
  rintro _ w5 ⟨rfl, hb5⟩
  rw [show chkD ({ dr with aU := 7 } : Dl) [] = 0 by decide +kernel]
  have Hb5 := hid (show Below w.heap.size w w5 from below_seq (Hb3.out.setCell (by have := Hb1S.out; omega) _) hb5)
  clear hb5
  go_wp2_with fail
  go_ret
  exact ⟨rfl, Hb5.out⟩

set_option maxRecDepth 100000 in
set_option maxHeartbeats 4000000 in
theorem rows8_2b (a : Int) (ha : a % 10 = 2) (w : World) :
    Calls Try.prog 5 #[.int .i64 a, .bool false] w fun e w' => e = .returned (.bool true) ∧ Below w.heap.size w w' := by
  obtain ⟨cs, hcs⟩ : ∃ cs, dr.cells (.slice none 0 0) = cs := ⟨_, rfl⟩
  have HCS := hid hcs
  have hi := hid (show (Try.prog.info? 29).map (·.size) = some 40 by kernel_rfl)
  have HC1 := hid (show ∀ v ∈ cs, v.oneCell' = true by rw [← hcs]; exact Dl.one rfl)
  have HCE := hid (show Value.agg cs.toArray = Value.agg (dr.cells (.slice none 0 0)).toArray by rw [hcs])
  have HL := hid (show cs.length = 40 by rw [← hcs, Dl.len dr_len])
  clear hcs
  go_enter Try.func5, Try.ntmps5
  go_wp2_with fail
  refine (known8_any _).mono ?_
  rintro _ w1 ⟨rfl, hb⟩
  have Hb1 := hid hb
  clear hb
  obtain ⟨L, hL⟩ : ∃ L, w1.heap.size = L := ⟨_, rfl⟩
  have HBZ : Blk (w1.alloc (.cells (Dl.zero.cells (.slice none 0 0)).toArray 29)) 29 L (Dl.zero.cells (.slice none 0 0)) := by rw [← hL]; exact Blk.new w1 29 (Dl.zero.cells (.slice none 0 0))
  have HT := hid (lay_delta (v := .slice none 0 0) dr_len HBZ rfl)
  clear HBZ
  rw [HCS.out] at HT
  have hb2 := hid (show Below L w1 (w1.alloc (.cells (Dl.zero.cells (.slice none 0 0)).toArray 29)) by rw [← hL]; exact (Below.refl _ _).alloc (Nat.le_refl _) _)
  go_wp2_with (show wpList _ _ _ (⟨none, Op.store 29 (Operand.tmp 6) (Operand.tmp 12), _, _, _, _⟩ :: _) _ _; go_must (refine wpList_store_list rfl 29 _ _ rfl L 0 cs rfl HCE.out.symm HT.out.1 (by rw [HL.out]; exact hi.out) HC1.out ?_); intro w3 hw3; have HW := hid HT.out.2; have hw3' : w3 = (w1.alloc (.cells (Dl.zero.cells (.slice none 0 0)).toArray 29)).setCells L 0 cs := hw3; rw [← hw3'] at HW; have hb3 := hid (show Below L w1 w3 by rw [hw3']; exact below_setCells (Nat.le_refl _) _ _ hb2.out); clear hw3 hw3' HT hb2)
  refine (within8_any a 10 (by omega) (by omega) _).mono ?_
  rintro _ wx ⟨rfl, hwx⟩
  rw [ha, hwx]
  clear hwx ha
  have Hb3 := hid (show Below w.heap.size w w3 from by have h := hb3.out; rw [← hL] at h; exact below_seq Hb1.out h)
  have Hb1S := hid (show w.heap.size ≤ L by have := Hb1.out.size; omega)
  clear hb3 Hb1
  obtain ⟨c0, c1, c2, c3, c36, c37, c38, c39⟩ := HW.out.cells
  have f := HW.out.frozen
  go_wp2_with (show wpList _ _ _ (⟨some 70, Op.load _ _, _, _, _, _⟩ :: _) _ _; go_must (refine wpList_load_mid rfl 29 _ rfl L 0 rfl (Dl.cells ({ dr with id := 1073741824 } : Dl) (.slice none 0 0)) _ (DW.whole (HW.out.set_id 1073741824)) Try.underlying29 rfl (by rw [Dl.len (by exact dr_len)]; exact hi.out) ?_))
  refine (dCheck_any ({ dr with id := 1073741824 } : Dl) (by exact dr_len) (.slice none 0 0) [] _ (RC.nil _) (fun c hc => by simp at hc) (by simp)).mono ?_
  rintro _ w5 ⟨rfl, hb5⟩
  rw [show chkD ({ dr with id := 1073741824 } : Dl) [] = 0 by decide +kernel]
  have Hb5 := hid (show Below w.heap.size w w5 from below_seq (Hb3.out.setCell (by have := Hb1S.out; omega) _) hb5)
  clear hb5
  go_wp2_with fail
  go_ret
  exact ⟨rfl, Hb5.out⟩

set_option maxRecDepth 100000 in
set_option maxHeartbeats 4000000 in
theorem rows8_3b (a : Int) (ha : a % 10 = 3) (w : World) :
    Calls Try.prog 5 #[.int .i64 a, .bool false] w fun e w' => e = .returned (.bool true) ∧ Below w.heap.size w w' := by
  obtain ⟨cs, hcs⟩ : ∃ cs, dr.cells (.slice none 0 0) = cs := ⟨_, rfl⟩
  have HCS := hid hcs
  have hi := hid (show (Try.prog.info? 29).map (·.size) = some 40 by kernel_rfl)
  have HC1 := hid (show ∀ v ∈ cs, v.oneCell' = true by rw [← hcs]; exact Dl.one rfl)
  have HCE := hid (show Value.agg cs.toArray = Value.agg (dr.cells (.slice none 0 0)).toArray by rw [hcs])
  have HL := hid (show cs.length = 40 by rw [← hcs, Dl.len dr_len])
  clear hcs
  go_enter Try.func5, Try.ntmps5
  go_wp2_with fail
  refine (known8_any _).mono ?_
  rintro _ w1 ⟨rfl, hb⟩
  have Hb1 := hid hb
  clear hb
  obtain ⟨L, hL⟩ : ∃ L, w1.heap.size = L := ⟨_, rfl⟩
  have HBZ : Blk (w1.alloc (.cells (Dl.zero.cells (.slice none 0 0)).toArray 29)) 29 L (Dl.zero.cells (.slice none 0 0)) := by rw [← hL]; exact Blk.new w1 29 (Dl.zero.cells (.slice none 0 0))
  have HT := hid (lay_delta (v := .slice none 0 0) dr_len HBZ rfl)
  clear HBZ
  rw [HCS.out] at HT
  have hb2 := hid (show Below L w1 (w1.alloc (.cells (Dl.zero.cells (.slice none 0 0)).toArray 29)) by rw [← hL]; exact (Below.refl _ _).alloc (Nat.le_refl _) _)
  go_wp2_with (show wpList _ _ _ (⟨none, Op.store 29 (Operand.tmp 6) (Operand.tmp 12), _, _, _, _⟩ :: _) _ _; go_must (refine wpList_store_list rfl 29 _ _ rfl L 0 cs rfl HCE.out.symm HT.out.1 (by rw [HL.out]; exact hi.out) HC1.out ?_); intro w3 hw3; have HW := hid HT.out.2; have hw3' : w3 = (w1.alloc (.cells (Dl.zero.cells (.slice none 0 0)).toArray 29)).setCells L 0 cs := hw3; rw [← hw3'] at HW; have hb3 := hid (show Below L w1 w3 by rw [hw3']; exact below_setCells (Nat.le_refl _) _ _ hb2.out); clear hw3 hw3' HT hb2)
  refine (within8_any a 10 (by omega) (by omega) _).mono ?_
  rintro _ wx ⟨rfl, hwx⟩
  rw [ha, hwx]
  clear hwx ha
  have Hb3 := hid (show Below w.heap.size w w3 from by have h := hb3.out; rw [← hL] at h; exact below_seq Hb1.out h)
  have Hb1S := hid (show w.heap.size ≤ L by have := Hb1.out.size; omega)
  clear hb3 Hb1
  obtain ⟨c0, c1, c2, c3, c36, c37, c38, c39⟩ := HW.out.cells
  have f := HW.out.frozen
  go_wp2_with (show wpList _ _ _ (⟨some 70, Op.load _ _, _, _, _, _⟩ :: _) _ _; go_must (refine wpList_load_mid rfl 29 _ rfl L 0 rfl (Dl.cells ({ dr with id := 0 } : Dl) (.slice none 0 0)) _ (DW.whole (HW.out.set_id 0)) Try.underlying29 rfl (by rw [Dl.len (by exact dr_len)]; exact hi.out) ?_))
  refine (dCheck_any ({ dr with id := 0 } : Dl) (by exact dr_len) (.slice none 0 0) [] _ (RC.nil _) (fun c hc => by simp at hc) (by simp)).mono ?_
  rintro _ w5 ⟨rfl, hb5⟩
  rw [show chkD ({ dr with id := 0 } : Dl) [] = 0 by decide +kernel]
  have Hb5 := hid (show Below w.heap.size w w5 from below_seq (Hb3.out.setCell (by have := Hb1S.out; omega) _) hb5)
  clear hb5
  go_wp2_with fail
  go_ret
  exact ⟨rfl, Hb5.out⟩

set_option maxRecDepth 100000 in
set_option maxHeartbeats 4000000 in
theorem rows8_4b (a : Int) (ha : a % 10 = 4) (w : World) :
    Calls Try.prog 5 #[.int .i64 a, .bool false] w fun e w' => e = .returned (.bool true) ∧ Below w.heap.size w w' := by
  obtain ⟨cs, hcs⟩ : ∃ cs, dr.cells (.slice none 0 0) = cs := ⟨_, rfl⟩
  have HCS := hid hcs
  have hi := hid (show (Try.prog.info? 29).map (·.size) = some 40 by kernel_rfl)
  have HC1 := hid (show ∀ v ∈ cs, v.oneCell' = true by rw [← hcs]; exact Dl.one rfl)
  have HCE := hid (show Value.agg cs.toArray = Value.agg (dr.cells (.slice none 0 0)).toArray by rw [hcs])
  have HL := hid (show cs.length = 40 by rw [← hcs, Dl.len dr_len])
  clear hcs
  go_enter Try.func5, Try.ntmps5
  go_wp2_with fail
  refine (known8_any _).mono ?_
  rintro _ w1 ⟨rfl, hb⟩
  have Hb1 := hid hb
  clear hb
  obtain ⟨L, hL⟩ : ∃ L, w1.heap.size = L := ⟨_, rfl⟩
  have HBZ : Blk (w1.alloc (.cells (Dl.zero.cells (.slice none 0 0)).toArray 29)) 29 L (Dl.zero.cells (.slice none 0 0)) := by rw [← hL]; exact Blk.new w1 29 (Dl.zero.cells (.slice none 0 0))
  have HT := hid (lay_delta (v := .slice none 0 0) dr_len HBZ rfl)
  clear HBZ
  rw [HCS.out] at HT
  have hb2 := hid (show Below L w1 (w1.alloc (.cells (Dl.zero.cells (.slice none 0 0)).toArray 29)) by rw [← hL]; exact (Below.refl _ _).alloc (Nat.le_refl _) _)
  go_wp2_with (show wpList _ _ _ (⟨none, Op.store 29 (Operand.tmp 6) (Operand.tmp 12), _, _, _, _⟩ :: _) _ _; go_must (refine wpList_store_list rfl 29 _ _ rfl L 0 cs rfl HCE.out.symm HT.out.1 (by rw [HL.out]; exact hi.out) HC1.out ?_); intro w3 hw3; have HW := hid HT.out.2; have hw3' : w3 = (w1.alloc (.cells (Dl.zero.cells (.slice none 0 0)).toArray 29)).setCells L 0 cs := hw3; rw [← hw3'] at HW; have hb3 := hid (show Below L w1 w3 by rw [hw3']; exact below_setCells (Nat.le_refl _) _ _ hb2.out); clear hw3 hw3' HT hb2)
  refine (within8_any a 10 (by omega) (by omega) _).mono ?_
  rintro _ wx ⟨rfl, hwx⟩
  rw [ha, hwx]
  clear hwx ha
  have Hb3 := hid (show Below w.heap.size w w3 from by have h := hb3.out; rw [← hL] at h; exact below_seq Hb1.out h)
  have Hb1S := hid (show w.heap.size ≤ L by have := Hb1.out.size; omega)
  clear hb3 Hb1
  obtain ⟨c0, c1, c2, c3, c36, c37, c38, c39⟩ := HW.out.cells
  have f := HW.out.frozen
  go_wp2_with (show wpList _ _ _ (⟨some 70, Op.load _ _, _, _, _, _⟩ :: _) _ _; go_must (refine wpList_load_mid rfl 29 _ rfl L 0 rfl (Dl.cells ({ dr with ver := 1048576 } : Dl) (.slice none 0 0)) _ (DW.whole (HW.out.set_ver 1048576)) Try.underlying29 rfl (by rw [Dl.len (by exact dr_len)]; exact hi.out) ?_))
  refine (dCheck_any ({ dr with ver := 1048576 } : Dl) (by exact dr_len) (.slice none 0 0) [] _ (RC.nil _) (fun c hc => by simp at hc) (by simp)).mono ?_
  rintro _ w5 ⟨rfl, hb5⟩
  rw [show chkD ({ dr with ver := 1048576 } : Dl) [] = 0 by decide +kernel]
  have Hb5 := hid (show Below w.heap.size w w5 from below_seq (Hb3.out.setCell (by have := Hb1S.out; omega) _) hb5)
  clear hb5
  go_wp2_with fail
  go_ret
  exact ⟨rfl, Hb5.out⟩

set_option maxRecDepth 100000 in
set_option maxHeartbeats 4000000 in
theorem rows8_5b (a : Int) (ha : a % 10 = 5) (w : World) :
    Calls Try.prog 5 #[.int .i64 a, .bool false] w fun e w' => e = .returned (.bool true) ∧ Below w.heap.size w w' := by
  obtain ⟨cs, hcs⟩ : ∃ cs, dr.cells (.slice none 0 0) = cs := ⟨_, rfl⟩
  have HCS := hid hcs
  have hi := hid (show (Try.prog.info? 29).map (·.size) = some 40 by kernel_rfl)
  have HC1 := hid (show ∀ v ∈ cs, v.oneCell' = true by rw [← hcs]; exact Dl.one rfl)
  have HCE := hid (show Value.agg cs.toArray = Value.agg (dr.cells (.slice none 0 0)).toArray by rw [hcs])
  have HL := hid (show cs.length = 40 by rw [← hcs, Dl.len dr_len])
  clear hcs
  go_enter Try.func5, Try.ntmps5
  go_wp2_with fail
  refine (known8_any _).mono ?_
  rintro _ w1 ⟨rfl, hb⟩
  have Hb1 := hid hb
  clear hb
  obtain ⟨L, hL⟩ : ∃ L, w1.heap.size = L := ⟨_, rfl⟩
  have HBZ : Blk (w1.alloc (.cells (Dl.zero.cells (.slice none 0 0)).toArray 29)) 29 L (Dl.zero.cells (.slice none 0 0)) := by rw [← hL]; exact Blk.new w1 29 (Dl.zero.cells (.slice none 0 0))
  have HT := hid (lay_delta (v := .slice none 0 0) dr_len HBZ rfl)
  clear HBZ
  rw [HCS.out] at HT
  have hb2 := hid (show Below L w1 (w1.alloc (.cells (Dl.zero.cells (.slice none 0 0)).toArray 29)) by rw [← hL]; exact (Below.refl _ _).alloc (Nat.le_refl _) _)
  go_wp2_with (show wpList _ _ _ (⟨none, Op.store 29 (Operand.tmp 6) (Operand.tmp 12), _, _, _, _⟩ :: _) _ _; go_must (refine wpList_store_list rfl 29 _ _ rfl L 0 cs rfl HCE.out.symm HT.out.1 (by rw [HL.out]; exact hi.out) HC1.out ?_); intro w3 hw3; have HW := hid HT.out.2; have hw3' : w3 = (w1.alloc (.cells (Dl.zero.cells (.slice none 0 0)).toArray 29)).setCells L 0 cs := hw3; rw [← hw3'] at HW; have hb3 := hid (show Below L w1 w3 by rw [hw3']; exact below_setCells (Nat.le_refl _) _ _ hb2.out); clear hw3 hw3' HT hb2)
  refine (within8_any a 10 (by omega) (by omega) _).mono ?_
  rintro _ wx ⟨rfl, hwx⟩
  rw [ha, hwx]
  clear hwx ha
  have Hb3 := hid (show Below w.heap.size w w3 from by have h := hb3.out; rw [← hL] at h; exact below_seq Hb1.out h)
  have Hb1S := hid (show w.heap.size ≤ L by have := Hb1.out.size; omega)
  clear hb3 Hb1
  obtain ⟨c0, c1, c2, c3, c36, c37, c38, c39⟩ := HW.out.cells
  have f := HW.out.frozen
  go_wp2_with (show wpList _ _ _ (⟨some 70, Op.load _ _, _, _, _, _⟩ :: _) _ _; go_must (refine wpList_load_mid rfl 29 _ rfl L 0 rfl (Dl.cells ({ dr with ver := 0 } : Dl) (.slice none 0 0)) _ (DW.whole (HW.out.set_ver 0)) Try.underlying29 rfl (by rw [Dl.len (by exact dr_len)]; exact hi.out) ?_))
  refine (dCheck_any ({ dr with ver := 0 } : Dl) (by exact dr_len) (.slice none 0 0) [] _ (RC.nil _) (fun c hc => by simp at hc) (by simp)).mono ?_
  rintro _ w5 ⟨rfl, hb5⟩
  rw [show chkD ({ dr with ver := 0 } : Dl) [] = 0 by decide +kernel]
  have Hb5 := hid (show Below w.heap.size w w5 from below_seq (Hb3.out.setCell (by have := Hb1S.out; omega) _) hb5)
  clear hb5
  go_wp2_with fail
  go_ret
  exact ⟨rfl, Hb5.out⟩

set_option maxRecDepth 100000 in
set_option maxHeartbeats 4000000 in
theorem rows8_6b (a : Int) (ha : a % 10 = 6) (w : World) :
    Calls Try.prog 5 #[.int .i64 a, .bool false] w fun e w' => e = .returned (.bool true) ∧ Below w.heap.size w w' := by
  obtain ⟨cs, hcs⟩ : ∃ cs, dr.cells (.slice none 0 0) = cs := ⟨_, rfl⟩
  have HCS := hid hcs
  have hi := hid (show (Try.prog.info? 29).map (·.size) = some 40 by kernel_rfl)
  have HC1 := hid (show ∀ v ∈ cs, v.oneCell' = true by rw [← hcs]; exact Dl.one rfl)
  have HCE := hid (show Value.agg cs.toArray = Value.agg (dr.cells (.slice none 0 0)).toArray by rw [hcs])
  have HL := hid (show cs.length = 40 by rw [← hcs, Dl.len dr_len])
  clear hcs
  go_enter Try.func5, Try.ntmps5
  go_wp2_with fail
  refine (known8_any _).mono ?_
  rintro _ w1 ⟨rfl, hb⟩
  have Hb1 := hid hb
  clear hb
  obtain ⟨L, hL⟩ : ∃ L, w1.heap.size = L := ⟨_, rfl⟩
  have HBZ : Blk (w1.alloc (.cells (Dl.zero.cells (.slice none 0 0)).toArray 29)) 29 L (Dl.zero.cells (.slice none 0 0)) := by rw [← hL]; exact Blk.new w1 29 (Dl.zero.cells (.slice none 0 0))
  have HT := hid (lay_delta (v := .slice none 0 0) dr_len HBZ rfl)
  clear HBZ
  rw [HCS.out] at HT
  have hb2 := hid (show Below L w1 (w1.alloc (.cells (Dl.zero.cells (.slice none 0 0)).toArray 29)) by rw [← hL]; exact (Below.refl _ _).alloc (Nat.le_refl _) _)
  go_wp2_with (show wpList _ _ _ (⟨none, Op.store 29 (Operand.tmp 6) (Operand.tmp 12), _, _, _, _⟩ :: _) _ _; go_must (refine wpList_store_list rfl 29 _ _ rfl L 0 cs rfl HCE.out.symm HT.out.1 (by rw [HL.out]; exact hi.out) HC1.out ?_); intro w3 hw3; have HW := hid HT.out.2; have hw3' : w3 = (w1.alloc (.cells (Dl.zero.cells (.slice none 0 0)).toArray 29)).setCells L 0 cs := hw3; rw [← hw3'] at HW; have hb3 := hid (show Below L w1 w3 by rw [hw3']; exact below_setCells (Nat.le_refl _) _ _ hb2.out); clear hw3 hw3' HT hb2)
  refine (within8_any a 10 (by omega) (by omega) _).mono ?_
  rintro _ wx ⟨rfl, hwx⟩
  rw [ha, hwx]
  clear hwx ha
  have Hb3 := hid (show Below w.heap.size w w3 from by have h := hb3.out; rw [← hL] at h; exact below_seq Hb1.out h)
  have Hb1S := hid (show w.heap.size ≤ L by have := Hb1.out.size; omega)
  clear hb3 Hb1
  obtain ⟨c0, c1, c2, c3, c36, c37, c38, c39⟩ := HW.out.cells
  have f := HW.out.frozen
  go_wp2_with (show wpList _ _ _ (⟨some 70, Op.load _ _, _, _, _, _⟩ :: _) _ _; go_must (refine wpList_load_mid rfl 29 _ rfl L 0 rfl (Dl.cells ({ dr with wU := 7 } : Dl) (.slice none 0 0)) _ (DW.whole (HW.out.set_wU 7)) Try.underlying29 rfl (by rw [Dl.len (by exact dr_len)]; exact hi.out) ?_))
  refine (dCheck_any ({ dr with wU := 7 } : Dl) (by exact dr_len) (.slice none 0 0) [] _ (RC.nil _) (fun c hc => by simp at hc) (by simp)).mono ?_
  rintro _ w5 ⟨rfl, hb5⟩
  rw [show chkD ({ dr with wU := 7 } : Dl) [] = 0 by decide +kernel]
  have Hb5 := hid (show Below w.heap.size w w5 from below_seq (Hb3.out.setCell (by have := Hb1S.out; omega) _) hb5)
  clear hb5
  go_wp2_with fail
  go_ret
  exact ⟨rfl, Hb5.out⟩

set_option maxRecDepth 100000 in
set_option maxHeartbeats 4000000 in
theorem rows8_7b (a : Int) (ha : a % 10 = 7) (w : World) :
    Calls Try.prog 5 #[.int .i64 a, .bool false] w fun e w' => e = .returned (.bool true) ∧ Below w.heap.size w w' := by
  obtain ⟨cs, hcs⟩ : ∃ cs, dr.cells (.slice none 0 0) = cs := ⟨_, rfl⟩
  have HCS := hid hcs
  have hi := hid (show (Try.prog.info? 29).map (·.size) = some 40 by kernel_rfl)
  have HC1 := hid (show ∀ v ∈ cs, v.oneCell' = true by rw [← hcs]; exact Dl.one rfl)
  have HCE := hid (show Value.agg cs.toArray = Value.agg (dr.cells (.slice none 0 0)).toArray by rw [hcs])
  have HL := hid (show cs.length = 40 by rw [← hcs, Dl.len dr_len])
  clear hcs
  go_enter Try.func5, Try.ntmps5
  go_wp2_with fail
  refine (known8_any _).mono ?_
  rintro _ w1 ⟨rfl, hb⟩
  have Hb1 := hid hb
  clear hb
  obtain ⟨L, hL⟩ : ∃ L, w1.heap.size = L := ⟨_, rfl⟩
  have HBZ : Blk (w1.alloc (.cells (Dl.zero.cells (.slice none 0 0)).toArray 29)) 29 L (Dl.zero.cells (.slice none 0 0)) := by rw [← hL]; exact Blk.new w1 29 (Dl.zero.cells (.slice none 0 0))
  have HT := hid (lay_delta (v := .slice none 0 0) dr_len HBZ rfl)
  clear HBZ
  rw [HCS.out] at HT
  have hb2 := hid (show Below L w1 (w1.alloc (.cells (Dl.zero.cells (.slice none 0 0)).toArray 29)) by rw [← hL]; exact (Below.refl _ _).alloc (Nat.le_refl _) _)
  go_wp2_with (show wpList _ _ _ (⟨none, Op.store 29 (Operand.tmp 6) (Operand.tmp 12), _, _, _, _⟩ :: _) _ _; go_must (refine wpList_store_list rfl 29 _ _ rfl L 0 cs rfl HCE.out.symm HT.out.1 (by rw [HL.out]; exact hi.out) HC1.out ?_); intro w3 hw3; have HW := hid HT.out.2; have hw3' : w3 = (w1.alloc (.cells (Dl.zero.cells (.slice none 0 0)).toArray 29)).setCells L 0 cs := hw3; rw [← hw3'] at HW; have hb3 := hid (show Below L w1 w3 by rw [hw3']; exact below_setCells (Nat.le_refl _) _ _ hb2.out); clear hw3 hw3' HT hb2)
  refine (within8_any a 10 (by omega) (by omega) _).mono ?_
  rintro _ wx ⟨rfl, hwx⟩
  rw [ha, hwx]
  clear hwx ha
  have Hb3 := hid (show Below w.heap.size w w3 from by have h := hb3.out; rw [← hL] at h; exact below_seq Hb1.out h)
  have Hb1S := hid (show w.heap.size ≤ L by have := Hb1.out.size; omega)
  clear hb3 Hb1
  obtain ⟨c0, c1, c2, c3, c36, c37, c38, c39⟩ := HW.out.cells
  have f := HW.out.frozen
  go_wp2_with (show wpList _ _ _ (⟨some 70, Op.load _ _, _, _, _, _⟩ :: _) _ _; go_must (refine wpList_load_mid rfl 29 _ rfl L 0 rfl (Dl.cells ({ dr with k := 3 } : Dl) (.slice none 0 0)) _ (DW.whole (HW.out.set_k 3)) Try.underlying29 rfl (by rw [Dl.len (by exact dr_len)]; exact hi.out) ?_))
  refine (dCheck_any ({ dr with k := 3 } : Dl) (by exact dr_len) (.slice none 0 0) [] _ (RC.nil _) (fun c hc => by simp at hc) (by simp)).mono ?_
  rintro _ w5 ⟨rfl, hb5⟩
  rw [show chkD ({ dr with k := 3 } : Dl) [] = 0 by decide +kernel]
  have Hb5 := hid (show Below w.heap.size w w5 from below_seq (Hb3.out.setCell (by have := Hb1S.out; omega) _) hb5)
  clear hb5
  go_wp2_with fail
  go_ret
  exact ⟨rfl, Hb5.out⟩

set_option maxRecDepth 100000 in
set_option maxHeartbeats 4000000 in
theorem rows8_8b (a : Int) (ha : a % 10 = 8) (w : World) :
    Calls Try.prog 5 #[.int .i64 a, .bool false] w fun e w' => e = .returned (.bool true) ∧ Below w.heap.size w w' := by
  obtain ⟨cs, hcs⟩ : ∃ cs, dr.cells (.slice none 0 0) = cs := ⟨_, rfl⟩
  have HCS := hid hcs
  have hi := hid (show (Try.prog.info? 29).map (·.size) = some 40 by kernel_rfl)
  have HC1 := hid (show ∀ v ∈ cs, v.oneCell' = true by rw [← hcs]; exact Dl.one rfl)
  have HCE := hid (show Value.agg cs.toArray = Value.agg (dr.cells (.slice none 0 0)).toArray by rw [hcs])
  have HL := hid (show cs.length = 40 by rw [← hcs, Dl.len dr_len])
  clear hcs
  go_enter Try.func5, Try.ntmps5
  go_wp2_with fail
  refine (known8_any _).mono ?_
  rintro _ w1 ⟨rfl, hb⟩
  have Hb1 := hid hb
  clear hb
  obtain ⟨L, hL⟩ : ∃ L, w1.heap.size = L := ⟨_, rfl⟩
  have HBZ : Blk (w1.alloc (.cells (Dl.zero.cells (.slice none 0 0)).toArray 29)) 29 L (Dl.zero.cells (.slice none 0 0)) := by rw [← hL]; exact Blk.new w1 29 (Dl.zero.cells (.slice none 0 0))
  have HT := hid (lay_delta (v := .slice none 0 0) dr_len HBZ rfl)
  clear HBZ
  rw [HCS.out] at HT
  have hb2 := hid (show Below L w1 (w1.alloc (.cells (Dl.zero.cells (.slice none 0 0)).toArray 29)) by rw [← hL]; exact (Below.refl _ _).alloc (Nat.le_refl _) _)
  go_wp2_with (show wpList _ _ _ (⟨none, Op.store 29 (Operand.tmp 6) (Operand.tmp 12), _, _, _, _⟩ :: _) _ _; go_must (refine wpList_store_list rfl 29 _ _ rfl L 0 cs rfl HCE.out.symm HT.out.1 (by rw [HL.out]; exact hi.out) HC1.out ?_); intro w3 hw3; have HW := hid HT.out.2; have hw3' : w3 = (w1.alloc (.cells (Dl.zero.cells (.slice none 0 0)).toArray 29)).setCells L 0 cs := hw3; rw [← hw3'] at HW; have hb3 := hid (show Below L w1 w3 by rw [hw3']; exact below_setCells (Nat.le_refl _) _ _ hb2.out); clear hw3 hw3' HT hb2)
  refine (within8_any a 10 (by omega) (by omega) _).mono ?_
  rintro _ wx ⟨rfl, hwx⟩
  rw [ha, hwx]
  clear hwx ha
  have Hb3 := hid (show Below w.heap.size w w3 from by have h := hb3.out; rw [← hL] at h; exact below_seq Hb1.out h)
  have Hb1S := hid (show w.heap.size ≤ L by have := Hb1.out.size; omega)
  clear hb3 Hb1
  obtain ⟨c0, c1, c2, c3, c36, c37, c38, c39⟩ := HW.out.cells
  have f := HW.out.frozen
  go_wp2_with (show wpList _ _ _ (⟨some 70, Op.load _ _, _, _, _, _⟩ :: _) _ _; go_must (refine wpList_load_mid rfl 29 _ rfl L 0 rfl (Dl.cells dr (.slice none 0 0)) _ (DW.whole HW.out) Try.underlying29 rfl (by rw [Dl.len (by exact dr_len)]; exact hi.out) ?_))
  refine (dCheck_any dr (by exact dr_len) (.slice none 0 0) [] _ (RC.nil _) (fun c hc => by simp at hc) (by simp)).mono ?_
  rintro _ w5 ⟨rfl, hb5⟩
  rw [show chkD dr [] = 0 by decide +kernel]
  have Hb5 := hid (show Below w.heap.size w w5 from below_seq (Hb3.out) hb5)
  clear hb5
  go_wp2_with fail
  go_ret
  exact ⟨rfl, Hb5.out⟩

set_option maxRecDepth 100000 in
set_option maxHeartbeats 4000000 in
theorem rows8_9b (a : Int) (ha : a % 10 = 9) (w : World) :
    Calls Try.prog 5 #[.int .i64 a, .bool false] w fun e w' => e = .returned (.bool true) ∧ Below w.heap.size w w' := by
  obtain ⟨cs, hcs⟩ : ∃ cs, dr.cells (.slice none 0 0) = cs := ⟨_, rfl⟩
  have HCS := hid hcs
  have hi := hid (show (Try.prog.info? 29).map (·.size) = some 40 by kernel_rfl)
  have HC1 := hid (show ∀ v ∈ cs, v.oneCell' = true by rw [← hcs]; exact Dl.one rfl)
  have HCE := hid (show Value.agg cs.toArray = Value.agg (dr.cells (.slice none 0 0)).toArray by rw [hcs])
  have HL := hid (show cs.length = 40 by rw [← hcs, Dl.len dr_len])
  clear hcs
  go_enter Try.func5, Try.ntmps5
  go_wp2_with fail
  refine (known8_any _).mono ?_
  rintro _ w1 ⟨rfl, hb⟩
  have Hb1 := hid hb
  clear hb
  obtain ⟨L, hL⟩ : ∃ L, w1.heap.size = L := ⟨_, rfl⟩
  have HBZ : Blk (w1.alloc (.cells (Dl.zero.cells (.slice none 0 0)).toArray 29)) 29 L (Dl.zero.cells (.slice none 0 0)) := by rw [← hL]; exact Blk.new w1 29 (Dl.zero.cells (.slice none 0 0))
  have HT := hid (lay_delta (v := .slice none 0 0) dr_len HBZ rfl)
  clear HBZ
  rw [HCS.out] at HT
  have hb2 := hid (show Below L w1 (w1.alloc (.cells (Dl.zero.cells (.slice none 0 0)).toArray 29)) by rw [← hL]; exact (Below.refl _ _).alloc (Nat.le_refl _) _)
  go_wp2_with (show wpList _ _ _ (⟨none, Op.store 29 (Operand.tmp 6) (Operand.tmp 12), _, _, _, _⟩ :: _) _ _; go_must (refine wpList_store_list rfl 29 _ _ rfl L 0 cs rfl HCE.out.symm HT.out.1 (by rw [HL.out]; exact hi.out) HC1.out ?_); intro w3 hw3; have HW := hid HT.out.2; have hw3' : w3 = (w1.alloc (.cells (Dl.zero.cells (.slice none 0 0)).toArray 29)).setCells L 0 cs := hw3; rw [← hw3'] at HW; have hb3 := hid (show Below L w1 w3 by rw [hw3']; exact below_setCells (Nat.le_refl _) _ _ hb2.out); clear hw3 hw3' HT hb2)
  refine (within8_any a 10 (by omega) (by omega) _).mono ?_
  rintro _ wx ⟨rfl, hwx⟩
  rw [ha, hwx]
  clear hwx ha
  have Hb3 := hid (show Below w.heap.size w w3 from by have h := hb3.out; rw [← hL] at h; exact below_seq Hb1.out h)
  have Hb1S := hid (show w.heap.size ≤ L by have := Hb1.out.size; omega)
  clear hb3 Hb1
  obtain ⟨c0, c1, c2, c3, c36, c37, c38, c39⟩ := HW.out.cells
  have f := HW.out.frozen
  go_wp2_with (show wpList _ _ _ (⟨some 70, Op.load _ _, _, _, _, _⟩ :: _) _ _; go_must (refine wpList_load_mid rfl 29 _ rfl L 0 rfl (Dl.cells ({ dr with k := 1, wU := 0 } : Dl) (.slice none 0 0)) _ (DW.whole ((HW.out.set_k 1).set_wU 0)) Try.underlying29 rfl (by rw [Dl.len (by exact dr_len)]; exact hi.out) ?_))
  refine (dCheck_any ({ dr with k := 1, wU := 0 } : Dl) (by exact dr_len) (.slice none 0 0) [] _ (RC.nil _) (fun c hc => by simp at hc) (by simp)).mono ?_
  rintro _ w5 ⟨rfl, hb5⟩
  rw [show chkD ({ dr with k := 1, wU := 0 } : Dl) [] = 0 by decide +kernel]
  have Hb5 := hid (show Below w.heap.size w w5 from below_seq ((Hb3.out.setCell (by have := Hb1S.out; omega) _).setCell (by have := Hb1S.out; omega) _) hb5)
  clear hb5
  go_wp2_with fail
  go_ret
  exact ⟨rfl, Hb5.out⟩

set_option maxRecDepth 100000 in
set_option maxHeartbeats 4000000 in
theorem rows8_0a (a : Int) (ha : a % 10 = 0) (w : World) :
    Calls Try.prog 5 #[.int .i64 a, .bool true] w fun e w' => e = .returned (.bool true) ∧ Below w.heap.size w w' := by
  obtain ⟨cs, hcs⟩ : ∃ cs, dr.cells (.slice none 0 0) = cs := ⟨_, rfl⟩
  have HCS := hid hcs
  have hi := hid (show (Try.prog.info? 29).map (·.size) = some 40 by kernel_rfl)
  have HC1 := hid (show ∀ v ∈ cs, v.oneCell' = true by rw [← hcs]; exact Dl.one rfl)
  have HCE := hid (show Value.agg cs.toArray = Value.agg (dr.cells (.slice none 0 0)).toArray by rw [hcs])
  have HL := hid (show cs.length = 40 by rw [← hcs, Dl.len dr_len])
  clear hcs
  go_enter Try.func5, Try.ntmps5
  go_wp2_with fail
  refine (known8_any _).mono ?_
  rintro _ w1 ⟨rfl, hb⟩
  have Hb1 := hid hb
  clear hb
  obtain ⟨L, hL⟩ : ∃ L, w1.heap.size = L := ⟨_, rfl⟩
  have HBZ : Blk (w1.alloc (.cells (Dl.zero.cells (.slice none 0 0)).toArray 29)) 29 L (Dl.zero.cells (.slice none 0 0)) := by rw [← hL]; exact Blk.new w1 29 (Dl.zero.cells (.slice none 0 0))
  have HT := hid (lay_delta (v := .slice none 0 0) dr_len HBZ rfl)
  clear HBZ
  rw [HCS.out] at HT
  have hb2 := hid (show Below L w1 (w1.alloc (.cells (Dl.zero.cells (.slice none 0 0)).toArray 29)) by rw [← hL]; exact (Below.refl _ _).alloc (Nat.le_refl _) _)
  go_wp2_with (show wpList _ _ _ (⟨none, Op.store 29 (Operand.tmp 6) (Operand.tmp 12), _, _, _, _⟩ :: _) _ _; go_must (refine wpList_store_list rfl 29 _ _ rfl L 0 cs rfl HCE.out.symm HT.out.1 (by rw [HL.out]; exact hi.out) HC1.out ?_); intro w3 hw3; have HW := hid HT.out.2; have hw3' : w3 = (w1.alloc (.cells (Dl.zero.cells (.slice none 0 0)).toArray 29)).setCells L 0 cs := hw3; rw [← hw3'] at HW; have hb3 := hid (show Below L w1 w3 by rw [hw3']; exact below_setCells (Nat.le_refl _) _ _ hb2.out); clear hw3 hw3' HT hb2)
  refine (within8_any a 10 (by omega) (by omega) _).mono ?_
  rintro _ wx ⟨rfl, hwx⟩
  rw [ha, hwx]
  clear hwx ha
  have Hb3 := hid (show Below w.heap.size w w3 from by have h := hb3.out; rw [← hL] at h; exact below_seq Hb1.out h)
  have Hb1S := hid (show w.heap.size ≤ L by have := Hb1.out.size; omega)
  clear hb3 Hb1
  obtain ⟨c0, c1, c2, c3, c36, c37, c38, c39⟩ := HW.out.cells
  have f := HW.out.frozen
  go_wp2_with (show wpList _ _ _ (⟨some 70, Op.load _ _, _, _, _, _⟩ :: _) _ _; go_must (refine wpList_load_mid rfl 29 _ rfl L 0 rfl (Dl.cells ({ dr with aD := 3 } : Dl) (.slice none 0 0)) _ (DW.whole (HW.out.set_aD 3)) Try.underlying29 rfl (by rw [Dl.len (by exact dr_len)]; exact hi.out) ?_))
  refine (dCheck_any ({ dr with aD := 3 } : Dl) (by exact dr_len) (.slice none 0 0) [] _ (RC.nil _) (fun c hc => by simp at hc) (by simp)).mono ?_
  rintro _ w5 ⟨rfl, hb5⟩
  rw [show chkD ({ dr with aD := 3 } : Dl) [] = 1 by decide +kernel]
  have Hb5 := hid (show Below w.heap.size w w5 from below_seq (Hb3.out.setCell (by have := Hb1S.out; omega) _) hb5)
  clear hb5
  go_wp2_with fail
  go_ret
  exact ⟨rfl, Hb5.out⟩

set_option maxRecDepth 100000 in
set_option maxHeartbeats 4000000 in
theorem rows8_1a (a : Int) (ha : a % 10 = 1) (w : World) :
    Calls Try.prog 5 #[.int .i64 a, .bool true] w fun e w' => e = .returned (.bool true) ∧ Below w.heap.size w w' := by
  obtain ⟨cs, hcs⟩ : ∃ cs, dr.cells (.slice none 0 0) = cs := ⟨_, rfl⟩
  have HCS := hid hcs
  have hi := hid (show (Try.prog.info? 29).map (·.size) = some 40 by kernel_rfl)
  have HC1 := hid (show ∀ v ∈ cs, v.oneCell' = true by rw [← hcs]; exact Dl.one rfl)
  have HCE := hid (show Value.agg cs.toArray = Value.agg (dr.cells (.slice none 0 0)).toArray by rw [hcs])
  have HL := hid (show cs.length = 40 by rw [← hcs, Dl.len dr_len])
  clear hcs
  go_enter Try.func5, Try.ntmps5
  go_wp2_with fail
  refine (known8_any _).mono ?_
  rintro _ w1 ⟨rfl, hb⟩
  have Hb1 := hid hb
  clear hb
  obtain ⟨L, hL⟩ : ∃ L, w1.heap.size = L := ⟨_, rfl⟩
  have HBZ : Blk (w1.alloc (.cells (Dl.zero.cells (.slice none 0 0)).toArray 29)) 29 L (Dl.zero.cells (.slice none 0 0)) := by rw [← hL]; exact Blk.new w1 29 (Dl.zero.cells (.slice none 0 0))
  have HT := hid (lay_delta (v := .slice none 0 0) dr_len HBZ rfl)
  clear HBZ
  rw [HCS.out] at HT
  have hb2 := hid (show Below L w1 (w1.alloc (.cells (Dl.zero.cells (.slice none 0 0)).toArray 29)) by rw [← hL]; exact (Below.refl _ _).alloc (Nat.le_refl _) _)
  go_wp2_with (show wpList _ _ _ (⟨none, Op.store 29 (Operand.tmp 6) (Operand.tmp 12), _, _, _, _⟩ :: _) _ _; go_must (refine wpList_store_list rfl 29 _ _ rfl L 0 cs rfl HCE.out.symm HT.out.1 (by rw [HL.out]; exact hi.out) HC1.out ?_); intro w3 hw3; have HW := hid HT.out.2; have hw3' : w3 = (w1.alloc (.cells (Dl.zero.cells (.slice none 0 0)).toArray 29)).setCells L 0 cs := hw3; rw [← hw3'] at HW; have hb3 := hid (show Below L w1 w3 by rw [hw3']; exact below_setCells (Nat.le_refl _) _ _ hb2.out); clear hw3 hw3' HT hb2)
  refine (within8_any a 10 (by omega) (by omega) _).mono ?_
  rintro _ wx ⟨rfl, hwx⟩
  rw [ha, hwx]
  clear hwx ha
  have Hb3 := hid (show Below w.heap.size w w3 from by have h := hb3.out; rw [← hL] at h; exact below_seq Hb1.out h)
  have Hb1S := hid (show w.heap.size ≤ L by have := Hb1.out.size; omega)
  clear hb3 Hb1
  obtain ⟨c0, c1, c2, c3, c36, c37, c38, c39⟩ := HW.out.cells
  have f := HW.out.frozen
  go_wp2_with (show wpList _ _ _ (⟨some 70, Op.load _ _, _, _, _, _⟩ :: _) _ _; go_must (refine wpList_load_mid rfl 29 _ rfl L 0 rfl (Dl.cells ({ dr with aU := 8 } : Dl) (.slice none 0 0)) _ (DW.whole (HW.out.set_aU 8)) Try.underlying29 rfl (by rw [Dl.len (by exact dr_len)]; exact hi.out) ?_))
  refine (dCheck_any ({ dr with aU := 8 } : Dl) (by exact dr_len) (.slice none 0 0) [] _ (RC.nil _) (fun c hc => by simp at hc) (by simp)).mono ?_
  rintro _ w5 ⟨rfl, hb5⟩
  rw [show chkD ({ dr with aU := 8 } : Dl) [] = 1 by decide +kernel]
  have Hb5 := hid (show Below w.heap.size w w5 from below_seq (Hb3.out.setCell (by have := Hb1S.out; omega) _) hb5)
  clear hb5
  go_wp2_with fail
  go_ret
  exact ⟨rfl, Hb5.out⟩

set_option maxRecDepth 100000 in
set_option maxHeartbeats 4000000 in
theorem rows8_2a (a : Int) (ha : a % 10 = 2) (w : World) :
    Calls Try.prog 5 #[.int .i64 a, .bool true] w fun e w' => e = .returned (.bool true) ∧ Below w.heap.size w w' := by
  obtain ⟨cs, hcs⟩ : ∃ cs, dr.cells (.slice none 0 0) = cs := ⟨_, rfl⟩
  have HCS := hid hcs
  have hi := hid (show (Try.prog.info? 29).map (·.size) = some 40 by kernel_rfl)
  have HC1 := hid (show ∀ v ∈ cs, v.oneCell' = true by rw [← hcs]; exact Dl.one rfl)
  have HCE := hid (show Value.agg cs.toArray = Value.agg (dr.cells (.slice none 0 0)).toArray by rw [hcs])
  have HL := hid (show cs.length = 40 by rw [← hcs, Dl.len dr_len])
  clear hcs
  go_enter Try.func5, Try.ntmps5
  go_wp2_with fail
  refine (known8_any _).mono ?_
  rintro _ w1 ⟨rfl, hb⟩
  have Hb1 := hid hb
  clear hb
  obtain ⟨L, hL⟩ : ∃ L, w1.heap.size = L := ⟨_, rfl⟩
  have HBZ : Blk (w1.alloc (.cells (Dl.zero.cells (.slice none 0 0)).toArray 29)) 29 L (Dl.zero.cells (.slice none 0 0)) := by rw [← hL]; exact Blk.new w1 29 (Dl.zero.cells (.slice none 0 0))
  have HT := hid (lay_delta (v := .slice none 0 0) dr_len HBZ rfl)
  clear HBZ
  rw [HCS.out] at HT
  have hb2 := hid (show Below L w1 (w1.alloc (.cells (Dl.zero.cells (.slice none 0 0)).toArray 29)) by rw [← hL]; exact (Below.refl _ _).alloc (Nat.le_refl _) _)
  go_wp2_with (show wpList _ _ _ (⟨none, Op.store 29 (Operand.tmp 6) (Operand.tmp 12), _, _, _, _⟩ :: _) _ _; go_must (refine wpList_store_list rfl 29 _ _ rfl L 0 cs rfl HCE.out.symm HT.out.1 (by rw [HL.out]; exact hi.out) HC1.out ?_); intro w3 hw3; have HW := hid HT.out.2; have hw3' : w3 = (w1.alloc (.cells (Dl.zero.cells (.slice none 0 0)).toArray 29)).setCells L 0 cs := hw3; rw [← hw3'] at HW; have hb3 := hid (show Below L w1 w3 by rw [hw3']; exact below_setCells (Nat.le_refl _) _ _ hb2.out); clear hw3 hw3' HT hb2)
  refine (within8_any a 10 (by omega) (by omega) _).mono ?_
  rintro _ wx ⟨rfl, hwx⟩
  rw [ha, hwx]
  clear hwx ha
  have Hb3 := hid (show Below w.heap.size w w3 from by have h := hb3.out; rw [← hL] at h; exact below_seq Hb1.out h)
  have Hb1S := hid (show w.heap.size ≤ L by have := Hb1.out.size; omega)
  clear hb3 Hb1
  obtain ⟨c0, c1, c2, c3, c36, c37, c38, c39⟩ := HW.out.cells
  have f := HW.out.frozen
  go_wp2_with (show wpList _ _ _ (⟨some 70, Op.load _ _, _, _, _, _⟩ :: _) _ _; go_must (refine wpList_load_mid rfl 29 _ rfl L 0 rfl (Dl.cells ({ dr with id := 1073741825 } : Dl) (.slice none 0 0)) _ (DW.whole (HW.out.set_id 1073741825)) Try.underlying29 rfl (by rw [Dl.len (by exact dr_len)]; exact hi.out) ?_))
  refine (dCheck_any ({ dr with id := 1073741825 } : Dl) (by exact dr_len) (.slice none 0 0) [] _ (RC.nil _) (fun c hc => by simp at hc) (by simp)).mono ?_
  rintro _ w5 ⟨rfl, hb5⟩
  rw [show chkD ({ dr with id := 1073741825 } : Dl) [] = 1 by decide +kernel]
  have Hb5 := hid (show Below w.heap.size w w5 from below_seq (Hb3.out.setCell (by have := Hb1S.out; omega) _) hb5)
  clear hb5
  go_wp2_with fail
  go_ret
  exact ⟨rfl, Hb5.out⟩

set_option maxRecDepth 100000 in
set_option maxHeartbeats 4000000 in
theorem rows8_3a (a : Int) (ha : a % 10 = 3) (w : World) :
    Calls Try.prog 5 #[.int .i64 a, .bool true] w fun e w' => e = .returned (.bool true) ∧ Below w.heap.size w w' := by
  obtain ⟨cs, hcs⟩ : ∃ cs, dr.cells (.slice none 0 0) = cs := ⟨_, rfl⟩
  have HCS := hid hcs
  have hi := hid (show (Try.prog.info? 29).map (·.size) = some 40 by kernel_rfl)
  have HC1 := hid (show ∀ v ∈ cs, v.oneCell' = true by rw [← hcs]; exact Dl.one rfl)
  have HCE := hid (show Value.agg cs.toArray = Value.agg (dr.cells (.slice none 0 0)).toArray by rw [hcs])
  have HL := hid (show cs.length = 40 by rw [← hcs, Dl.len dr_len])
  clear hcs
  go_enter Try.func5, Try.ntmps5
  go_wp2_with fail
  refine (known8_any _).mono ?_
  rintro _ w1 ⟨rfl, hb⟩
  have Hb1 := hid hb
  clear hb
  obtain ⟨L, hL⟩ : ∃ L, w1.heap.size = L := ⟨_, rfl⟩
  have HBZ : Blk (w1.alloc (.cells (Dl.zero.cells (.slice none 0 0)).toArray 29)) 29 L (Dl.zero.cells (.slice none 0 0)) := by rw [← hL]; exact Blk.new w1 29 (Dl.zero.cells (.slice none 0 0))
  have HT := hid (lay_delta (v := .slice none 0 0) dr_len HBZ rfl)
  clear HBZ
  rw [HCS.out] at HT
  have hb2 := hid (show Below L w1 (w1.alloc (.cells (Dl.zero.cells (.slice none 0 0)).toArray 29)) by rw [← hL]; exact (Below.refl _ _).alloc (Nat.le_refl _) _)
  go_wp2_with (show wpList _ _ _ (⟨none, Op.store 29 (Operand.tmp 6) (Operand.tmp 12), _, _, _, _⟩ :: _) _ _; go_must (refine wpList_store_list rfl 29 _ _ rfl L 0 cs rfl HCE.out.symm HT.out.1 (by rw [HL.out]; exact hi.out) HC1.out ?_); intro w3 hw3; have HW := hid HT.out.2; have hw3' : w3 = (w1.alloc (.cells (Dl.zero.cells (.slice none 0 0)).toArray 29)).setCells L 0 cs := hw3; rw [← hw3'] at HW; have hb3 := hid (show Below L w1 w3 by rw [hw3']; exact below_setCells (Nat.le_refl _) _ _ hb2.out); clear hw3 hw3' HT hb2)
  refine (within8_any a 10 (by omega) (by omega) _).mono ?_
  rintro _ wx ⟨rfl, hwx⟩
  rw [ha, hwx]
  clear hwx ha
  have Hb3 := hid (show Below w.heap.size w w3 from by have h := hb3.out; rw [← hL] at h; exact below_seq Hb1.out h)
  have Hb1S := hid (show w.heap.size ≤ L by have := Hb1.out.size; omega)
  clear hb3 Hb1
  obtain ⟨c0, c1, c2, c3, c36, c37, c38, c39⟩ := HW.out.cells
  have f := HW.out.frozen
  go_wp2_with (show wpList _ _ _ (⟨some 70, Op.load _ _, _, _, _, _⟩ :: _) _ _; go_must (refine wpList_load_mid rfl 29 _ rfl L 0 rfl (Dl.cells ({ dr with id := (-1) } : Dl) (.slice none 0 0)) _ (DW.whole (HW.out.set_id (-1))) Try.underlying29 rfl (by rw [Dl.len (by exact dr_len)]; exact hi.out) ?_))
  refine (dCheck_any ({ dr with id := (-1) } : Dl) (by exact dr_len) (.slice none 0 0) [] _ (RC.nil _) (fun c hc => by simp at hc) (by simp)).mono ?_
  rintro _ w5 ⟨rfl, hb5⟩
  rw [show chkD ({ dr with id := (-1) } : Dl) [] = 1 by decide +kernel]
  have Hb5 := hid (show Below w.heap.size w w5 from below_seq (Hb3.out.setCell (by have := Hb1S.out; omega) _) hb5)
  clear hb5
  go_wp2_with fail
  go_ret
  exact ⟨rfl, Hb5.out⟩

set_option maxRecDepth 100000 in
set_option maxHeartbeats 4000000 in
theorem rows8_4a (a : Int) (ha : a % 10 = 4) (w : World) :
    Calls Try.prog 5 #[.int .i64 a, .bool true] w fun e w' => e = .returned (.bool true) ∧ Below w.heap.size w w' := by
  obtain ⟨cs, hcs⟩ : ∃ cs, dr.cells (.slice none 0 0) = cs := ⟨_, rfl⟩
  have HCS := hid hcs
  have hi := hid (show (Try.prog.info? 29).map (·.size) = some 40 by kernel_rfl)
  have HC1 := hid (show ∀ v ∈ cs, v.oneCell' = true by rw [← hcs]; exact Dl.one rfl)
  have HCE := hid (show Value.agg cs.toArray = Value.agg (dr.cells (.slice none 0 0)).toArray by rw [hcs])
  have HL := hid (show cs.length = 40 by rw [← hcs, Dl.len dr_len])
  clear hcs
  go_enter Try.func5, Try.ntmps5
  go_wp2_with fail
  refine (known8_any _).mono ?_
  rintro _ w1 ⟨rfl, hb⟩
  have Hb1 := hid hb
  clear hb
  obtain ⟨L, hL⟩ : ∃ L, w1.heap.size = L := ⟨_, rfl⟩
  have HBZ : Blk (w1.alloc (.cells (Dl.zero.cells (.slice none 0 0)).toArray 29)) 29 L (Dl.zero.cells (.slice none 0 0)) := by rw [← hL]; exact Blk.new w1 29 (Dl.zero.cells (.slice none 0 0))
  have HT := hid (lay_delta (v := .slice none 0 0) dr_len HBZ rfl)
  clear HBZ
  rw [HCS.out] at HT
  have hb2 := hid (show Below L w1 (w1.alloc (.cells (Dl.zero.cells (.slice none 0 0)).toArray 29)) by rw [← hL]; exact (Below.refl _ _).alloc (Nat.le_refl _) _)
  go_wp2_with (show wpList _ _ _ (⟨none, Op.store 29 (Operand.tmp 6) (Operand.tmp 12), _, _, _, _⟩ :: _) _ _; go_must (refine wpList_store_list rfl 29 _ _ rfl L 0 cs rfl HCE.out.symm HT.out.1 (by rw [HL.out]; exact hi.out) HC1.out ?_); intro w3 hw3; have HW := hid HT.out.2; have hw3' : w3 = (w1.alloc (.cells (Dl.zero.cells (.slice none 0 0)).toArray 29)).setCells L 0 cs := hw3; rw [← hw3'] at HW; have hb3 := hid (show Below L w1 w3 by rw [hw3']; exact below_setCells (Nat.le_refl _) _ _ hb2.out); clear hw3 hw3' HT hb2)
  refine (within8_any a 10 (by omega) (by omega) _).mono ?_
  rintro _ wx ⟨rfl, hwx⟩
  rw [ha, hwx]
  clear hwx ha
  have Hb3 := hid (show Below w.heap.size w w3 from by have h := hb3.out; rw [← hL] at h; exact below_seq Hb1.out h)
  have Hb1S := hid (show w.heap.size ≤ L by have := Hb1.out.size; omega)
  clear hb3 Hb1
  obtain ⟨c0, c1, c2, c3, c36, c37, c38, c39⟩ := HW.out.cells
  have f := HW.out.frozen
  go_wp2_with (show wpList _ _ _ (⟨some 70, Op.load _ _, _, _, _, _⟩ :: _) _ _; go_must (refine wpList_load_mid rfl 29 _ rfl L 0 rfl (Dl.cells ({ dr with ver := 1048577 } : Dl) (.slice none 0 0)) _ (DW.whole (HW.out.set_ver 1048577)) Try.underlying29 rfl (by rw [Dl.len (by exact dr_len)]; exact hi.out) ?_))
  refine (dCheck_any ({ dr with ver := 1048577 } : Dl) (by exact dr_len) (.slice none 0 0) [] _ (RC.nil _) (fun c hc => by simp at hc) (by simp)).mono ?_
  rintro _ w5 ⟨rfl, hb5⟩
  rw [show chkD ({ dr with ver := 1048577 } : Dl) [] = 1 by decide +kernel]
  have Hb5 := hid (show Below w.heap.size w w5 from below_seq (Hb3.out.setCell (by have := Hb1S.out; omega) _) hb5)
  clear hb5
  go_wp2_with fail
  go_ret
  exact ⟨rfl, Hb5.out⟩

set_option maxRecDepth 100000 in
set_option maxHeartbeats 4000000 in
theorem rows8_5a (a : Int) (ha : a % 10 = 5) (w : World) :
    Calls Try.prog 5 #[.int .i64 a, .bool true] w fun e w' => e = .returned (.bool true) ∧ Below w.heap.size w w' := by
  obtain ⟨cs, hcs⟩ : ∃ cs, dr.cells (.slice none 0 0) = cs := ⟨_, rfl⟩
  have HCS := hid hcs
  have hi := hid (show (Try.prog.info? 29).map (·.size) = some 40 by kernel_rfl)
  have HC1 := hid (show ∀ v ∈ cs, v.oneCell' = true by rw [← hcs]; exact Dl.one rfl)
  have HCE := hid (show Value.agg cs.toArray = Value.agg (dr.cells (.slice none 0 0)).toArray by rw [hcs])
  have HL := hid (show cs.length = 40 by rw [← hcs, Dl.len dr_len])
  clear hcs
  go_enter Try.func5, Try.ntmps5
  go_wp2_with fail
  refine (known8_any _).mono ?_
  rintro _ w1 ⟨rfl, hb⟩
  have Hb1 := hid hb
  clear hb
  obtain ⟨L, hL⟩ : ∃ L, w1.heap.size = L := ⟨_, rfl⟩
  have HBZ : Blk (w1.alloc (.cells (Dl.zero.cells (.slice none 0 0)).toArray 29)) 29 L (Dl.zero.cells (.slice none 0 0)) := by rw [← hL]; exact Blk.new w1 29 (Dl.zero.cells (.slice none 0 0))
  have HT := hid (lay_delta (v := .slice none 0 0) dr_len HBZ rfl)
  clear HBZ
  rw [HCS.out] at HT
  have hb2 := hid (show Below L w1 (w1.alloc (.cells (Dl.zero.cells (.slice none 0 0)).toArray 29)) by rw [← hL]; exact (Below.refl _ _).alloc (Nat.le_refl _) _)
  go_wp2_with (show wpList _ _ _ (⟨none, Op.store 29 (Operand.tmp 6) (Operand.tmp 12), _, _, _, _⟩ :: _) _ _; go_must (refine wpList_store_list rfl 29 _ _ rfl L 0 cs rfl HCE.out.symm HT.out.1 (by rw [HL.out]; exact hi.out) HC1.out ?_); intro w3 hw3; have HW := hid HT.out.2; have hw3' : w3 = (w1.alloc (.cells (Dl.zero.cells (.slice none 0 0)).toArray 29)).setCells L 0 cs := hw3; rw [← hw3'] at HW; have hb3 := hid (show Below L w1 w3 by rw [hw3']; exact below_setCells (Nat.le_refl _) _ _ hb2.out); clear hw3 hw3' HT hb2)
  refine (within8_any a 10 (by omega) (by omega) _).mono ?_
  rintro _ wx ⟨rfl, hwx⟩
  rw [ha, hwx]
  clear hwx ha
  have Hb3 := hid (show Below w.heap.size w w3 from by have h := hb3.out; rw [← hL] at h; exact below_seq Hb1.out h)
  have Hb1S := hid (show w.heap.size ≤ L by have := Hb1.out.size; omega)
  clear hb3 Hb1
  obtain ⟨c0, c1, c2, c3, c36, c37, c38, c39⟩ := HW.out.cells
  have f := HW.out.frozen
  go_wp2_with (show wpList _ _ _ (⟨some 70, Op.load _ _, _, _, _, _⟩ :: _) _ _; go_must (refine wpList_load_mid rfl 29 _ rfl L 0 rfl (Dl.cells ({ dr with ver := (-1) } : Dl) (.slice none 0 0)) _ (DW.whole (HW.out.set_ver (-1))) Try.underlying29 rfl (by rw [Dl.len (by exact dr_len)]; exact hi.out) ?_))
  refine (dCheck_any ({ dr with ver := (-1) } : Dl) (by exact dr_len) (.slice none 0 0) [] _ (RC.nil _) (fun c hc => by simp at hc) (by simp)).mono ?_
  rintro _ w5 ⟨rfl, hb5⟩
  rw [show chkD ({ dr with ver := (-1) } : Dl) [] = 1 by decide +kernel]
  have Hb5 := hid (show Below w.heap.size w w5 from below_seq (Hb3.out.setCell (by have := Hb1S.out; omega) _) hb5)
  clear hb5
  go_wp2_with fail
  go_ret
  exact ⟨rfl, Hb5.out⟩

set_option maxRecDepth 100000 in
set_option maxHeartbeats 4000000 in
theorem rows8_6a (a : Int) (ha : a % 10 = 6) (w : World) :
    Calls Try.prog 5 #[.int .i64 a, .bool true] w fun e w' => e = .returned (.bool true) ∧ Below w.heap.size w w' := by
  obtain ⟨cs, hcs⟩ : ∃ cs, dr.cells (.slice none 0 0) = cs := ⟨_, rfl⟩
  have HCS := hid hcs
  have hi := hid (show (Try.prog.info? 29).map (·.size) = some 40 by kernel_rfl)
  have HC1 := hid (show ∀ v ∈ cs, v.oneCell' = true by rw [← hcs]; exact Dl.one rfl)
  have HCE := hid (show Value.agg cs.toArray = Value.agg (dr.cells (.slice none 0 0)).toArray by rw [hcs])
  have HL := hid (show cs.length = 40 by rw [← hcs, Dl.len dr_len])
  clear hcs
  go_enter Try.func5, Try.ntmps5
  go_wp2_with fail
  refine (known8_any _).mono ?_
  rintro _ w1 ⟨rfl, hb⟩
  have Hb1 := hid hb
  clear hb
  obtain ⟨L, hL⟩ : ∃ L, w1.heap.size = L := ⟨_, rfl⟩
  have HBZ : Blk (w1.alloc (.cells (Dl.zero.cells (.slice none 0 0)).toArray 29)) 29 L (Dl.zero.cells (.slice none 0 0)) := by rw [← hL]; exact Blk.new w1 29 (Dl.zero.cells (.slice none 0 0))
  have HT := hid (lay_delta (v := .slice none 0 0) dr_len HBZ rfl)
  clear HBZ
  rw [HCS.out] at HT
  have hb2 := hid (show Below L w1 (w1.alloc (.cells (Dl.zero.cells (.slice none 0 0)).toArray 29)) by rw [← hL]; exact (Below.refl _ _).alloc (Nat.le_refl _) _)
  go_wp2_with (show wpList _ _ _ (⟨none, Op.store 29 (Operand.tmp 6) (Operand.tmp 12), _, _, _, _⟩ :: _) _ _; go_must (refine wpList_store_list rfl 29 _ _ rfl L 0 cs rfl HCE.out.symm HT.out.1 (by rw [HL.out]; exact hi.out) HC1.out ?_); intro w3 hw3; have HW := hid HT.out.2; have hw3' : w3 = (w1.alloc (.cells (Dl.zero.cells (.slice none 0 0)).toArray 29)).setCells L 0 cs := hw3; rw [← hw3'] at HW; have hb3 := hid (show Below L w1 w3 by rw [hw3']; exact below_setCells (Nat.le_refl _) _ _ hb2.out); clear hw3 hw3' HT hb2)
  refine (within8_any a 10 (by omega) (by omega) _).mono ?_
  rintro _ wx ⟨rfl, hwx⟩
  rw [ha, hwx]
  clear hwx ha
  have Hb3 := hid (show Below w.heap.size w w3 from by have h := hb3.out; rw [← hL] at h; exact below_seq Hb1.out h)
  have Hb1S := hid (show w.heap.size ≤ L by have := Hb1.out.size; omega)
  clear hb3 Hb1
  obtain ⟨c0, c1, c2, c3, c36, c37, c38, c39⟩ := HW.out.cells
  have f := HW.out.frozen
  go_wp2_with (show wpList _ _ _ (⟨some 70, Op.load _ _, _, _, _, _⟩ :: _) _ _; go_must (refine wpList_load_mid rfl 29 _ rfl L 0 rfl (Dl.cells ({ dr with wU := 8 } : Dl) (.slice none 0 0)) _ (DW.whole (HW.out.set_wU 8)) Try.underlying29 rfl (by rw [Dl.len (by exact dr_len)]; exact hi.out) ?_))
  refine (dCheck_any ({ dr with wU := 8 } : Dl) (by exact dr_len) (.slice none 0 0) [] _ (RC.nil _) (fun c hc => by simp at hc) (by simp)).mono ?_
  rintro _ w5 ⟨rfl, hb5⟩
  rw [show chkD ({ dr with wU := 8 } : Dl) [] = 1 by decide +kernel]
  have Hb5 := hid (show Below w.heap.size w w5 from below_seq (Hb3.out.setCell (by have := Hb1S.out; omega) _) hb5)
  clear hb5
  go_wp2_with fail
  go_ret
  exact ⟨rfl, Hb5.out⟩

set_option maxRecDepth 100000 in
set_option maxHeartbeats 4000000 in
theorem rows8_7a (a : Int) (ha : a % 10 = 7) (w : World) :
    Calls Try.prog 5 #[.int .i64 a, .bool true] w fun e w' => e = .returned (.bool true) ∧ Below w.heap.size w w' := by
  obtain ⟨cs, hcs⟩ : ∃ cs, dr.cells (.slice none 0 0) = cs := ⟨_, rfl⟩
  have HCS := hid hcs
  have hi := hid (show (Try.prog.info? 29).map (·.size) = some 40 by kernel_rfl)
  have HC1 := hid (show ∀ v ∈ cs, v.oneCell' = true by rw [← hcs]; exact Dl.one rfl)
  have HCE := hid (show Value.agg cs.toArray = Value.agg (dr.cells (.slice none 0 0)).toArray by rw [hcs])
  have HL := hid (show cs.length = 40 by rw [← hcs, Dl.len dr_len])
  clear hcs
  go_enter Try.func5, Try.ntmps5
  go_wp2_with fail
  refine (known8_any _).mono ?_
  rintro _ w1 ⟨rfl, hb⟩
  have Hb1 := hid hb
  clear hb
  obtain ⟨L, hL⟩ : ∃ L, w1.heap.size = L := ⟨_, rfl⟩
  have HBZ : Blk (w1.alloc (.cells (Dl.zero.cells (.slice none 0 0)).toArray 29)) 29 L (Dl.zero.cells (.slice none 0 0)) := by rw [← hL]; exact Blk.new w1 29 (Dl.zero.cells (.slice none 0 0))
  have HT := hid (lay_delta (v := .slice none 0 0) dr_len HBZ rfl)
  clear HBZ
  rw [HCS.out] at HT
  have hb2 := hid (show Below L w1 (w1.alloc (.cells (Dl.zero.cells (.slice none 0 0)).toArray 29)) by rw [← hL]; exact (Below.refl _ _).alloc (Nat.le_refl _) _)
  go_wp2_with (show wpList _ _ _ (⟨none, Op.store 29 (Operand.tmp 6) (Operand.tmp 12), _, _, _, _⟩ :: _) _ _; go_must (refine wpList_store_list rfl 29 _ _ rfl L 0 cs rfl HCE.out.symm HT.out.1 (by rw [HL.out]; exact hi.out) HC1.out ?_); intro w3 hw3; have HW := hid HT.out.2; have hw3' : w3 = (w1.alloc (.cells (Dl.zero.cells (.slice none 0 0)).toArray 29)).setCells L 0 cs := hw3; rw [← hw3'] at HW; have hb3 := hid (show Below L w1 w3 by rw [hw3']; exact below_setCells (Nat.le_refl _) _ _ hb2.out); clear hw3 hw3' HT hb2)
  refine (within8_any a 10 (by omega) (by omega) _).mono ?_
  rintro _ wx ⟨rfl, hwx⟩
  rw [ha, hwx]
  clear hwx ha
  have Hb3 := hid (show Below w.heap.size w w3 from by have h := hb3.out; rw [← hL] at h; exact below_seq Hb1.out h)
  have Hb1S := hid (show w.heap.size ≤ L by have := Hb1.out.size; omega)
  clear hb3 Hb1
  obtain ⟨c0, c1, c2, c3, c36, c37, c38, c39⟩ := HW.out.cells
  have f := HW.out.frozen
  go_wp2_with (show wpList _ _ _ (⟨some 70, Op.load _ _, _, _, _, _⟩ :: _) _ _; go_must (refine wpList_load_mid rfl 29 _ rfl L 0 rfl (Dl.cells ({ dr with k := 4 } : Dl) (.slice none 0 0)) _ (DW.whole (HW.out.set_k 4)) Try.underlying29 rfl (by rw [Dl.len (by exact dr_len)]; exact hi.out) ?_))
  refine (dCheck_any ({ dr with k := 4 } : Dl) (by exact dr_len) (.slice none 0 0) [] _ (RC.nil _) (fun c hc => by simp at hc) (by simp)).mono ?_
  rintro _ w5 ⟨rfl, hb5⟩
  rw [show chkD ({ dr with k := 4 } : Dl) [] = 3 by decide +kernel]
  have Hb5 := hid (show Below w.heap.size w w5 from below_seq (Hb3.out.setCell (by have := Hb1S.out; omega) _) hb5)
  clear hb5
  go_wp2_with fail
  go_ret
  exact ⟨rfl, Hb5.out⟩

set_option maxRecDepth 100000 in
set_option maxHeartbeats 4000000 in
theorem rows8_8a (a : Int) (ha : a % 10 = 8) (w : World) :
    Calls Try.prog 5 #[.int .i64 a, .bool true] w fun e w' => e = .returned (.bool true) ∧ Below w.heap.size w w' := by
  obtain ⟨cs, hcs⟩ : ∃ cs, dr.cells (.slice none 0 0) = cs := ⟨_, rfl⟩
  have HCS := hid hcs
  have hi := hid (show (Try.prog.info? 29).map (·.size) = some 40 by kernel_rfl)
  have HC1 := hid (show ∀ v ∈ cs, v.oneCell' = true by rw [← hcs]; exact Dl.one rfl)
  have HCE := hid (show Value.agg cs.toArray = Value.agg (dr.cells (.slice none 0 0)).toArray by rw [hcs])
  have HL := hid (show cs.length = 40 by rw [← hcs, Dl.len dr_len])
  clear hcs
  go_enter Try.func5, Try.ntmps5
  go_wp2_with fail
  refine (known8_any _).mono ?_
  rintro _ w1 ⟨rfl, hb⟩
  have Hb1 := hid hb
  clear hb
  obtain ⟨L, hL⟩ : ∃ L, w1.heap.size = L := ⟨_, rfl⟩
  have HBZ : Blk (w1.alloc (.cells (Dl.zero.cells (.slice none 0 0)).toArray 29)) 29 L (Dl.zero.cells (.slice none 0 0)) := by rw [← hL]; exact Blk.new w1 29 (Dl.zero.cells (.slice none 0 0))
  have HT := hid (lay_delta (v := .slice none 0 0) dr_len HBZ rfl)
  clear HBZ
  rw [HCS.out] at HT
  have hb2 := hid (show Below L w1 (w1.alloc (.cells (Dl.zero.cells (.slice none 0 0)).toArray 29)) by rw [← hL]; exact (Below.refl _ _).alloc (Nat.le_refl _) _)
  go_wp2_with (show wpList _ _ _ (⟨none, Op.store 29 (Operand.tmp 6) (Operand.tmp 12), _, _, _, _⟩ :: _) _ _; go_must (refine wpList_store_list rfl 29 _ _ rfl L 0 cs rfl HCE.out.symm HT.out.1 (by rw [HL.out]; exact hi.out) HC1.out ?_); intro w3 hw3; have HW := hid HT.out.2; have hw3' : w3 = (w1.alloc (.cells (Dl.zero.cells (.slice none 0 0)).toArray 29)).setCells L 0 cs := hw3; rw [← hw3'] at HW; have hb3 := hid (show Below L w1 w3 by rw [hw3']; exact below_setCells (Nat.le_refl _) _ _ hb2.out); clear hw3 hw3' HT hb2)
  refine (within8_any a 10 (by omega) (by omega) _).mono ?_
  rintro _ wx ⟨rfl, hwx⟩
  rw [ha, hwx]
  clear hwx ha
  have Hb3 := hid (show Below w.heap.size w w3 from by have h := hb3.out; rw [← hL] at h; exact below_seq Hb1.out h)
  have Hb1S := hid (show w.heap.size ≤ L by have := Hb1.out.size; omega)
  clear hb3 Hb1
  obtain ⟨c0, c1, c2, c3, c36, c37, c38, c39⟩ := HW.out.cells
  have f := HW.out.frozen
  have HOX := hid (show ∀ ob : Obj, DW (w3.alloc ob) 29 L dr (.slice none 0 0) from fun ob => HW.out.kept (Below.heap_alloc w3 ob L HW.out.blk.lt))
  have d37 := fun ob => (HOX.out ob).cells.2.2.2.2.2.1
  have e37 := fun ob => (HOX.out ob).frozen 37
  have hLlt := HW.out.blk.lt
  have HP := hid ((parts_new w3 [pP ⟨#[120]⟩] 1 rfl).setApart hLlt 37 (.slice (some ⟨w3.heap.size, 0, none⟩) 1 1)).reads
  have HW2 := hid ((HOX.out (.cells (C [pP ⟨#[120]⟩]).toArray 55)).set_op (.slice (some ⟨w3.heap.size, 0, none⟩) 1 1))
  have hbA := hid (show Below w.heap.size w ((w3.alloc (.cells (C [pP ⟨#[120]⟩]).toArray 55)).setCell ⟨L, 37, none⟩ (.slice (some ⟨w3.heap.size, 0, none⟩) 1 1)) from (Hb3.out.alloc Hb3.out.size _).setCell (by have := Hb1S.out; omega) _)
  clear c0 c1 c2 c3 c36 c37 c38 c39 f hLlt
  go_wp2_with (show wpList _ _ _ (⟨some 70, Op.load _ _, _, _, _, _⟩ :: _) _ _; go_must (refine wpList_load_mid rfl 29 _ rfl L 0 rfl (Dl.cells dr (.slice (some ⟨w3.heap.size, 0, none⟩) 1 1)) _ HW2.out.whole Try.underlying29 rfl (by rw [Dl.len dr_len]; exact hi.out) ?_))
  refine (dCheck_any dr dr_len (.slice (some ⟨w3.heap.size, 0, none⟩) 1 1) [pP ⟨#[120]⟩] _ HP.out (fun c hc => by simp at hc; subst hc; decide) (by simp)).mono ?_
  rintro _ w5 ⟨rfl, hb5⟩
  rw [show chkD dr [pP ⟨#[120]⟩] = 1 by decide +kernel]
  have Hb5 := hid (show Below w.heap.size w w5 from below_seq hbA.out hb5)
  clear hb5
  go_wp2_with fail
  go_ret
  exact ⟨rfl, Hb5.out⟩

set_option maxRecDepth 100000 in
set_option maxHeartbeats 4000000 in
theorem rows8_9a (a : Int) (ha : a % 10 = 9) (w : World) :
    Calls Try.prog 5 #[.int .i64 a, .bool true] w fun e w' => e = .returned (.bool true) ∧ Below w.heap.size w w' := by
  obtain ⟨cs, hcs⟩ : ∃ cs, dr.cells (.slice none 0 0) = cs := ⟨_, rfl⟩
  have HCS := hid hcs
  have hi := hid (show (Try.prog.info? 29).map (·.size) = some 40 by kernel_rfl)
  have HC1 := hid (show ∀ v ∈ cs, v.oneCell' = true by rw [← hcs]; exact Dl.one rfl)
  have HCE := hid (show Value.agg cs.toArray = Value.agg (dr.cells (.slice none 0 0)).toArray by rw [hcs])
  have HL := hid (show cs.length = 40 by rw [← hcs, Dl.len dr_len])
  clear hcs
  go_enter Try.func5, Try.ntmps5
  go_wp2_with fail
  refine (known8_any _).mono ?_
  rintro _ w1 ⟨rfl, hb⟩
  have Hb1 := hid hb
  clear hb
  obtain ⟨L, hL⟩ : ∃ L, w1.heap.size = L := ⟨_, rfl⟩
  have HBZ : Blk (w1.alloc (.cells (Dl.zero.cells (.slice none 0 0)).toArray 29)) 29 L (Dl.zero.cells (.slice none 0 0)) := by rw [← hL]; exact Blk.new w1 29 (Dl.zero.cells (.slice none 0 0))
  have HT := hid (lay_delta (v := .slice none 0 0) dr_len HBZ rfl)
  clear HBZ
  rw [HCS.out] at HT
  have hb2 := hid (show Below L w1 (w1.alloc (.cells (Dl.zero.cells (.slice none 0 0)).toArray 29)) by rw [← hL]; exact (Below.refl _ _).alloc (Nat.le_refl _) _)
  go_wp2_with (show wpList _ _ _ (⟨none, Op.store 29 (Operand.tmp 6) (Operand.tmp 12), _, _, _, _⟩ :: _) _ _; go_must (refine wpList_store_list rfl 29 _ _ rfl L 0 cs rfl HCE.out.symm HT.out.1 (by rw [HL.out]; exact hi.out) HC1.out ?_); intro w3 hw3; have HW := hid HT.out.2; have hw3' : w3 = (w1.alloc (.cells (Dl.zero.cells (.slice none 0 0)).toArray 29)).setCells L 0 cs := hw3; rw [← hw3'] at HW; have hb3 := hid (show Below L w1 w3 by rw [hw3']; exact below_setCells (Nat.le_refl _) _ _ hb2.out); clear hw3 hw3' HT hb2)
  refine (within8_any a 10 (by omega) (by omega) _).mono ?_
  rintro _ wx ⟨rfl, hwx⟩
  rw [ha, hwx]
  clear hwx ha
  have Hb3 := hid (show Below w.heap.size w w3 from by have h := hb3.out; rw [← hL] at h; exact below_seq Hb1.out h)
  have Hb1S := hid (show w.heap.size ≤ L by have := Hb1.out.size; omega)
  clear hb3 Hb1
  obtain ⟨c0, c1, c2, c3, c36, c37, c38, c39⟩ := HW.out.cells
  have f := HW.out.frozen
  go_wp2_with (show wpList _ _ _ (⟨some 70, Op.load _ _, _, _, _, _⟩ :: _) _ _; go_must (refine wpList_load_mid rfl 29 _ rfl L 0 rfl (Dl.cells ({ dr with k := 1, wU := 1 } : Dl) (.slice none 0 0)) _ (DW.whole ((HW.out.set_k 1).set_wU 1)) Try.underlying29 rfl (by rw [Dl.len (by exact dr_len)]; exact hi.out) ?_))
  refine (dCheck_any ({ dr with k := 1, wU := 1 } : Dl) (by exact dr_len) (.slice none 0 0) [] _ (RC.nil _) (fun c hc => by simp at hc) (by simp)).mono ?_
  rintro _ w5 ⟨rfl, hb5⟩
  rw [show chkD ({ dr with k := 1, wU := 1 } : Dl) [] = 1 by decide +kernel]
  have Hb5 := hid (show Below w.heap.size w w5 from below_seq ((Hb3.out.setCell (by have := Hb1S.out; omega) _).setCell (by have := Hb1S.out; omega) _) hb5)
  clear hb5
  go_wp2_with fail
  go_ret
  exact ⟨rfl, Hb5.out⟩

theorem rows8_any (a : Int) (wa : (Lit.int .i64 a).wf = true) (b : Bool) (w : World) :
    Calls Try.prog 5 #[.int .i64 a, .bool b] w fun e w' => e = .returned (.bool true) ∧ Below w.heap.size w w' := by
  have h : a % 10 = 0 ∨ a % 10 = 1 ∨ a % 10 = 2 ∨ a % 10 = 3 ∨ a % 10 = 4 ∨ a % 10 = 5 ∨ a % 10 = 6 ∨ a % 10 = 7 ∨ a % 10 = 8 ∨ a % 10 = 9 := by omega
  cases b
  · rcases h with h | h | h | h | h | h | h | h | h | h
    · exact rows8_0b a h w
    · exact rows8_1b a h w
    · exact rows8_2b a h w
    · exact rows8_3b a h w
    · exact rows8_4b a h w
    · exact rows8_5b a h w
    · exact rows8_6b a h w
    · exact rows8_7b a h w
    · exact rows8_8b a h w
    · exact rows8_9b a h w
  · rcases h with h | h | h | h | h | h | h | h | h | h
    · exact rows8_0a a h w
    · exact rows8_1a a h w
    · exact rows8_2a a h w
    · exact rows8_3a a h w
    · exact rows8_4a a h w
    · exact rows8_5a a h w
    · exact rows8_6a a h w
    · exact rows8_7a a h w
    · exact rows8_8a a h w
    · exact rows8_9a a h w
end Go.Proofs.Ytajkjbhfkeakhaa

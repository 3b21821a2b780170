/- The contract of package delta's Same. -/
import Derived.Test.YtajkjbhfkeakhaaDCheck
import Derived.Test.YtajkjbhfkeakhaaSame
import Derived.Stop.BytesEq
namespace Go.Proofs.Ytajkjbhfkeakhaa
open Go.RowKit
set_option linter.unusedSimpArgs false
set_option linter.unusedVariables false

theorem eql_addr (w : World) (a b c d : Int) : (binOp .eql 23 (.agg #[.int .i64 a, .int .i64 b]) (.agg #[.int .i64 c, .int .i64 d])).run Try.prog w = .ok (.bool (a == c && b == d)) w := by
  have hS : Try.prog.underlying 23 = some (.struct (Try.prog.fieldsOf 23)) := by kernel_rfl
  have hp : Try.prog.stoodInHeld 23 = false := by kernel_rfl
  have h0 : (binOp .eql 23 (.agg #[.int .i64 a, .int .i64 b]) (.agg #[.int .i64 c, .int .i64 d])).run Try.prog w = (Op.equalIn 10000 23 (.agg #[.int .i64 a, .int .i64 b]) (.agg #[.int .i64 c, .int .i64 d]) |>.run Try.prog w).andThen (fun r w' => .ok (.bool r) w') := by
    simp only [binOp, Op.equal, Op.maxDepth, Sem.run_bind, Sem.run_pure]
  rw [h0, show (10000 : Nat) = 9999 + 1 from rfl, run_equalIn_agg w 9999 23 _ _ hS hp]
  simp only [Program.fieldsOf, Try.underlying23]
  go_simp
  by_cases h1 : a = c <;> by_cases h2 : b = d <;> simp [h1, h2]
theorem sizeB (w : World) : (sizeOf 5).run Try.prog w = .ok 1 w := by
  have h : (Try.prog.info? 5).map (·.size) = some 1 := by kernel_rfl
  cases hi : Try.prog.info? 5 with
  | none => simp [hi] at h
  | some i => simp [hi] at h; simp [sizeOf, typeInfo, hi, h]
theorem eql_hash (w : World) (l m : List UInt8) (hl : l.length = 32) (hm : m.length = 32) : (binOp .eql 25 (.agg (B l).toArray) (.agg (B m).toArray)).run Try.prog w = .ok (.bool (l == m)) w := by
  have h := run_equalIn_bytes (P := Try.prog) w 9998 25 5 32 Try.underlying25 Try.underlying5 sizeB l m hl hm
  have h0 : (binOp .eql 25 (.agg (B l).toArray) (.agg (B m).toArray)).run Try.prog w = (Op.equalIn 10000 25 (.agg (B l).toArray) (.agg (B m).toArray) |>.run Try.prog w).andThen (fun r w' => .ok (.bool r) w') := by
    simp only [binOp, Op.equal, Op.maxDepth, Sem.run_bind, Sem.run_pure]
  rw [h0]
  have h2 : (Op.equalIn 10000 25 (.agg (B l).toArray) (.agg (B m).toArray)).run Try.prog w = .ok (l == m) w := h
  rw [h2]
  rfl
/-- A load of many cells that a guard asks for. -/
theorem wpList_load_want {P : Program} {ops : Array Oper} {rest : List Oper} {op : Oper} {a : Act} {w : World} {Q : Exit → Act → World → Prop} (hw : Region.wanted op (yielded ops a.tmps) = true) (ty : TypeId) (x : Operand) (ho : op.op = .load ty x)
    (b o : Nat) (hx : a.eval x = .pointer (some ⟨b, o, none⟩)) (cs : List Value) (d : TypeDesc) (hc : w.rangeAt b o cs)
    (hu : P.underlying ty = some d) (hd : d.isRow = true) (hi : (P.info? ty).map (·.size) = some cs.length)
    (h : wpList P ops Q rest (a.put op.dst (.agg cs.toArray)) w) : wpList P ops Q (op :: rest) a w :=
  wpList_step fun K hK => by rw [if_pos hw]; exact wp_load_mid ty x ho b o hx cs d hc hu hd hi (hK _ _ h)

def sameD (a : Dl) (oa : List Cp) (b : Dl) (ob : List Cp) : Bool :=
  (a.aD == b.aD && a.aU == b.aU) && (a.id == b.id) && (a.ver == b.ver) && (a.h == b.h) && (a.k == b.k) && sameL oa ob && (a.wD == b.wD && a.wU == b.wU)
theorem sameD_iff (a : Dl) (oa : List Cp) (b : Dl) (ob : List Cp) : sameD a oa b ob = true ↔ a = b ∧ oa = ob := by
  obtain ⟨a1, a2, a3, a4, a5, a6, a7, a8⟩ := a
  obtain ⟨b1, b2, b3, b4, b5, b6, b7, b8⟩ := b
  simp only [sameD, Bool.and_eq_true, beq_iff_eq, sameL_iff, Dl.mk.injEq]
  constructor
  · rintro ⟨⟨⟨⟨⟨⟨⟨h1, h2⟩, h3⟩, h4⟩, h5⟩, h6⟩, h7⟩, h8, h9⟩
    exact ⟨⟨h1, h2, h3, h4, h5, h6, h8, h9⟩, h7⟩
  · rintro ⟨⟨h1, h2, h3, h4, h5, h6, h8, h9⟩, h7⟩
    exact ⟨⟨⟨⟨⟨⟨⟨h1, h2⟩, h3⟩, h4⟩, h5⟩, h6⟩, h7⟩, h8, h9⟩

set_option maxRecDepth 100000 in
set_option maxHeartbeats 4000000 in
theorem dSame_any (a b : Dl) (hal : a.h.length = 32) (hbl : b.h.length = 32) (va vb : Value) (oa ob : List Cp) (w : World) (ha : RC w va oa) (hb : RC w vb ob) (hla : oa.length ≤ 1048576) (hlb : ob.length ≤ 1048576) :
    Calls Try.prog 15 #[.agg (a.cells va).toArray, .agg (b.cells vb).toArray] w fun e w' => e = .returned (.bool (sameD a oa b ob)) ∧ Below w.heap.size w w' := by
  obtain ⟨aa, ca, rfl⟩ := ha.form
  obtain ⟨ab, cb, rfl⟩ := hb.form
  obtain ⟨xs, hxs⟩ : ∃ xs, a.cells (.slice aa oa.length ca) = xs := ⟨_, rfl⟩
  obtain ⟨ys, hys⟩ : ∃ ys, b.cells (.slice ab ob.length cb) = ys := ⟨_, rfl⟩
  rw [hxs, hys]
  have HX := hid hxs
  have HY := hid hys
  have HA := hid ha
  have HB := hid hb
  have HAL := hid hal
  have HBL := hid hbl
  have hi := hid (show (Try.prog.info? 25).map (·.size) = some (B a.h).length by rw [B_length, hal]; kernel_rfl)
  have hi2 := hid (show (Try.prog.info? 25).map (·.size) = some (B b.h).length by rw [B_length, hbl]; kernel_rfl)
  obtain ⟨L, hL⟩ : ∃ L, w.heap.size = L := ⟨_, rfl⟩
  have hq1 := fun wx => eql_addr wx a.aD a.aU b.aD b.aU
  have hq4 := fun wx => eql_hash wx a.h b.h hal hbl
  have hq7 := fun wx => eql_addr wx a.wD a.wU b.wD b.wU
  clear hxs hys ha hb hal hbl
  obtain ⟨r1, hr1⟩ : ∃ r, (a.aD == b.aD && a.aU == b.aU) = r := ⟨_, rfl⟩
  obtain ⟨r2, hr2⟩ : ∃ r, (a.id == b.id) = r := ⟨_, rfl⟩
  obtain ⟨r3, hr3⟩ : ∃ r, (a.ver == b.ver) = r := ⟨_, rfl⟩
  obtain ⟨r4, hr4⟩ : ∃ r, (a.h == b.h) = r := ⟨_, rfl⟩
  obtain ⟨r5, hr5⟩ : ∃ r, (a.k == b.k) = r := ⟨_, rfl⟩
  obtain ⟨r6, hr6⟩ : ∃ r, sameL oa ob = r := ⟨_, rfl⟩
  obtain ⟨r7, hr7⟩ : ∃ r, (a.wD == b.wD && a.wU == b.wU) = r := ⟨_, rfl⟩
  have HR := hid (show sameD a oa b ob = (r1 && r2 && r3 && r4 && r5 && r6 && r7) by rw [sameD, hr1, hr2, hr3, hr4, hr5, hr6, hr7])
  have H6 := hid hr6
  rw [hr1] at hq1
  rw [hr4] at hq4
  rw [hr7] at hq7
  clear hr1 hr4 hr6 hr7
  cases r1 with
  | false =>
    replace HR := hid (show sameD a oa b ob = false by rw [HR.out]; simp)
    go_enter Try.func15, Try.ntmps15
    go_wp2_with (first
      | (show wpList _ _ _ (⟨some 2, Op.box _ _, _, _, _, _⟩ :: _) _ _; go_must (refine wpList_box_blk rfl 29 _ rfl xs rfl L hL ?_); intro w1 hB1 hb1 hs1; rw [← HX.out] at hB1; have HW1 := hid (DW.mk HAL.out hB1); clear hB1; replace hb1 := hid hb1)
      | (show wpList _ _ _ (⟨some 3, Op.box _ _, _, _, _, _⟩ :: _) _ _; go_must (refine wpList_box_blk rfl 29 _ rfl ys rfl (L + 1) hs1 ?_); intro w2 hB2 hb2 hs2; rw [← HY.out] at hB2; have HV := hid (DW.mk HBL.out hB2); have HW := hid (HW1.out.kept (hb2.block L (by omega))); have Hb := hid (show Below L w w2 from hb1.out.trans (hb2.mono (by omega))); obtain ⟨c0, c1, c2, c3, c36, c37, c38, c39⟩ := HW.out.cells; obtain ⟨d0, d1, d2, d3, d36, d37, d38, d39⟩ := HV.out.cells; have HRA := hid HW.out.hash; have HRB := hid HV.out.hash; clear hB2 hb2 hs2)
      | (show wpList _ _ _ (⟨some 26, Op.load _ _, _, _, _, _⟩ :: _) _ _; go_must (refine wpList_load_want rfl 25 _ rfl L 4 rfl (B a.h) _ HRA.out Try.underlying25 rfl hi.out ?_))
      | (show wpList _ _ _ (⟨some 28, Op.load _ _, _, _, _, _⟩ :: _) _ _; go_must (refine wpList_load_want rfl 25 _ rfl (L + 1) 4 rfl (B b.h) _ HRB.out Try.underlying25 rfl hi2.out ?_)))
    go_ret
    exact ⟨by rw [HR.out]; rfl, by rw [hL]; exact Hb.out⟩
  | true =>
  cases r2 with
  | false =>
    replace HR := hid (show sameD a oa b ob = false by rw [HR.out]; simp)
    go_enter Try.func15, Try.ntmps15
    go_wp2_with (first
      | (show wpList _ _ _ (⟨some 2, Op.box _ _, _, _, _, _⟩ :: _) _ _; go_must (refine wpList_box_blk rfl 29 _ rfl xs rfl L hL ?_); intro w1 hB1 hb1 hs1; rw [← HX.out] at hB1; have HW1 := hid (DW.mk HAL.out hB1); clear hB1; replace hb1 := hid hb1)
      | (show wpList _ _ _ (⟨some 3, Op.box _ _, _, _, _, _⟩ :: _) _ _; go_must (refine wpList_box_blk rfl 29 _ rfl ys rfl (L + 1) hs1 ?_); intro w2 hB2 hb2 hs2; rw [← HY.out] at hB2; have HV := hid (DW.mk HBL.out hB2); have HW := hid (HW1.out.kept (hb2.block L (by omega))); have Hb := hid (show Below L w w2 from hb1.out.trans (hb2.mono (by omega))); obtain ⟨c0, c1, c2, c3, c36, c37, c38, c39⟩ := HW.out.cells; obtain ⟨d0, d1, d2, d3, d36, d37, d38, d39⟩ := HV.out.cells; have HRA := hid HW.out.hash; have HRB := hid HV.out.hash; clear hB2 hb2 hs2)
      | (show wpList _ _ _ (⟨some 26, Op.load _ _, _, _, _, _⟩ :: _) _ _; go_must (refine wpList_load_want rfl 25 _ rfl L 4 rfl (B a.h) _ HRA.out Try.underlying25 rfl hi.out ?_))
      | (show wpList _ _ _ (⟨some 28, Op.load _ _, _, _, _, _⟩ :: _) _ _; go_must (refine wpList_load_want rfl 25 _ rfl (L + 1) 4 rfl (B b.h) _ HRB.out Try.underlying25 rfl hi2.out ?_)))
    go_ret
    exact ⟨by rw [HR.out]; rfl, by rw [hL]; exact Hb.out⟩
  | true =>
  cases r3 with
  | false =>
    replace HR := hid (show sameD a oa b ob = false by rw [HR.out]; simp)
    go_enter Try.func15, Try.ntmps15
    go_wp2_with (first
      | (show wpList _ _ _ (⟨some 2, Op.box _ _, _, _, _, _⟩ :: _) _ _; go_must (refine wpList_box_blk rfl 29 _ rfl xs rfl L hL ?_); intro w1 hB1 hb1 hs1; rw [← HX.out] at hB1; have HW1 := hid (DW.mk HAL.out hB1); clear hB1; replace hb1 := hid hb1)
      | (show wpList _ _ _ (⟨some 3, Op.box _ _, _, _, _, _⟩ :: _) _ _; go_must (refine wpList_box_blk rfl 29 _ rfl ys rfl (L + 1) hs1 ?_); intro w2 hB2 hb2 hs2; rw [← HY.out] at hB2; have HV := hid (DW.mk HBL.out hB2); have HW := hid (HW1.out.kept (hb2.block L (by omega))); have Hb := hid (show Below L w w2 from hb1.out.trans (hb2.mono (by omega))); obtain ⟨c0, c1, c2, c3, c36, c37, c38, c39⟩ := HW.out.cells; obtain ⟨d0, d1, d2, d3, d36, d37, d38, d39⟩ := HV.out.cells; have HRA := hid HW.out.hash; have HRB := hid HV.out.hash; clear hB2 hb2 hs2)
      | (show wpList _ _ _ (⟨some 26, Op.load _ _, _, _, _, _⟩ :: _) _ _; go_must (refine wpList_load_want rfl 25 _ rfl L 4 rfl (B a.h) _ HRA.out Try.underlying25 rfl hi.out ?_))
      | (show wpList _ _ _ (⟨some 28, Op.load _ _, _, _, _, _⟩ :: _) _ _; go_must (refine wpList_load_want rfl 25 _ rfl (L + 1) 4 rfl (B b.h) _ HRB.out Try.underlying25 rfl hi2.out ?_)))
    go_ret
    exact ⟨by rw [HR.out]; rfl, by rw [hL]; exact Hb.out⟩
  | true =>
  cases r4 with
  | false =>
    replace HR := hid (show sameD a oa b ob = false by rw [HR.out]; simp)
    go_enter Try.func15, Try.ntmps15
    go_wp2_with (first
      | (show wpList _ _ _ (⟨some 2, Op.box _ _, _, _, _, _⟩ :: _) _ _; go_must (refine wpList_box_blk rfl 29 _ rfl xs rfl L hL ?_); intro w1 hB1 hb1 hs1; rw [← HX.out] at hB1; have HW1 := hid (DW.mk HAL.out hB1); clear hB1; replace hb1 := hid hb1)
      | (show wpList _ _ _ (⟨some 3, Op.box _ _, _, _, _, _⟩ :: _) _ _; go_must (refine wpList_box_blk rfl 29 _ rfl ys rfl (L + 1) hs1 ?_); intro w2 hB2 hb2 hs2; rw [← HY.out] at hB2; have HV := hid (DW.mk HBL.out hB2); have HW := hid (HW1.out.kept (hb2.block L (by omega))); have Hb := hid (show Below L w w2 from hb1.out.trans (hb2.mono (by omega))); obtain ⟨c0, c1, c2, c3, c36, c37, c38, c39⟩ := HW.out.cells; obtain ⟨d0, d1, d2, d3, d36, d37, d38, d39⟩ := HV.out.cells; have HRA := hid HW.out.hash; have HRB := hid HV.out.hash; clear hB2 hb2 hs2)
      | (show wpList _ _ _ (⟨some 26, Op.load _ _, _, _, _, _⟩ :: _) _ _; go_must (refine wpList_load_want rfl 25 _ rfl L 4 rfl (B a.h) _ HRA.out Try.underlying25 rfl hi.out ?_))
      | (show wpList _ _ _ (⟨some 28, Op.load _ _, _, _, _, _⟩ :: _) _ _; go_must (refine wpList_load_want rfl 25 _ rfl (L + 1) 4 rfl (B b.h) _ HRB.out Try.underlying25 rfl hi2.out ?_)))
    go_ret
    exact ⟨by rw [HR.out]; rfl, by rw [hL]; exact Hb.out⟩
  | true =>
  cases r5 with
  | false =>
    replace HR := hid (show sameD a oa b ob = false by rw [HR.out]; simp)
    go_enter Try.func15, Try.ntmps15
    go_wp2_with (first
      | (show wpList _ _ _ (⟨some 2, Op.box _ _, _, _, _, _⟩ :: _) _ _; go_must (refine wpList_box_blk rfl 29 _ rfl xs rfl L hL ?_); intro w1 hB1 hb1 hs1; rw [← HX.out] at hB1; have HW1 := hid (DW.mk HAL.out hB1); clear hB1; replace hb1 := hid hb1)
      | (show wpList _ _ _ (⟨some 3, Op.box _ _, _, _, _, _⟩ :: _) _ _; go_must (refine wpList_box_blk rfl 29 _ rfl ys rfl (L + 1) hs1 ?_); intro w2 hB2 hb2 hs2; rw [← HY.out] at hB2; have HV := hid (DW.mk HBL.out hB2); have HW := hid (HW1.out.kept (hb2.block L (by omega))); have Hb := hid (show Below L w w2 from hb1.out.trans (hb2.mono (by omega))); obtain ⟨c0, c1, c2, c3, c36, c37, c38, c39⟩ := HW.out.cells; obtain ⟨d0, d1, d2, d3, d36, d37, d38, d39⟩ := HV.out.cells; have HRA := hid HW.out.hash; have HRB := hid HV.out.hash; clear hB2 hb2 hs2)
      | (show wpList _ _ _ (⟨some 26, Op.load _ _, _, _, _, _⟩ :: _) _ _; go_must (refine wpList_load_want rfl 25 _ rfl L 4 rfl (B a.h) _ HRA.out Try.underlying25 rfl hi.out ?_))
      | (show wpList _ _ _ (⟨some 28, Op.load _ _, _, _, _, _⟩ :: _) _ _; go_must (refine wpList_load_want rfl 25 _ rfl (L + 1) 4 rfl (B b.h) _ HRB.out Try.underlying25 rfl hi2.out ?_)))
    go_ret
    exact ⟨by rw [HR.out]; rfl, by rw [hL]; exact Hb.out⟩
  | true =>
  replace HR := hid (show sameD a oa b ob = (r6 && r7) from HR.out)
  go_enter Try.func15, Try.ntmps15
  go_wp2_with (first
    | (show wpList _ _ _ (⟨some 2, Op.box _ _, _, _, _, _⟩ :: _) _ _; go_must (refine wpList_box_blk rfl 29 _ rfl xs rfl L hL ?_); intro w1 hB1 hb1 hs1; rw [← HX.out] at hB1; have HW1 := hid (DW.mk HAL.out hB1); clear hB1; replace hb1 := hid hb1)
    | (show wpList _ _ _ (⟨some 3, Op.box _ _, _, _, _, _⟩ :: _) _ _; go_must (refine wpList_box_blk rfl 29 _ rfl ys rfl (L + 1) hs1 ?_); intro w2 hB2 hb2 hs2; rw [← HY.out] at hB2; have HV := hid (DW.mk HBL.out hB2); have HW := hid (HW1.out.kept (hb2.block L (by omega))); have Hb := hid (show Below L w w2 from hb1.out.trans (hb2.mono (by omega))); obtain ⟨c0, c1, c2, c3, c36, c37, c38, c39⟩ := HW.out.cells; obtain ⟨d0, d1, d2, d3, d36, d37, d38, d39⟩ := HV.out.cells; have HRA := hid HW.out.hash; have HRB := hid HV.out.hash; clear hB2 hb2 hs2)
    | (show wpList _ _ _ (⟨some 26, Op.load _ _, _, _, _, _⟩ :: _) _ _; go_must (refine wpList_load_want rfl 25 _ rfl L 4 rfl (B a.h) _ HRA.out Try.underlying25 rfl hi.out ?_))
    | (show wpList _ _ _ (⟨some 28, Op.load _ _, _, _, _, _⟩ :: _) _ _; go_must (refine wpList_load_want rfl 25 _ rfl (L + 1) 4 rfl (B b.h) _ HRB.out Try.underlying25 rfl hi2.out ?_)))
  refine (Same_any _ _ oa ob _ (HA.out.later (by rw [hL]; exact Hb.out)) (HB.out.later (by rw [hL]; exact Hb.out)) hla hlb).mono ?_
  rintro _ w3 ⟨rfl, hb3⟩
  rw [H6.out]
  have hzl : L + 1 < w2.heap.size := HV.out.blk.lt
  have HW3 := hid (HW.out.later hb3)
  have HV3 := hid (HV.out.later hb3)
  have Hb3 := hid (show Below L w w3 from Hb.out.trans (hb3.mono (by omega)))
  clear c0 c1 c2 c3 c36 c37 c38 c39 d0 d1 d2 d3 d36 d37 d38 d39
  obtain ⟨c0, c1, c2, c3, c36, c37, c38, c39⟩ := HW3.out.cells
  obtain ⟨d0, d1, d2, d3, d36, d37, d38, d39⟩ := HV3.out.cells
  clear c0 c1 c2 c3 c36 c37 d0 d1 d2 d3 d36 d37 hb3
  cases r6 with
  | false =>
    go_wp2_with fail
    go_ret
    exact ⟨by rw [HR.out]; rfl, by rw [hL]; exact Hb3.out⟩
  | true =>
    cases r7
    · go_wp2_with fail
      go_ret
      exact ⟨by rw [HR.out]; rfl, by rw [hL]; exact Hb3.out⟩
    · go_wp2_with fail
      go_ret
      exact ⟨by rw [HR.out]; rfl, by rw [hL]; exact Hb3.out⟩
end Go.Proofs.Ytajkjbhfkeakhaa

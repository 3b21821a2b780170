/- The contract of package transform's copied. -/
import Derived.Test.YtlgdllbhddnokabTMem
import Derived.Test.YtlgdllbhddnokabClone
namespace Go.Proofs.Ytlgdllbhddnokab
open Go.RowKit
set_option linter.unusedSimpArgs false
set_option linter.unusedVariables false

/-- make of n parts. -/
theorem wpList_make_c {w : World} {ops : Array Oper} {rest : List Oper} {op : Oper} {a : Act} {Q : Exit → Act → World → Prop} (hgd : op.guard = none) (l c : Operand) (hop : op.op = Op.makeSlice 25 l c)
    (n : Nat) (hl : a.eval l = .int .i64 (n : Int)) (hc : a.eval c = .int .i64 (n : Int)) (hb : n ≤ 4398046511104)
    (h : ∀ w' cs, Blk w' 42 w.heap.size cs → cs.length = n * 3 → Below w.heap.size w w' → wpList Try.prog ops Q rest (a.put op.dst (.slice (some ⟨w.heap.size, 0, none⟩) n n)) w') : wpList Try.prog ops Q (op :: rest) a w := by
  obtain ⟨i, z, hi, hz, hsz, hzs, hby⟩ := info_comp
  have hr := run_make (P := Try.prog) w 25 42 i z Try.underlying25 hi hz .i64 .i64 (n : Int) (n : Int) (by omega) (by omega) (by rw [hby]; omega) (by omega)
  simp only [Int.toNat_natCast] at hr
  refine wpList_plain hgd fun K hK => ?_
  unfold Oper.wp
  simp [execOp, hop, hl, hc, hr, Result.andThen]
  refine hK _ _ (h _ (madeCells z.cells (n * i.size)).toList ?_ ?_ ((Below.refl _ _).alloc (Nat.le_refl _) _))
  · have := Blk.new w 42 (madeCells z.cells (n * i.size)).toList
    simpa using this
  · rw [Array.length_toList, size_madeCells, hsz]
theorem C_take_succ (o : List Cp) (j : Nat) (c : Cp) (h : o[j]? = some c) : C (o.take (j + 1)) = C (o.take j) ++ c.vals := by
  rw [take_succ' o j c h, C_append]; simp [C]

set_option maxRecDepth 100000 in
set_option maxHeartbeats 2000000 in
theorem copied_any (v : Value) (o : List Cp) (w : World) (hv : RC w v o) (hf : Fit o) :
    Calls Try.prog 27 #[v] w fun e w' => ∃ v', e = .returned v' ∧ HasC w' w.heap.size v' o ∧ Below w.heap.size w w' := by
  obtain ⟨ao, cap, rfl⟩ := hv.form
  have HV := hid hv
  have HF := hid hf
  have hlen := hf.1
  clear hv hf
  obtain ⟨g0, hg0⟩ : ∃ g, w.heap.size = g := ⟨_, rfl⟩
  go_enter Try.func27, Try.ntmps27
  go_wp2_with (at_make; go_must (refine wpList_make_c rfl _ _ rfl o.length rfl rfl ?hb ?_))
  case hb => omega
  intro w1 cs hB1 hl1 hb1
  have HB1 := hid hB1
  have HL1 := hid hl1
  have Hb1 := hid (show Below w.heap.size w w1 by rw [hg0]; exact hb1)
  have HG0 := hid hg0
  clear hB1 hl1 hb1 hg0
  go_wp2_with fail
  go_loopw [11] (fun iv wr => ∃ (j : Nat) (rest : List Value), j ≤ o.length ∧ iv = .int .i64 j ∧ rest.length = (o.length - j) * 3 ∧ Blk wr 42 g0 (C (o.take j) ++ rest) ∧ Below w.heap.size w wr) (fun iv _ => o.length - (intOf iv).toNat)
  case atStart => exact ⟨0, cs, Nat.zero_le _, rfl, by rw [HL1.out]; rfl, by rw [List.take_zero]; exact HB1.out, Hb1.out⟩
  case round =>
    clear HB1 HL1 Hb1
    obtain ⟨j, rest, hj, rfl, hrl, hB, hb⟩ := hrel
    have Hb := hid hb
    have HB := hid hB
    have HRL := hid hrl
    have hgl : g0 < wr.heap.size := hB.lt
    clear hb hB hrl
    by_cases hlt : j < o.length
    · have hlt' : (j : Int) < (o.length : Int) := by omega
      obtain ⟨c, hc⟩ : ∃ c, o[j]? = some c := ⟨_, List.getElem?_eq_getElem hlt⟩
      obtain ⟨g, off, cap', e, hcap, hr, hg⟩ := HV.out.place (by omega)
      injection e with e1 e2 e3
      subst e1 e3
      obtain ⟨c0, c1, c2⟩ := RC.cells hr hc
      replace c0 := cell_later Hb.out c0
      replace c1 := cell_later Hb.out c1
      replace c2 := cell_later Hb.out c2
      have hA := (HF.out.at hc).2.2
      have HS := hid (C_take_succ o j c hc)
      have hBx := Blk.new wr 42 c.vals
      obtain ⟨wb, hwb⟩ : ∃ x, wr.alloc (.cells c.vals.toArray 42) = x := ⟨_, rfl⟩
      obtain ⟨b, hbn⟩ : ∃ b, wr.heap.size = b := ⟨_, rfl⟩
      rw [hwb, hbn] at hBx
      have hbb : Below wr.heap.size wr wb := by rw [← hwb]; exact (Below.refl _ _).alloc (Nat.le_refl _) _
      have HBx := hid hBx
      have HBo := hid (HB.out.later hbb)
      have Hbw := hid (below_seq Hb.out hbb)
      rw [hbn] at hgl
      have z2 : wb.cell? ⟨b, 2, none⟩ = some (.string c.s) := hBx.cell rfl
      simp only [Cp.vals] at hwb
      clear hr hc e2 hBx hbb HB Hb
      have hwb2 : w.heap.size ≤ b := by have := Hbw.out.size; have := HG0.out; omega
      go_wp2_with fail
      refine (sClone_any c.s hA _).mono ?_
      rintro _ w2 ⟨rfl, hb2⟩
      have hBx2 := HBx.out.later hb2
      have hBo2 := HBo.out.later hb2
      have hbw2 := below_seq Hbw.out hb2
      have x2 : w2.cell? ⟨b, 2, none⟩ = some (.string c.s) := hBx2.cell rfl
      have f2 := hBx2.frozen 2
      obtain ⟨w3, hw3⟩ : ∃ x, w2.setCell ⟨b, 2, none⟩ (.string c.s) = x := ⟨_, rfl⟩
      have hBx3 : Blk w3 42 b c.vals := by rw [← hw3]; exact hBx2.setCell 2 (.string c.s)
      have HBo3 := hid (show Blk w3 42 g0 (C (o.take j) ++ rest) by rw [← hw3]; exact hBo2.kept (heap_setCell_other _ _ _ _ (by show g0 ≠ b; omega)))
      have Hbw3 := hid (show Below w.heap.size w w3 by rw [← hw3]; exact hbw2.setCell (p := ⟨b, 2, none⟩) hwb2 _)
      have k0 : w3.cell? ⟨b, 0, none⟩ = some (.int .i64 c.k) := hBx3.cell rfl
      have k1 : w3.cell? ⟨b, 1, none⟩ = some (.int .i64 c.n) := hBx3.cell rfl
      have k2 : w3.cell? ⟨b, 2, none⟩ = some (.string c.s) := hBx3.cell rfl
      have hth : w3.there g0 (j * 3) c.vals.length := HBo3.out.there (by
        have h1 := HRL.out
        rw [List.length_append, C_length, List.length_take, h1]
        simp only [Cp.vals, List.length_cons, List.length_nil]
        omega)
      have HTH := hid hth
      clear hth hb2 hBx2 hBo2 hbw2 hBx3 c0 c1 c2 z2 HBx HBo Hbw hwb
      go_wp2_with (show wpList _ _ _ (⟨none, Op.store 42 _ _, _, _, _, _⟩ :: _) _ _; go_must (refine wpList_store_list rfl 42 _ _ rfl g0 (j * 3) c.vals rfl rfl HTH.out (by kernel_rfl) ?h1 ?_))
      case h1 =>
        intro u hu
        simp only [Cp.vals, List.mem_cons, List.not_mem_nil, or_false] at hu
        rcases hu with rfl | rfl | rfl <;> rfl
      obtain ⟨w4, hw4⟩ : ∃ x, x = w3.setCells g0 (j * 3) c.vals := ⟨_, rfl⟩
      rw [← hw4]
      obtain ⟨r1, r2, hr12, hr1⟩ : ∃ r1 r2, rest = r1 ++ r2 ∧ r1.length = 3 := ⟨rest.take 3, rest.drop 3, (List.take_append_drop 3 rest).symm, by rw [List.length_take, HRL.out]; omega⟩
      have HB4 := hid (show Blk w4 42 g0 (C (o.take (j + 1)) ++ r2) by
        rw [hw4, HS.out]
        exact Blk.setCells c.vals (C (o.take j)) r1 r2 (by rw [List.append_assoc, ← hr12]; exact HBo3.out) (by rw [hr1]; rfl) (by rw [C_length, List.length_take]; omega))
      have HR4 := hid (show r2.length = (o.length - (j + 1)) * 3 by
        have h1 := HRL.out
        rw [hr12, List.length_append, hr1] at h1
        omega)
      have Hb4 := hid (show Below w.heap.size w w4 by rw [hw4]; exact below_setCells (by rw [HG0.out]; exact Nat.le_refl _) _ _ Hbw3.out)
      clear hw4 hr12 hr1 k0 k1 k2 x2 f2 hw3
      go_roundw
      case rel => exact ⟨j + 1, r2, by omega, by go_num, HR4.out, HB4.out, Hb4.out⟩
      case measure => simp [intOf]; omega
    · have hj2 : j = o.length := by omega
      subst hj2
      go_wp2_with fail
      go_ret
      refine ⟨_, rfl, ?_, Hb.out⟩
      have h1 := HB.out
      have h2 : rest = [] := List.eq_nil_of_length_eq_zero (by have := HRL.out; omega)
      rw [h2, List.append_nil, take_all'] at h1
      exact HasK.built h1 (C_length o) (by rw [HG0.out]; exact Nat.le_refl _)
end Go.Proofs.Ytlgdllbhddnokab

/- The contract of the second say's Parse (chapter 8). -/
import Derived.Test.YtinifnpajkldbaaDoorPk30
import Derived.Test.YtinifnpajkldbaaDoorRCheck
import Derived.Test.YtinifnpajkldbaaDoorQ9b40
namespace Go.Proofs.YtinifnpajkldbaaDoor
open Go.RowKit
set_option linter.unusedSimpArgs false
set_option linter.unusedVariables false

theorem below_drewN (w : World) (n : Nat) : Below w.heap.size w (w.drewN n) := ⟨rfl, rfl, rfl, Nat.le_refl _, fun _ _ => rfl⟩

set_option maxRecDepth 100000 in
set_option maxHeartbeats 8000000 in
theorem rParse_any (v : Value) (b : List UInt8) (w : World) (hr : Reads w v (B b)) (hbl : b.length ≤ 140737488355328) :
    Calls Tryd.prog 19 #[v] w (ParseR b w) := by
  obtain ⟨L, hL⟩ : ∃ L, w.heap.size = L := ⟨_, rfl⟩
  have HI := hid (show (Tryd.prog.info? 30).map (·.size) = some 40 by kernel_rfl)
  have HH := hid (show (Tryd.prog.info? 26).map (·.size) = some 32 by kernel_rfl)
  have HZO := hid (show ∀ x ∈ Dl.zero.cells (.slice none 0 0), x.oneCell' = true from Dl.one rfl)
  have HW0 := hid (show DW (w.alloc (.cells (Dl.zero.cells (.slice none 0 0)).toArray 30)) 30 L Dl.zero (.slice none 0 0) from ⟨Dl.zero_len, by rw [← hL]; exact Blk.new w _ _⟩)
  have Hb0 := hid (show Below L w (w.alloc (.cells (Dl.zero.cells (.slice none 0 0)).toArray 30)) by rw [← hL]; exact (Below.refl _ _).alloc (Nat.le_refl _) _)
  have HS0 := hid (show L + 1 = (w.alloc (.cells (Dl.zero.cells (.slice none 0 0)).toArray 30)).heap.size by simp; omega)
  have HRd0 := hid (hr.later ((Below.refl _ _).alloc (Nat.le_refl _) (.cells (Dl.zero.cells (.slice none 0 0)).toArray 30)))
  have HRN := hid hr
  have HD := hid (show ∀ (x : Ending) (w' : World) (d : Dl) (o : List Cp) (e : Int) (v' : Value), delP b = (d, o, e) → x = .returned (.tuple #[.agg (d.cells v').toArray, .int .i64 e]) → HasC w' w.heap.size v' o → Below w.heap.size w w' → ParseR b w x w' by
    intro x w' d o e v' h1 h2 h3 h4
    exact ⟨v', by rw [h1]; exact h2, by rw [h1]; exact h3, h4⟩)
  clear hr
  go_enter Tryd.func19, Tryd.ntmps19
  go_wp2_with fail
  refine (frNew_any v b _ HRd0.out hbl).mono ?_
  rintro _ w1 ⟨p, rfl, hp, hR, hb⟩
  have hb1 : Below (w.alloc (.cells (Dl.zero.cells (.slice none 0 0)).toArray 30)).heap.size (w.alloc (.cells (Dl.zero.cells (.slice none 0 0)).toArray 30)) w1 := hb
  have hp1 : (w.alloc (.cells (Dl.zero.cells (.slice none 0 0)).toArray 30)).heap.size ≤ p := hp
  have hR0 : FR (w.alloc (.cells (Dl.zero.cells (.slice none 0 0)).toArray 30)).heap.size w1 p (b, 0) := hR
  rw [← HS0.out] at hR0
  have HW1 := hid (HW0.out.later hb1)
  have HB1 := hid (show Below L w w1 from Hb0.out.trans (hb1.mono (by have := HS0.out; omega)))
  have hpL' : L < p := by have := HS0.out; omega
  have hpL : L ≠ p := by omega
  have HR1 := hid hR0
  have hl1 : p < w1.heap.size := hR0.lt
  clear hR hb hb1 hp hp1 hR0 HRd0 HW0 Hb0 HS0 HRN
  go_wp2_with fail
  refine (rAddr_any (N := L + 1) p (b, 0) _ HR1.out (by omega)).mono ?_
  rintro _ w2 ⟨rfl, hR, hg⟩
  have HW2 := hid (HW1.out.grown hg (by intro e; cases e; exact hpL rfl))
  have HB2 := hid (show Below L w w2 from HB1.out.grown hg (by omega) (fun k hk => by cases hk; omega))
  have hl2 : p < w2.heap.size := hR.lt
  obtain ⟨L2, hL2⟩ : ∃ L2, w2.heap.size = L2 := ⟨_, rfl⟩
  have hpL2 : L2 ≠ p := by omega
  have hNL : L + 1 ≤ L2 := by omega
  have hLL : L ≠ L2 := by omega
  have HBZ : Blk (w2.alloc (.cells (Dl.zero.cells (.slice none 0 0)).toArray 30)) 30 L2 (Dl.zero.cells (.slice none 0 0)) := by rw [← hL2]; exact Blk.new w2 _ _
  have hdl : (⟨intV (b, 0), intV (intN (b, 0)), 0, 0, (List.replicate 32 0), 0, 0, 0⟩ : Dl).h.length = 32 := by simp
  have HT := hid (lay_delta (v := .slice none 0 0) hdl HBZ)
  have HRA := hid (hR.later ((Below.refl _ _).alloc (Nat.le_refl _) (.cells (Dl.zero.cells (.slice none 0 0)).toArray 30)))
  have HWA := hid (HW2.out.later ((Below.refl _ _).alloc (Nat.le_refl _) (.cells (Dl.zero.cells (.slice none 0 0)).toArray 30)))
  have HBA := hid (HB2.out.alloc (by omega) (.cells (Dl.zero.cells (.slice none 0 0)).toArray 30))
  obtain ⟨cs, hcs⟩ : ∃ cs, (⟨intV (b, 0), intV (intN (b, 0)), 0, 0, (List.replicate 32 0), 0, 0, 0⟩ : Dl).cells (.slice none 0 0) = cs := ⟨_, rfl⟩
  rw [hcs] at HT
  have HCE := hid (show Value.agg cs.toArray = Value.agg ((⟨intV (b, 0), intV (intN (b, 0)), 0, 0, (List.replicate 32 0), 0, 0, 0⟩ : Dl).cells (.slice none 0 0)).toArray by rw [hcs])
  have HL := hid (show cs.length = 40 by rw [← hcs, Dl.len hdl])
  have HO := hid (show ∀ v ∈ cs, v.oneCell' = true by rw [← hcs]; exact Dl.one rfl)
  clear hR hg hcs HBZ HR1 HW1 HB1 HW2 HB2
  go_wp2_with (show wpList _ _ _ (⟨none, Op.store _ (Operand.tmp 5) (Operand.tmp 12), _, _, _, _⟩ :: _) _ _; go_must (refine wpList_store_list rfl 30 _ _ rfl L2 0 cs rfl HCE.out.symm HT.out.1 (by rw [HL.out]; exact HI.out) HO.out ?_); intro w3 hw3; have hw3' : w3 = (w2.alloc (.cells (Dl.zero.cells (.slice none 0 0)).toArray 30)).setCells L2 0 cs := hw3; have HV3 := hid HT.out.2; rw [← hw3'] at HV3; have HR3 := hid (show FR (L + 1) w3 p (intN (intN (b, 0))) by rw [hw3']; exact HRA.out.apart (grownCs L2 _ 0 _) (by omega) (by omega)); have HW3 := hid (show DW w3 30 L Dl.zero (.slice none 0 0) by rw [hw3']; exact HWA.out.grown (grownCs L2 _ 0 _) (by intro e; cases e; omega)); have HB3 := hid (show Below L w w3 by rw [hw3']; exact below_setCells (by omega) _ _ HBA.out); clear hw3 hw3' HT HRA HWA HBA)
  have HS3 := hid (show L2 < w3.heap.size from HV3.out.blk.lt)
  refine (frInt_any p (intN (intN (b, 0))) _ HR3.out).mono ?_
  rintro _ w4 ⟨rfl, hR, hg⟩
  change FR (L + 1) w4 p (intN (intN (intN (b, 0)))) at hR
  rw [show intR (jn 8 0 0 (intN (intN (b, 0)))) = intV (intN (intN (b, 0))) from rfl]
  have HV4 := hid (HV3.out.grown hg (by intro e; cases e; exact hpL2 rfl))
  have HW4 := hid (HW3.out.grown hg (by intro e; cases e; exact hpL rfl))
  have HB4 := hid (below_at (show Below w.heap.size w w3 by rw [hL]; exact HB3.out) hg (by omega))
  rw [hL] at HB4
  have HS4 := hid (show L2 < w4.heap.size from HV4.out.blk.lt)
  have HR4 := hid hR
  clear hR hg HR3 HV3 HW3 HB3 HS3
  obtain ⟨c0, c1, c2, c3, c36, c37, c38, c39⟩ := HV4.out.cells
  have f0 := HV4.out.frozen 2
  clear c0 c1 c3 c36 c37 c38 c39
  go_wp2_with fail
  have HVn := hid (HV4.out.set_id (intV (intN (intN (b, 0)))))
  have HRn := hid (HR4.out.apart (grownC w4 L2 2 (.int .i64 (intV (intN (intN (b, 0)))))) hNL (fun e => hpL2 e.symm))
  have HWn := hid (HW4.out.grown (grownC w4 L2 2 (.int .i64 (intV (intN (intN (b, 0)))))) (by intro e; cases e; exact hLL rfl))
  have HBn := hid ((show Below L w (w4.setCell ⟨L2, 2, none⟩ (.int .i64 (intV (intN (intN (b, 0)))))) from HB4.out.setCell (show L ≤ L2 by omega) _))
  clear HV4 HR4 HW4 HB4 HS4 c2 f0
  generalize w4.setCell ⟨L2, 2, none⟩ (.int .i64 (intV (intN (intN (b, 0))))) = w5 at *
  have HV5 : Hid (DW w5 30 L2 (⟨intV (b, 0), intV (intN (b, 0)), intV (intN (intN (b, 0))), 0, (List.replicate 32 0), 0, 0, 0⟩ : Dl) (.slice none 0 0)) := HVn
  have HR5 := HRn
  have HW5 := HWn
  have HB5 := HBn
  have HS5 := hid (show L2 < w5.heap.size from HV5.out.blk.lt)
  clear HVn HRn HWn HBn
  refine (frInt_any p (intN (intN (intN (b, 0)))) _ HR5.out).mono ?_
  rintro _ w6 ⟨rfl, hR, hg⟩
  change FR (L + 1) w6 p (intN (intN (intN (intN (b, 0))))) at hR
  rw [show intR (jn 8 0 0 (intN (intN (intN (b, 0))))) = intV (intN (intN (intN (b, 0)))) from rfl]
  have HV6 := hid (HV5.out.grown hg (by intro e; cases e; exact hpL2 rfl))
  have HW6 := hid (HW5.out.grown hg (by intro e; cases e; exact hpL rfl))
  have HB6 := hid (below_at (show Below w.heap.size w w5 by rw [hL]; exact HB5.out) hg (by omega))
  rw [hL] at HB6
  have HS6 := hid (show L2 < w6.heap.size from HV6.out.blk.lt)
  have HR6 := hid hR
  clear hR hg HR5 HV5 HW5 HB5 HS5
  obtain ⟨c0, c1, c2, c3, c36, c37, c38, c39⟩ := HV6.out.cells
  have f0 := HV6.out.frozen 3
  clear c0 c1 c2 c36 c37 c38 c39
  go_wp2_with fail
  have HVn := hid (HV6.out.set_ver (intV (intN (intN (intN (b, 0))))))
  have HRn := hid (HR6.out.apart (grownC w6 L2 3 (.int .i64 (intV (intN (intN (intN (b, 0))))))) hNL (fun e => hpL2 e.symm))
  have HWn := hid (HW6.out.grown (grownC w6 L2 3 (.int .i64 (intV (intN (intN (intN (b, 0))))))) (by intro e; cases e; exact hLL rfl))
  have HBn := hid ((show Below L w (w6.setCell ⟨L2, 3, none⟩ (.int .i64 (intV (intN (intN (intN (b, 0))))))) from HB6.out.setCell (show L ≤ L2 by omega) _))
  clear HV6 HR6 HW6 HB6 HS6 c3 f0
  generalize w6.setCell ⟨L2, 3, none⟩ (.int .i64 (intV (intN (intN (intN (b, 0)))))) = w7 at *
  have HV7 : Hid (DW w7 30 L2 (⟨intV (b, 0), intV (intN (b, 0)), intV (intN (intN (b, 0))), intV (intN (intN (intN (b, 0)))), (List.replicate 32 0), 0, 0, 0⟩ : Dl) (.slice none 0 0)) := HVn
  have HR7 := HRn
  have HW7 := HWn
  have HB7 := HBn
  have HS7 := hid (show L2 < w7.heap.size from HV7.out.blk.lt)
  clear HVn HRn HWn HBn
  refine (rHash_any (N := L + 1) p (intN (intN (intN (intN (b, 0))))) _ HR7.out (by have := HS7.out; omega)).mono ?_
  rintro _ w8 ⟨rfl, hR, hg⟩
  have HV8 := hid (HV7.out.grown hg (by intro e; cases e; exact hpL2 rfl))
  have HW8 := hid (HW7.out.grown hg (by intro e; cases e; exact hpL rfl))
  have HB8 := hid (below_at (show Below w.heap.size w w7 by rw [hL]; exact HB7.out) hg (by omega))
  rw [hL] at HB8
  have HS8 := hid (show L2 < w8.heap.size from HV8.out.blk.lt)
  have HR8 := hid hR
  clear hR hg HR7 HV7 HW7 HB7 HS7
  have HHL := hid (hashV_len 32 (intN (intN (intN (intN (b, 0))))))
  have HTH := hid (HV8.out.there (j := 4) (n := (B (hashV 32 (intN (intN (intN (intN (b, 0))))))).length) (by rw [B_length, HHL.out]; omega))
  go_wp2_with (show wpList _ _ _ (⟨none, Op.store _ (Operand.tmp 21) (Operand.tmp 20), _, _, _, _⟩ :: _) _ _; go_must (refine wpList_store_list rfl 26 _ _ rfl L2 4 (B (hashV 32 (intN (intN (intN (intN (b, 0))))))) rfl rfl HTH.out (by rw [B_length, HHL.out]; exact HH.out) (B_one _) ?_); intro w9 hw9; have HV9 : Hid (DW w9 30 L2 (⟨intV (b, 0), intV (intN (b, 0)), intV (intN (intN (b, 0))), intV (intN (intN (intN (b, 0)))), (hashV 32 (intN (intN (intN (intN (b, 0)))))), 0, 0, 0⟩ : Dl) (.slice none 0 0)) := hid (by rw [hw9]; exact HV8.out.set_h (hashV 32 (intN (intN (intN (intN (b, 0)))))) HHL.out); have HR9 := hid (show FR (L + 1) w9 p (hashN 32 (intN (intN (intN (intN (b, 0)))))) by rw [hw9]; exact HR8.out.apart (grownCs L2 _ 4 _) hNL (fun e => hpL2 e.symm)); have HW9 := hid (show DW w9 30 L Dl.zero (.slice none 0 0) by rw [hw9]; exact HW8.out.grown (grownCs L2 _ 4 _) (by intro e; cases e; exact hLL rfl)); have HB9 := hid (show Below L w w9 by rw [hw9]; exact below_setCells (by omega) _ _ HB8.out); have HS9 := hid (show L2 < w9.heap.size from HV9.out.blk.lt); clear hw9 HTH HV8 HR8 HW8 HB8 HS8)
  refine (frByte_any p (hashN 32 (intN (intN (intN (intN (b, 0)))))) _ HR9.out).mono ?_
  rintro _ w10 ⟨rfl, hR, hg⟩
  have HV10 := hid (HV9.out.grown hg (by intro e; cases e; exact hpL2 rfl))
  have HW10 := hid (HW9.out.grown hg (by intro e; cases e; exact hpL rfl))
  have HB10 := hid (below_at (show Below w.heap.size w w9 by rw [hL]; exact HB9.out) hg (by omega))
  rw [hL] at HB10
  have HS10 := hid (show L2 < w10.heap.size from HV10.out.blk.lt)
  have HR10 := hid hR
  clear hR hg HR9 HV9 HW9 HB9 HS9
  obtain ⟨c0, c1, c2, c3, c36, c37, c38, c39⟩ := HV10.out.cells
  have f0 := HV10.out.frozen 36
  clear c0 c1 c2 c3 c37 c38 c39
  go_wp2_with fail
  have HVn := hid (HV10.out.set_k ((byteS (hashN 32 (intN (intN (intN (intN (b, 0)))))) : Nat)))
  have HRn := hid (HR10.out.apart (grownC w10 L2 36 (.int .i64 ((byteS (hashN 32 (intN (intN (intN (intN (b, 0)))))) : Nat)))) hNL (fun e => hpL2 e.symm))
  have HWn := hid (HW10.out.grown (grownC w10 L2 36 (.int .i64 ((byteS (hashN 32 (intN (intN (intN (intN (b, 0)))))) : Nat)))) (by intro e; cases e; exact hLL rfl))
  have HBn := hid ((show Below L w (w10.setCell ⟨L2, 36, none⟩ (.int .i64 ((byteS (hashN 32 (intN (intN (intN (intN (b, 0)))))) : Nat)))) from HB10.out.setCell (show L ≤ L2 by omega) _))
  clear HV10 HR10 HW10 HB10 HS10 c36 f0
  generalize w10.setCell ⟨L2, 36, none⟩ (.int .i64 ((byteS (hashN 32 (intN (intN (intN (intN (b, 0)))))) : Nat))) = w11 at *
  have HV11 : Hid (DW w11 30 L2 (⟨intV (b, 0), intV (intN (b, 0)), intV (intN (intN (b, 0))), intV (intN (intN (intN (b, 0)))), (hashV 32 (intN (intN (intN (intN (b, 0)))))), (byteS (hashN 32 (intN (intN (intN (intN (b, 0)))))) : Nat), 0, 0⟩ : Dl) (.slice none 0 0)) := HVn
  have HR11 := HRn
  have HW11 := HWn
  have HB11 := HBn
  have HS11 := hid (show L2 < w11.heap.size from HV11.out.blk.lt)
  clear HVn HRn HWn HBn
  refine (frText_any p (nextS (hashN 32 (intN (intN (intN (intN (b, 0))))))) _ HR11.out).mono ?_
  rintro _ w12 ⟨rfl, hR, hg⟩
  change FR (L + 1) w12 p (txtN (nextS (hashN 32 (intN (intN (intN (intN (b, 0)))))))) at hR
  rw [show (textR (jn 2 0 0 (nextS (hashN 32 (intN (intN (intN (intN (b, 0))))))))).1 = fldT (b, 0) from rfl]
  have HV12 := hid (HV11.out.grown hg (by intro e; cases e; exact hpL2 rfl))
  have HW12 := hid (HW11.out.grown hg (by intro e; cases e; exact hpL rfl))
  have HB12 := hid (below_at (show Below w.heap.size w w11 by rw [hL]; exact HB11.out) hg (by omega))
  rw [hL] at HB12
  have HS12 := hid (show L2 < w12.heap.size from HV12.out.blk.lt)
  have HR12 := hid hR
  clear hR hg HR11 HV11 HW11 HB11 HS11
  go_wp2_with fail
  refine (rAddr_any (N := L + 1) p (txtN (nextS (hashN 32 (intN (intN (intN (intN (b, 0)))))))) _ HR12.out (by have := HS12.out; omega)).mono ?_
  rintro _ w13 ⟨rfl, hR, hg⟩
  have HV13 := hid (HV12.out.grown hg (by intro e; cases e; exact hpL2 rfl))
  have HW13 := hid (HW12.out.grown hg (by intro e; cases e; exact hpL rfl))
  have HB13 := hid (below_at (show Below w.heap.size w w12 by rw [hL]; exact HB12.out) hg (by omega))
  rw [hL] at HB13
  have HS13 := hid (show L2 < w13.heap.size from HV13.out.blk.lt)
  have HR13 := hid hR
  clear hR hg HR12 HV12 HW12 HB12 HS12
  obtain ⟨c0, c1, c2, c3, c36, c37, c38, c39⟩ := HV13.out.cells
  have f0 := HV13.out.frozen 38
  have f1 := HV13.out.frozen 39
  clear c0 c1 c2 c3 c36 c37
  go_wp2_with fail
  have HVn := hid ((HV13.out.set_wD (intV (txtN (nextS (hashN 32 (intN (intN (intN (intN (b, 0)))))))))).set_wU (intV (intN (txtN (nextS (hashN 32 (intN (intN (intN (intN (b, 0)))))))))))
  have HRn := hid ((HR13.out.apart (grownC w13 L2 38 (.int .i64 (intV (txtN (nextS (hashN 32 (intN (intN (intN (intN (b, 0))))))))))) hNL (fun e => hpL2 e.symm)).apart (grownC (w13.setCell ⟨L2, 38, none⟩ (.int .i64 (intV (txtN (nextS (hashN 32 (intN (intN (intN (intN (b, 0))))))))))) L2 39 (.int .i64 (intV (intN (txtN (nextS (hashN 32 (intN (intN (intN (intN (b, 0)))))))))))) hNL (fun e => hpL2 e.symm))
  have HWn := hid ((HW13.out.grown (grownC w13 L2 38 (.int .i64 (intV (txtN (nextS (hashN 32 (intN (intN (intN (intN (b, 0))))))))))) (by intro e; cases e; exact hLL rfl)).grown (grownC (w13.setCell ⟨L2, 38, none⟩ (.int .i64 (intV (txtN (nextS (hashN 32 (intN (intN (intN (intN (b, 0))))))))))) L2 39 (.int .i64 (intV (intN (txtN (nextS (hashN 32 (intN (intN (intN (intN (b, 0)))))))))))) (by intro e; cases e; exact hLL rfl))
  have HBn := hid ((show Below L w ((w13.setCell ⟨L2, 38, none⟩ (.int .i64 (intV (txtN (nextS (hashN 32 (intN (intN (intN (intN (b, 0))))))))))).setCell ⟨L2, 39, none⟩ (.int .i64 (intV (intN (txtN (nextS (hashN 32 (intN (intN (intN (intN (b, 0)))))))))))) from ((show Below L w (w13.setCell ⟨L2, 38, none⟩ (.int .i64 (intV (txtN (nextS (hashN 32 (intN (intN (intN (intN (b, 0))))))))))) from HB13.out.setCell (show L ≤ L2 by omega) _)).setCell (show L ≤ L2 by omega) _))
  clear HV13 HR13 HW13 HB13 HS13 c38 c39 f0 f1
  generalize (w13.setCell ⟨L2, 38, none⟩ (.int .i64 (intV (txtN (nextS (hashN 32 (intN (intN (intN (intN (b, 0))))))))))).setCell ⟨L2, 39, none⟩ (.int .i64 (intV (intN (txtN (nextS (hashN 32 (intN (intN (intN (intN (b, 0))))))))))) = w14 at *
  have HV14 : Hid (DW w14 30 L2 (⟨intV (b, 0), intV (intN (b, 0)), intV (intN (intN (b, 0))), intV (intN (intN (intN (b, 0)))), (hashV 32 (intN (intN (intN (intN (b, 0)))))), (byteS (hashN 32 (intN (intN (intN (intN (b, 0)))))) : Nat), intV (txtN (nextS (hashN 32 (intN (intN (intN (intN (b, 0)))))))), intV (intN (txtN (nextS (hashN 32 (intN (intN (intN (intN (b, 0)))))))))⟩ : Dl) (.slice none 0 0)) := HVn
  have HR14 := HRn
  have HW14 := HWn
  have HB14 := HBn
  have HS14 := hid (show L2 < w14.heap.size from HV14.out.blk.lt)
  clear HVn HRn HWn HBn
  have HV : Hid (DW w14 30 L2 (fldV (b, 0)) (.slice none 0 0)) := HV14
  have HR : Hid (FR (L + 1) w14 p (fldN (b, 0))) := HR14
  clear HV14 HR14
  refine (frEnd_any p (fldN (b, 0)) _ HR.out).mono ?_
  rintro _ wx ⟨rfl, m, hwx⟩
  rw [hwx]
  have hbm := below_drewN w14 m
  have HV15 := hid (HV.out.later hbm)
  have HW15 := hid (HW14.out.later hbm)
  have HB15 := hid (show Below L w (w14.drewN m) from HB14.out.trans (hbm.mono (Nat.le_of_lt (Nat.lt_trans (show L < L2 by omega) HS14.out))))
  generalize w14.drewN m = w15 at *
  clear hbm hwx HV HW14 HB14 HS14 HR
  have hz15 : L2 < w15.heap.size := HV15.out.blk.lt
  obtain ⟨e, he⟩ : ∃ e, endS (fldN (b, 0)) = e := ⟨_, rfl⟩
  have HDP := hid (show delP b = if e ≠ 0 then (Dl.zero, [], e) else if (opP (fldT (b, 0))).2 ≠ 0 then (Dl.zero, [], (opP (fldT (b, 0))).2) else if chkD (fldV (b, 0)) (opP (fldT (b, 0))).1 ≠ 0 then (Dl.zero, [], chkD (fldV (b, 0)) (opP (fldT (b, 0))).1) else (fldV (b, 0), (opP (fldT (b, 0))).1, 0) by rw [delP, he])
  rw [he]
  clear he
  obtain ⟨zs, hzs⟩ : ∃ zs, Dl.zero.cells (.slice none 0 0) = zs := ⟨_, rfl⟩
  have HZ := hid hzs
  have HZL := hid (show zs.length = 40 by rw [← hzs, Dl.len Dl.zero_len])
  have HZE := hid (show Value.agg zs.toArray = Value.agg (Dl.zero.cells (.slice none 0 0)).toArray by rw [hzs])
  rw [hzs] at HZO
  have HFAIL := hid (show ∀ w2, DW w2 30 L Dl.zero (.slice none 0 0) → Below L w w2 → w2.there L 0 zs.length ∧ Blk (w2.setCells L 0 zs) 30 L zs ∧ Below L w (w2.setCells L 0 zs) by
    intro w2 h1 h2
    refine ⟨h1.there (by rw [HZL.out]; omega), ?_, below_setCells (Nat.le_refl _) _ _ h2⟩
    rw [← hzs]; exact (h1.set_all Dl.zero Dl.zero_len (.slice none 0 0)).blk)
  clear hzs
  by_cases h0 : e = 0
  case neg =>
    have hne : (e == 0) = false := by simpa using h0
    have HE := hid (show delP b = (Dl.zero, [], e) by rw [HDP.out, if_pos h0])
    have HF := hid (HFAIL.out w15 HW15.out HB15.out)
    clear HFAIL HDP
    go_wp2_with (show wpList _ _ _ (⟨none, Op.store _ (Operand.tmp 2) (Operand.tmp 47), _, _, _, _⟩ :: _) _ _; go_must (refine wpList_store_list rfl 30 _ _ rfl L 0 zs rfl HZE.out.symm HF.out.1 (by rw [HZL.out]; exact HI.out) HZO.out ?_); intro w2 hw2; have HX2 := hid HF.out.2; rw [← hw2] at HX2; clear hw2 HF)
    refine ret_cell_tmp 2 3 30 rfl L rfl _ rfl zs _ (HX2.out.1.range fun j v hv => by rw [Nat.zero_add]; exact hv) Tryd.underlying30 rfl (by rw [HZL.out]; exact HI.out) rfl (HD.out _ _ Dl.zero [] e (.slice none 0 0) HE.out (by rw [HZ.out]; rfl) (HasC.nil _ _) (by rw [hL]; exact HX2.out.2))
  subst h0
  obtain ⟨X, hX⟩ : ∃ X : ByteArray, (⟨(fldT (b, 0)).toArray⟩ : ByteArray) = X := ⟨_, rfl⟩
  have hXs : X.size ≤ 65535 := by rw [← hX]; exact fldT_len (b, 0)
  have hXl : X.data.toList = fldT (b, 0) := by rw [← hX]
  obtain ⟨cc, w16, hconv, hr4, hb4, hs4⟩ := conv_bytes w15 X (by omega)
  have HV16 := hid (HV15.out.later hb4)
  have HW16 := hid (HW15.out.later hb4)
  have HB16 := hid (show Below L w w16 from HB15.out.trans (hb4.mono (by omega)))
  rw [hXl] at hr4
  have HRd4 := hid hr4
  rw [hX]
  have hXl2 : (fldT (b, 0)).length ≤ 140737488355328 := by have := fldT_len (b, 0); omega
  clear hX hr4 hb4 HV15 HW15 HB15 hXl
  go_wp2_with fail
  refine (rOpParse_any _ (fldT (b, 0)) _ HRd4.out hXl2).mono ?_
  rintro _ w17 ⟨v5, rfl, hH5, hb5⟩
  have hosz := opP_size (fldT (b, 0))
  obtain ⟨oV, eV, hoV⟩ : ∃ oV eV, opP (fldT (b, 0)) = (oV, eV) := ⟨_, _, rfl⟩
  rw [hoV] at hH5 hosz HDP ⊢
  simp only at hH5 hosz HDP ⊢
  have HOS := hid hosz
  obtain ⟨a5, c5, rfl⟩ := hH5.form
  have HV17 := hid (HV16.out.later hb5)
  have HW17 := hid (HW16.out.later hb5)
  have HB17 := hid (show Below L w w17 from HB16.out.trans (hb5.mono (by omega)))
  obtain ⟨x0, x1, x2, x3, x36, c37, x38, x39⟩ := HV17.out.cells
  have f37 := HV17.out.frozen 37
  have HV18 := hid (HV17.out.set_op (.slice a5 oV.length c5))
  have HW18 := hid (HW17.out.grown (grownC w17 L2 37 (.slice a5 oV.length c5)) (by intro e; cases e; exact hLL rfl))
  have HB18 := hid (show Below L w (w17.setCell ⟨L2, 37, none⟩ (.slice a5 oV.length c5)) from HB17.out.setCell (show L ≤ L2 by omega) (.slice a5 oV.length c5))
  have HH18 := hid ((hH5.setApart (L := L2) (by omega) 37 (.slice a5 oV.length c5)).mono (B2 := L + 1) (by omega))
  clear x0 x1 x2 x3 x36 x38 x39 hosz hoV hH5 hb5 HRd4 hconv HV16 HW16 HB16 HV17 HW17 HB17
  go_upto_region 12 with fail
  generalize w17.setCell ⟨L2, 37, none⟩ (.slice a5 oV.length c5) = w18 at *
  clear c37 f37
  by_cases h1 : eV = 0
  case neg =>
    have hne : (eV == 0) = false := by simpa using h1
    have HE := hid (show delP b = (Dl.zero, [], eV) by rw [HDP.out, if_neg (fun h => h rfl), if_pos h1])
    have HF := hid (HFAIL.out w18 HW18.out HB18.out)
    clear HFAIL HDP
    go_wp2_with (show wpList _ _ _ (⟨none, Op.store _ (Operand.tmp 2) (Operand.tmp 47), _, _, _, _⟩ :: _) _ _; go_must (refine wpList_store_list rfl 30 _ _ rfl L 0 zs rfl HZE.out.symm HF.out.1 (by rw [HZL.out]; exact HI.out) HZO.out ?_); intro w2 hw2; have HX2 := hid HF.out.2; rw [← hw2] at HX2; clear hw2 HF)
    refine ret_cell_tmp 2 3 30 rfl L rfl _ rfl zs _ (HX2.out.1.range fun j v hv => by rw [Nat.zero_add]; exact hv) Tryd.underlying30 rfl (by rw [HZL.out]; exact HI.out) rfl (HD.out _ _ Dl.zero [] eV (.slice none 0 0) HE.out (by rw [HZ.out]; rfl) (HasC.nil _ _) (by rw [hL]; exact HX2.out.2))
  subst h1
  obtain ⟨ds, hds⟩ : ∃ ds, (fldV (b, 0)).cells (.slice a5 oV.length c5) = ds := ⟨_, rfl⟩
  have HDS := hid hds
  have HLd := hid (show ds.length = 40 by rw [← hds, Dl.len (fldV_len _)])
  have HOd := hid (show ∀ v ∈ ds, v.oneCell' = true by rw [← hds]; exact Dl.one rfl)
  have hrd := hid (show w18.rangeAt L2 0 ds by rw [← hds]; exact HV18.out.whole)
  clear hds
  go_wp2_with (show wpList _ _ _ (⟨some 43, Op.load _ _, _, _, _, _⟩ :: _) _ _; go_must (refine wpList_load_mid rfl 30 _ rfl L2 0 rfl ds _ hrd.out Tryd.underlying30 rfl (by rw [HLd.out]; exact HI.out) ?_))
  rw [← HDS.out]
  refine (rCheck_any (fldV (b, 0)) (fldV_len _) (.slice a5 oV.length c5) oV _ HH18.out.reads (fun c hc => by have := HOS.out.1 c hc; omega) (by have := HOS.out.2; omega)).mono ?_
  rintro _ w19 ⟨rfl, hb7⟩
  rw [HDS.out]
  have hz6 : L2 < w18.heap.size := HV18.out.blk.lt
  have HV19 := hid (HV18.out.later hb7)
  have HW19 := hid (HW18.out.later hb7)
  have HB19 := hid (show Below L w w19 from HB18.out.trans (hb7.mono (by omega)))
  have HH19 := hid (HH18.out.later hb7)
  clear hb7 hrd HV18 HW18 HB18 HH18
  obtain ⟨r, hr⟩ : ∃ r, chkD (fldV (b, 0)) oV = r := ⟨_, rfl⟩
  rw [hr] at HDP ⊢
  clear hr
  by_cases h2 : r = 0
  case neg =>
    have hne : (r == 0) = false := by simpa using h2
    have HE := hid (show delP b = (Dl.zero, [], r) by rw [HDP.out, if_neg (fun h => h rfl), if_neg (fun h => h rfl), if_pos h2])
    have HF := hid (HFAIL.out w19 HW19.out HB19.out)
    clear HFAIL HDP
    go_wp2_with (show wpList _ _ _ (⟨none, Op.store _ (Operand.tmp 2) (Operand.tmp 47), _, _, _, _⟩ :: _) _ _; go_must (refine wpList_store_list rfl 30 _ _ rfl L 0 zs rfl HZE.out.symm HF.out.1 (by rw [HZL.out]; exact HI.out) HZO.out ?_); intro w2 hw2; have HX2 := hid HF.out.2; rw [← hw2] at HX2; clear hw2 HF)
    refine ret_cell_tmp 2 3 30 rfl L rfl _ rfl zs _ (HX2.out.1.range fun j v hv => by rw [Nat.zero_add]; exact hv) Tryd.underlying30 rfl (by rw [HZL.out]; exact HI.out) rfl (HD.out _ _ Dl.zero [] r (.slice none 0 0) HE.out (by rw [HZ.out]; rfl) (HasC.nil _ _) (by rw [hL]; exact HX2.out.2))
  subst h2
  have HE := hid (show delP b = (fldV (b, 0), oV, 0) by rw [HDP.out, if_neg (fun h => h rfl), if_neg (fun h => h rfl), if_neg (fun h => h rfl)])
  have hrd := hid (show w19.rangeAt L2 0 ds by rw [← HDS.out]; exact HV19.out.whole)
  have HTH := hid (HW19.out.there (j := 0) (n := ds.length) (by rw [HLd.out]; omega))
  have HX := hid (show Blk (w19.setCells L 0 ds) 30 L ds ∧ Below L w (w19.setCells L 0 ds) ∧ HasC (w19.setCells L 0 ds) L (.slice a5 oV.length c5) oV by
    refine ⟨?_, below_setCells (Nat.le_refl _) _ _ HB19.out, (HH19.out.setCells (L := L) (by omega) 0 ds).mono (by omega)⟩
    rw [← HDS.out]; exact (HW19.out.set_all (fldV (b, 0)) (fldV_len _) (.slice a5 oV.length c5)).blk)
  clear HV19 HW19 HB19 HH19 HDP HFAIL
  go_wp2_with (first
    | (show wpList _ _ _ (⟨some 49, Op.load _ _, _, _, _, _⟩ :: _) _ _; go_must (refine wpList_load_mid rfl 30 _ rfl L2 0 rfl ds _ hrd.out Tryd.underlying30 rfl (by rw [HLd.out]; exact HI.out) ?_))
    | (show wpList _ _ _ (⟨none, Op.store _ (Operand.tmp 2) (Operand.tmp 49), _, _, _, _⟩ :: _) _ _; go_must (refine wpList_store_list rfl 30 _ _ rfl L 0 ds rfl rfl HTH.out (by rw [HLd.out]; exact HI.out) HOd.out ?_); intro w20 hw8; have HX2 := HX; rw [← hw8] at HX2; clear hw8 HX))
  refine ret_cell_tmp 2 3 30 rfl L rfl _ rfl ds _ (HX2.out.1.range fun j v hv => by rw [Nat.zero_add]; exact hv) Tryd.underlying30 rfl (by rw [HLd.out]; exact HI.out) rfl (HD.out _ _ (fldV (b, 0)) oV 0 (.slice a5 oV.length c5) HE.out (by rw [HDS.out]; rfl) (by rw [hL]; exact HX2.out.2.2) (by rw [hL]; exact HX2.out.2.1))
end Go.Proofs.YtinifnpajkldbaaDoor

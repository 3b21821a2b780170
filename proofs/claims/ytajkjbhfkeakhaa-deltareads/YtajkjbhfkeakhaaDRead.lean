/- The contracts of package delta's part and parts. -/
import Derived.Test.YtajkjbhfkeakhaaReadS8
import Derived.Test.YtajkjbhfkeakhaaHasC
namespace Go.Proofs.Ytajkjbhfkeakhaa
open Go.RowKit
variable {N : Nat}
set_option linter.unusedSimpArgs false
set_option linter.unusedVariables false

theorem Blk.grownAt {w w' : World} {t : TypeId} {q p : Nat} {cs : List Value} (h : Blk w t q cs) (hg : w.grownBy w' (some p)) (hne : q ≠ p) : Blk w' t q cs := h.kept (hg.block q h.lt (by simpa using hne))
theorem grownBy_own {w w' : World} {p q : Nat} (hq : w.heap.size ≤ q) (h : w.grownBy w' (some p)) (j : Nat) (v : Value) : w.grownBy (w'.setCell ⟨q, j, none⟩ v) (some p) :=
  grown_setCell h q j v (.inr hq)

set_option maxRecDepth 100000 in
set_option maxHeartbeats 2000000 in
theorem dPart_any (p : Nat) (s : St) (w : World) (hR : RD N w p s) (hm : s.1.length ≤ maxLen) (hN : N ≤ w.heap.size) :
    Calls Try.prog 67 #[.func (Fn.func 61) #[.pointer (some ⟨p, 0, none⟩)] #[], .func (Fn.func 58) #[.pointer (some ⟨p, 0, none⟩)] #[], .func (Fn.func 62) #[.pointer (some ⟨p, 0, none⟩)] #[]] w fun e w' =>
      e = .returned (.agg (partV s).vals.toArray) ∧ RD N w' p (partN s) ∧ w.grownBy w' (some p) := by
  obtain ⟨L, hL⟩ : ∃ L, w.heap.size = L := ⟨_, rfl⟩
  have hpl := hR.lt
  have HR0 := hid ((hR.later ((Below.refl _ _).alloc (Nat.le_refl _) (.cells #[.int .i64 0, .int .i64 0, .string ⟨#[]⟩] 55))).later ((Below.refl _ _).alloc (Nat.le_refl _) (.cells #[.int .i64 0, .int .i64 0, .string ⟨#[]⟩] 55)))
  have HB6 := hid (show Blk ((w.alloc (.cells #[.int .i64 0, .int .i64 0, .string ⟨#[]⟩] 55)).alloc (.cells #[.int .i64 0, .int .i64 0, .string ⟨#[]⟩] 55)) 55 L [.int .i64 0, .int .i64 0, .string ⟨#[]⟩] by rw [← hL]; exact (Blk.new w _ _).alloc _)
  have HB7 := hid (show Blk ((w.alloc (.cells #[.int .i64 0, .int .i64 0, .string ⟨#[]⟩] 55)).alloc (.cells #[.int .i64 0, .int .i64 0, .string ⟨#[]⟩] 55)) 55 (L + 1) [.int .i64 0, .int .i64 0, .string ⟨#[]⟩] by rw [← hL]; have := Blk.new (w.alloc (.cells #[.int .i64 0, .int .i64 0, .string ⟨#[]⟩] 55)) 55 [.int .i64 0, .int .i64 0, .string ⟨#[]⟩]; rwa [show (w.alloc (.cells #[.int .i64 0, .int .i64 0, .string ⟨#[]⟩] 55)).heap.size = w.heap.size + 1 by simp] at this)
  have HG0 := hid (show w.grownBy ((w.alloc (.cells #[.int .i64 0, .int .i64 0, .string ⟨#[]⟩] 55)).alloc (.cells #[.int .i64 0, .int .i64 0, .string ⟨#[]⟩] 55)) (some p) from grown_alloc (grown_alloc (World.grownBy.refl _ _) _) _)
  have HM := hid hm
  clear hR hm
  go_enter Try.func67, Try.ntmps67
  go_wp2_with fail
  generalize (w.alloc (.cells #[.int .i64 0, .int .i64 0, .string ⟨#[]⟩] 55)).alloc (.cells #[.int .i64 0, .int .i64 0, .string ⟨#[]⟩] 55) = w0 at *
  try rw [hL]
  have hpL : L ≠ p := by omega
  have hpL1 : L + 1 ≠ p := by omega
  refine (Byte_any p s _ HR0.out HM.out).mono ?_
  rintro _ w1 ⟨rfl, hR1, hg1⟩
  have HA1 := hid (HB6.out.grownAt hg1 hpL)
  have HB1 := hid (HB7.out.grownAt hg1 hpL1)
  have c0 := HB1.out.cell (j := 0) rfl
  have f0 := HB1.out.frozen 0
  have HR1 := hid (hR1.apart (grownC w1 (L + 1) 0 (.int .i64 (byteS s : Nat))) (by omega) (fun e => hpL1 e.symm))
  have HG1 := hid (grownBy_own (by omega) (grownT HG0.out hg1) (q := L + 1) 0 (.int .i64 (byteS s : Nat)))
  replace HA1 := hid (HA1.out.grownAt (grownC w1 (L + 1) 0 (.int .i64 (byteS s : Nat))) (by omega))
  replace HB1 := hid (HB1.out.setCell 0 (.int .i64 (byteS s : Nat)))
  clear hR1 hg1 HR0 HB6 HB7 HG0
  go_wp2_with fail
  generalize w1.setCell ⟨L + 1, 0, none⟩ (.int .i64 (byteS s : Nat)) = w2 at *
  refine (Int_any p (nextS s) _ HR1.out (Nat.le_trans (nextS_len s) HM.out)).mono ?_
  rintro _ w3 ⟨rfl, hR3, hg3⟩
  change RD N w3 p (intN (nextS s)) at hR3
  rw [show intR (jn 8 0 0 (nextS s)) = intV (nextS s) from rfl]
  have HA3 := hid (HA1.out.grownAt hg3 hpL)
  have HB3 := hid (HB1.out.grownAt hg3 hpL1)
  clear c0 f0
  have c1 := HB3.out.cell (j := 1) rfl
  have f1 := HB3.out.frozen 1
  have HR3 := hid (hR3.apart (grownC w3 (L + 1) 1 (.int .i64 (intV (nextS s)))) (by omega) (fun e => hpL1 e.symm))
  have HG3 := hid (grownBy_own (by omega) (grownT HG1.out hg3) (q := L + 1) 1 (.int .i64 (intV (nextS s))))
  replace HA3 := hid (HA3.out.grownAt (grownC w3 (L + 1) 1 (.int .i64 (intV (nextS s)))) (by omega))
  replace HB3 := hid (HB3.out.setCell 1 (.int .i64 (intV (nextS s))))
  clear hR3 hg3 HR1 HA1 HB1 HG1
  go_wp2_with fail
  generalize w3.setCell ⟨L + 1, 1, none⟩ (.int .i64 (intV (nextS s))) = w4 at *
  refine (Text_any p (intN (nextS s)) _ HR3.out (Nat.le_trans (intN_len _) (Nat.le_trans (nextS_len s) HM.out))).mono ?_
  rintro _ w5 ⟨rfl, hR5, hg5⟩
  change RD N w5 p (partN s) at hR5
  rw [show (textR (jn 2 0 0 (intN (nextS s)))).1 = txtV (intN (nextS s)) from rfl]
  have HA5 := hid (HA3.out.grownAt hg5 hpL)
  have HB5 := hid (HB3.out.grownAt hg5 hpL1)
  obtain ⟨X, hX⟩ : ∃ X : ByteArray, (⟨(txtV (intN (nextS s))).toArray⟩ : ByteArray) = X := ⟨_, rfl⟩
  rw [hX]
  clear c1 f1
  have c0 := HB5.out.cell (j := 0) rfl
  have c1 := HB5.out.cell (j := 1) rfl
  have c2 := HB5.out.cell (j := 2) rfl
  have f2 := HB5.out.frozen 2
  have a0 := HA5.out.cell (j := 0) rfl
  have a1 := HA5.out.cell (j := 1) rfl
  have a2 := HA5.out.cell (j := 2) rfl
  have b0 := HA5.out.frozen 0
  have b1 := HA5.out.frozen 1
  have b2 := HA5.out.frozen 2
  have HR5 := hid hR5
  have HG5 := hid (grownT HG3.out hg5)
  clear hR5 hg5 HR3 HA3 HB3 HG3
  go_wp2_with fail
  have hB := (((HA5.out.grownAt (grownC w5 (L + 1) 2 (.string X)) (by omega)).setCell 0 (.int .i64 (byteS s : Nat))).setCell 1 (.int .i64 (intV (nextS s)))).setCell 2 (.string X)
  have hE : partV s = ⟨byteS s, intV (nextS s), X⟩ := by rw [partV, hX]
  refine ret_cell 6 55 rfl L rfl [.int .i64 (byteS s : Nat), .int .i64 (intV (nextS s)), .string X] _ (hB.range fun j v hv => by rw [Nat.zero_add]; exact hv) Try.underlying55 rfl (by kernel_rfl) rfl ⟨by rw [hE]; rfl, ?_, ?_⟩
  · exact (((HR5.out.apart (grownC _ (L + 1) 2 _) (by omega) (fun e => hpL1 e.symm)).apart (grownC _ L 0 _) (by omega) (fun e => hpL e.symm)).apart (grownC _ L 1 _) (by omega) (fun e => hpL e.symm)).apart (grownC _ L 2 _) (by omega) (fun e => hpL e.symm)
  · exact grownBy_own (by omega) (grownBy_own (by omega) (grownBy_own (by omega) (grownBy_own (by omega) HG5.out 2 _) 0 _) 1 _) 2 _
end Go.Proofs.Ytajkjbhfkeakhaa

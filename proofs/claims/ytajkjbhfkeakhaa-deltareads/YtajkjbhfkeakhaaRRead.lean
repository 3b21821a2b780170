/- The contracts of the second say's addr and Hash (chapter 8). -/
import Derived.Test.YtajkjbhfkeakhaaDRead3
import Derived.Test.YtajkjbhfkeakhaaRefInt
namespace Go.Proofs.Ytajkjbhfkeakhaa
open Go.RowKit
variable {N : Nat}
set_option linter.unusedSimpArgs false
set_option linter.unusedVariables false

/-- A new variable. -/
theorem one_var {w : World} {p : Nat} {s : St} (x : List Value) (t : TypeId) {L : Nat} (hL : w.heap.size = L) (hR : FR N w p s) :
    FR N (w.alloc (.cells x.toArray t)) p s ∧ Blk (w.alloc (.cells x.toArray t)) t L x ∧ w.grownBy (w.alloc (.cells x.toArray t)) (some p) := by
  subst hL
  exact ⟨hR.later ((Below.refl _ _).alloc (Nat.le_refl _) _), Blk.new w t x, grown_alloc (World.grownBy.refl _ _) _⟩

set_option maxRecDepth 100000 in
set_option maxHeartbeats 2000000 in
theorem rAddr_any (p : Nat) (s : St) (w : World) (hR : FR N w p s) (hN : N ≤ w.heap.size) :
    Calls Try.prog 38 #[.pointer (some ⟨p, 0, none⟩)] w fun e w' =>
      e = .returned (.agg #[.int .i64 (intV s), .int .i64 (intV (intN s))]) ∧ FR N w' p (intN (intN s)) ∧ w.grownBy w' (some p) := by
  obtain ⟨L, hL⟩ : ∃ L, w.heap.size = L := ⟨_, rfl⟩
  have hpl := hR.lt
  have hpL : L ≠ p := by omega
  have HT := hid (one_var [.int .i64 0, .int .i64 0] 23 hL hR)
  have HS0 := hid (show L + 1 = (w.alloc (.cells #[.int .i64 0, .int .i64 0] 23)).heap.size by simp; omega)
  clear hR
  go_enter Try.func38, Try.ntmps38
  go_wp2_with fail
  have HT2 : Hid (FR N (w.alloc (.cells #[.int .i64 0, .int .i64 0] 23)) p s ∧ Blk (w.alloc (.cells #[.int .i64 0, .int .i64 0] 23)) 23 L [.int .i64 0, .int .i64 0] ∧ w.grownBy (w.alloc (.cells #[.int .i64 0, .int .i64 0] 23)) (some p)) := HT
  clear HT
  generalize w.alloc (.cells #[.int .i64 0, .int .i64 0] 23) = w0 at *
  try rw [hL]
  refine (frInt_any p s _ HT2.out.1).mono ?_
  rintro _ w1 ⟨rfl, hR1, hg1⟩
  change FR N w1 p (intN s) at hR1
  rw [show intR (jn 8 0 0 s) = intV s from rfl]
  obtain ⟨L3, hL3⟩ : ∃ L3, w1.heap.size = L3 := ⟨_, rfl⟩
  have hs1 := hg1.size
  have hLL : L < L3 := by have := HS0.out; omega
  have hpl1 : p < L3 := by have := hR1.lt; omega
  have HT3 := hid (one_var [.int .i64 (intV s), .int .i64 0] 23 hL3 hR1)
  have HA3 := hid ((HT2.out.2.1.grownAt hg1 hpL).alloc (.cells #[.int .i64 (intV s), .int .i64 0] 23))
  have HG3 := hid (grown_alloc (grownT HT2.out.2.2 hg1) (.cells #[.int .i64 (intV s), .int .i64 0] 23))
  clear hR1 hg1 HT2
  go_wp2_with fail
  have HT4 : Hid (FR N (w1.alloc (.cells #[.int .i64 (intV s), .int .i64 0] 23)) p (intN s) ∧ Blk (w1.alloc (.cells #[.int .i64 (intV s), .int .i64 0] 23)) 23 L3 [.int .i64 (intV s), .int .i64 0] ∧ w1.grownBy (w1.alloc (.cells #[.int .i64 (intV s), .int .i64 0] 23)) (some p)) := HT3
  clear HT3
  generalize w1.alloc (.cells #[.int .i64 (intV s), .int .i64 0] 23) = w2 at *
  try rw [hL3]
  refine (frInt_any p (intN s) _ HT4.out.1).mono ?_
  rintro _ w3 ⟨rfl, hR3, hg3⟩
  change FR N w3 p (intN (intN s)) at hR3
  rw [show intR (jn 8 0 0 (intN s)) = intV (intN s) from rfl]
  have HA5 := hid (HA3.out.grownAt hg3 hpL)
  have HB5 := hid (HT4.out.2.1.grownAt hg3 (by omega))
  have c0 := HB5.out.cell (j := 0) rfl
  have c1 := HB5.out.cell (j := 1) rfl
  have f1 := HB5.out.frozen 1
  have a0 := HA5.out.cell (j := 0) rfl
  have a1 := HA5.out.cell (j := 1) rfl
  have b0 := HA5.out.frozen 0
  have b1 := HA5.out.frozen 1
  have HR5 := hid hR3
  have HG5 := hid (grownT HG3.out hg3)
  clear hR3 hg3 HA3 HT4 HG3
  go_wp2_with fail
  have hB := ((HA5.out.grownAt (grownC w3 L3 1 (.int .i64 (intV (intN s)))) (by omega)).setCell 0 (.int .i64 (intV s))).setCell 1 (.int .i64 (intV (intN s)))
  refine ret_cell 2 23 rfl L rfl [.int .i64 (intV s), .int .i64 (intV (intN s))] _ (hB.range fun j v hv => by rw [Nat.zero_add]; exact hv) Try.underlying23 rfl (by kernel_rfl) rfl ⟨rfl, ?_, ?_⟩
  · exact ((HR5.out.apart (grownC _ L3 1 _) (by omega) (by omega)).apart (grownC _ L 0 _) (by omega) (fun e => hpL e.symm)).apart (grownC _ L 1 _) (by omega) (fun e => hpL e.symm)
  · exact grownBy_own (by omega) (grownBy_own (by omega) (grownBy_own (by omega) HG5.out 1 _) 0 _) 1 _

set_option maxRecDepth 100000 in
set_option maxHeartbeats 4000000 in
theorem rHash_any (p : Nat) (s : St) (w : World) (hR : FR N w p s) (hN : N ≤ w.heap.size) :
    Calls Try.prog 40 #[.pointer (some ⟨p, 0, none⟩)] w fun e w' =>
      e = .returned (.agg (B (hashV 32 s)).toArray) ∧ FR N w' p (hashN 32 s) ∧ w.grownBy w' (some p) := by
  obtain ⟨L, hL⟩ : ∃ L, w.heap.size = L := ⟨_, rfl⟩
  have hpl := hR.lt
  have hi := hid (show (Try.prog.info? 25).map (·.size) = some 32 by kernel_rfl)
  have hpL : L ≠ p := by omega
  have hpL1 : L + 1 ≠ p := by omega
  have HA := hid (show Blk ((w.alloc (.cells (B (List.replicate 32 0)).toArray 25)).alloc (.cells (B (List.replicate 32 0)).toArray 25)) 25 L (B (List.replicate 32 0)) by rw [← hL]; exact (Blk.new w _ _).alloc _)
  have HB := hid (show Blk ((w.alloc (.cells (B (List.replicate 32 0)).toArray 25)).alloc (.cells (B (List.replicate 32 0)).toArray 25)) 25 (L + 1) (B (List.replicate 32 0)) by
    rw [← hL]
    have := Blk.new (w.alloc (.cells (B (List.replicate 32 0)).toArray 25)) 25 (B (List.replicate 32 0))
    rwa [show (w.alloc (.cells (B (List.replicate 32 0)).toArray 25)).heap.size = w.heap.size + 1 by simp] at this)
  have HR := hid ((hR.later ((Below.refl _ _).alloc (Nat.le_refl _) (.cells (B (List.replicate 32 0)).toArray 25))).later ((Below.refl _ _).alloc (Nat.le_refl _) (.cells (B (List.replicate 32 0)).toArray 25)))
  have HG := hid (show w.grownBy ((w.alloc (.cells (B (List.replicate 32 0)).toArray 25)).alloc (.cells (B (List.replicate 32 0)).toArray 25)) (some p) from grown_alloc (grown_alloc (World.grownBy.refl _ _) _) _)
  obtain ⟨zs, hzs⟩ : ∃ zs, B (List.replicate 32 0) = zs := ⟨_, rfl⟩
  have HZ := hid hzs
  have HZL := hid (show zs.length = 32 by rw [← hzs, B_length]; simp)
  have HZE := hid (show Value.agg zs.toArray = Value.agg (B (List.replicate 32 0)).toArray by rw [hzs])
  have HO := hid (show ∀ v ∈ zs, v.oneCell' = true by rw [← hzs]; exact B_one _)
  have HTH := hid (HB.out.there (o := 0) (n := zs.length) (by rw [HZL.out, B_length]; simp))
  clear hR hzs
  go_enter Try.func40, Try.ntmps40
  go_wp2_with (show wpList _ _ _ (⟨none, Op.store _ (Operand.tmp 3) (Operand.tmp 5), _, _, _, _⟩ :: _) _ _; go_must (refine wpList_store_list rfl 25 _ _ rfl (L + 1) 0 zs rfl HZE.out.symm HTH.out (by rw [HZL.out]; exact hi.out) HO.out ?_); intro w2 hw2; have hw : w2 = ((w.alloc (.cells (B (List.replicate 32 0)).toArray 25)).alloc (.cells (B (List.replicate 32 0)).toArray 25)).setCells (L + 1) 0 zs := hw2; have HX := hid (show Blk w2 25 L (B (List.replicate 32 0)) ∧ Blk w2 25 (L + 1) zs ∧ FR N w2 p s ∧ w.grownBy w2 (some p) by
      rw [hw]
      refine ⟨HA.out.kept (setCells_heap (by omega) _ _ _), ?_, HR.out.apart (grownCs (L + 1) _ 0 _) (by omega) (fun e => hpL1 e.symm), own_cells (by omega) HG.out 0 _⟩
      have h1 := Blk.setCells zs [] (B (List.replicate 32 0)) [] (o := 0) (by simpa using HB.out) (by rw [HZL.out, B_length]; simp) rfl
      simpa using h1); clear hw hw2)
  clear HA HB HR HG HTH
  go_loopw [4] (fun i wr => ∃ (k j : Nat) (s1 : St) (z : List UInt8), i = .int .i64 j ∧ j + k = 32 ∧ z.length = j ∧ FR N wr p s1 ∧ Blk wr 25 L (B (List.replicate 32 0)) ∧ Blk wr 25 (L + 1) (B (z ++ List.replicate k 0)) ∧ w.grownBy wr (some p) ∧ z ++ hashV k s1 = hashV 32 s ∧ hashN k s1 = hashN 32 s) (fun i _ => 32 - (intOf i).toNat)
  case atStart => exact ⟨32, 0, s, [], rfl, rfl, rfl, HX.out.2.2.1, HX.out.1, (by show Blk _ _ _ (B (List.replicate 32 0)); rw [HZ.out]; exact HX.out.2.1), HX.out.2.2.2, rfl, rfl⟩
  case round =>
    obtain ⟨k, j, s1, z, rfl, hjk, hz, hR1, hA, hB, hg, hV, hE⟩ := hrel
    have HR1 := hid hR1
    have HA := hid hA
    have HB := hid hB
    have HG := hid hg
    have HV := hid hV
    have HE := hid hE
    have HZ2 := hid hz
    have hsz := hg.size
    clear hR1 hA hB hg hV hE HX
    cases k with
    | zero =>
      have hj : j = 32 := by omega
      subst hj
      have HB2 := hid (show Blk wr 25 (L + 1) (B (hashV 32 s)) by have h := HB.out; have h2 := HV.out; simp only [hashV, List.append_nil, List.replicate_zero] at h h2; rwa [h2] at h)
      have HR2 := hid (show FR N wr p (hashN 32 s) by have h := HR1.out; have h2 := HE.out; simp only [hashN] at h2; rwa [h2] at h)
      have HL := hid (show (B (hashV 32 s)).length = 32 by rw [B_length, hashV_len])
      generalize hbs : B (hashV 32 s) = bs at *
      have HBS := hid hbs
      have HO2 := hid (show ∀ v ∈ bs, v.oneCell' = true by rw [← hbs]; exact B_one _)
      clear hz hbs
      have hr := hid (HB2.out.range (o := 0) (xs := bs) fun j v hv => by rw [Nat.zero_add]; exact hv)
      have HTH := hid (HA.out.there (o := 0) (n := bs.length) (by rw [HL.out, B_length]; simp))
      go_wp2_with (first
        | (show wpList _ _ _ (⟨some 15, Op.load _ _, _, _, _, _⟩ :: _) _ _; go_must (refine wpList_load_mid rfl 25 _ rfl (L + 1) 0 rfl bs _ hr.out Try.underlying25 rfl (by rw [HL.out]; exact hi.out) ?_))
        | (show wpList _ _ _ (⟨none, Op.store _ (Operand.tmp 2) (Operand.tmp 15), _, _, _, _⟩ :: _) _ _; go_must (refine wpList_store_list rfl 25 _ _ rfl L 0 bs rfl rfl HTH.out (by rw [HL.out]; exact hi.out) HO2.out ?_); intro w3 hw3; have HX := hid (show Blk w3 25 L bs ∧ FR N w3 p (hashN 32 s) ∧ w.grownBy w3 (some p) by
            have h1 := Blk.setCells bs [] (B (List.replicate 32 0)) [] (o := 0) (by simpa using HA.out) (by rw [HL.out, B_length]; simp) rfl
            refine ⟨by rw [hw3]; simpa using h1, by rw [hw3]; exact HR2.out.apart (grownCs L bs 0 _) (by omega) (fun e => hpL e.symm), by rw [hw3]; exact own_cells (by omega) HG.out 0 bs⟩); clear hw3))
      refine ret_cell 2 25 rfl L rfl bs _ (HX.out.1.range fun j v hv => by rw [Nat.zero_add]; exact hv) Try.underlying25 rfl (by rw [HL.out]; exact hi.out) rfl ⟨by rw [HBS.out], HX.out.2.1, HX.out.2.2⟩
    | succ k =>
      have hj32 : (j : Int) < 32 := by omega
      have hjb : (j : Int) ≤ 31 := by omega
      go_wp2_with fail
      refine (frByte_any p s1 _ HR1.out).mono ?_
      rintro _ w2 ⟨rfl, hR2, hg2⟩
      have HA2 := hid (HA.out.grownAt hg2 hpL)
      have HB2 := hid (HB.out.grownAt hg2 hpL1)
      have hc : (B (z ++ List.replicate (k + 1) 0))[j]? = some (.int .u8 0) := by
        rw [B_get, List.getElem?_append_right (by omega), hz, Nat.sub_self]; rfl
      have c0 := HB2.out.cell hc
      have f0 := HB2.out.frozen j
      have HS := hid (show Blk (w2.setCell ⟨L + 1, j, none⟩ (.int .u8 ((byteS s1 : Int) % 256))) 25 (L + 1) (B ((z ++ [UInt8.ofNat (byteS s1)]) ++ List.replicate k 0)) by
        have h := HB2.out.setCell j (.int .u8 ((byteS s1 : Int) % 256))
        rw [byte_low, ← hz, List.replicate_succ, B_set] at h
        rw [byte_low, ← hz]
        simpa using h)
      have HAS := hid (HA2.out.grownAt (grownC w2 (L + 1) j (.int .u8 ((byteS s1 : Int) % 256))) (by omega))
      have HRS := hid (hR2.apart (grownC w2 (L + 1) j (.int .u8 ((byteS s1 : Int) % 256))) (by omega) (fun e => hpL1 e.symm))
      have HGS := hid (grownBy_own (by omega) (grownT HG.out hg2) (q := L + 1) j (.int .u8 ((byteS s1 : Int) % 256)))
      clear hR2 hg2 HA HB HR1 HG HA2 HB2 hc hz
      go_wp2_with fail
      go_roundw
      case rel =>
        exact ⟨k, j + 1, nextS s1, z ++ [UInt8.ofNat (byteS s1)], by go_num, by omega, by rw [List.length_append, HZ2.out]; rfl, HRS.out, HAS.out, HS.out, HGS.out, by have h := HV.out; rw [hashV] at h; simpa using h, HE.out⟩
      case measure => simp [intOf]; omega
end Go.Proofs.Ytajkjbhfkeakhaa

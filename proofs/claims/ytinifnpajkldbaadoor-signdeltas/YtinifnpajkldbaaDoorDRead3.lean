/- The contracts of package delta's addr, hash and fields. -/
import Derived.Test.YtinifnpajkldbaaDoorPk27
namespace Go.Proofs.YtinifnpajkldbaaDoor
open Go.RowKit
variable {N : Nat}
set_option linter.unusedSimpArgs false
set_option linter.unusedVariables false

/-- Two results, of which the first lies in memory. -/
theorem ret_cell_tmp {P : Program} {w : World} {fn : Func} {R : Ending → World → Prop} {a : Act} (k j : Nat) (t : TypeId) (hf : fn.results = #[.cell k t, .tmp j]) (b : Nat) (hp : a.tmps.getD k undef = .pointer (some ⟨b, 0, none⟩)) (v : Value) (hv : a.tmps.getD j undef = v)
    (cs : List Value) (d : TypeDesc) (hc : w.rangeAt b 0 cs) (hu : P.underlying t = some d) (hdr : d.isRow = true) (hi : (P.info? t).map (·.size) = some cs.length) (hd : a.defers = []) (hR : R (.returned (.tuple #[.agg cs.toArray, v])) w) : bodyPost P fn R .ret a w := by
  refine bodyPost_ret (v := .tuple #[.agg cs.toArray, v]) ?_ hd hR
  have h1 := run_loadVar_mid (P := P) w b 0 t cs d hc hu hdr hi
  have hp' : a.tmps[k]?.getD undef = .pointer (some ⟨b, 0, none⟩) := by simpa using hp
  have hv' : a.tmps[j]?.getD undef = v := by simpa using hv
  unfold results
  rw [hf]
  simp [hp', hv', asAddr, h1]

theorem grownCs (g : Nat) : ∀ (vs : List Value) (o : Nat) (w : World), w.grownBy (w.setCells g o vs) (some g)
  | [], _, _ => World.grownBy.refl _ _
  | v :: vs, o, w => by rw [World.setCells]; exact grownT (grownC w g o v) (grownCs g vs (o + 1) _)
/-- A row of cells into a block of the call's own. -/
theorem own_cells {w w1 : World} {p q : Nat} (hq : w.heap.size ≤ q) (h : w.grownBy w1 (some p)) (o : Nat) (vs : List Value) : w.grownBy (w1.setCells q o vs) (some p) := by
  have h2 := grownCs q vs o w1
  exact ⟨h2.os.trans h.os, h2.tape.trans h.tape, h2.output.trans h.output, Nat.le_trans h.size h2.size, fun k hk hne => by rw [h2.block k (by have := h.size; omega) (by intro e; cases e; omega), h.block k hk hne]⟩

/-- Two new variables. -/
theorem two_vars {w : World} {p : Nat} {s : St} (x y : List Value) (t : TypeId) {L : Nat} (hL : w.heap.size = L) (hR : RD N w p s) :
    RD N ((w.alloc (.cells x.toArray t)).alloc (.cells y.toArray t)) p s ∧ Blk ((w.alloc (.cells x.toArray t)).alloc (.cells y.toArray t)) t L x ∧ Blk ((w.alloc (.cells x.toArray t)).alloc (.cells y.toArray t)) t (L + 1) y ∧ w.grownBy ((w.alloc (.cells x.toArray t)).alloc (.cells y.toArray t)) (some p) := by
  subst hL
  refine ⟨(hR.later ((Below.refl _ _).alloc (Nat.le_refl _) _)).later ((Below.refl _ _).alloc (Nat.le_refl _) _), (Blk.new w t x).alloc _, ?_, grown_alloc (grown_alloc (World.grownBy.refl _ _) _) _⟩
  have := Blk.new (w.alloc (.cells x.toArray t)) t y
  rwa [show (w.alloc (.cells x.toArray t)).heap.size = w.heap.size + 1 by simp] at this

set_option maxRecDepth 100000 in
set_option maxHeartbeats 2000000 in
theorem dAddr_any (p : Nat) (s : St) (w : World) (hR : RD N w p s) (hm : s.1.length ≤ maxLen) (hN : N ≤ w.heap.size) :
    Calls Tryd.prog 81 #[.func (Fn.func 80) #[.pointer (some ⟨p, 0, none⟩)] #[]] w fun e w' =>
      e = .returned (.agg #[.int .i64 (intV s), .int .i64 (intV (intN s))]) ∧ RD N w' p (intN (intN s)) ∧ w.grownBy w' (some p) := by
  obtain ⟨L, hL⟩ : ∃ L, w.heap.size = L := ⟨_, rfl⟩
  have hpl := hR.lt
  have HT := hid (two_vars [.int .i64 0, .int .i64 0] [.int .i64 0, .int .i64 0] 24 hL hR)
  have HM := hid hm
  clear hR hm
  go_enter Tryd.func81, Tryd.ntmps81
  go_wp2_with fail
  have HT2 : Hid (RD N ((w.alloc (.cells #[.int .i64 0, .int .i64 0] 24)).alloc (.cells #[.int .i64 0, .int .i64 0] 24)) p s ∧ Blk ((w.alloc (.cells #[.int .i64 0, .int .i64 0] 24)).alloc (.cells #[.int .i64 0, .int .i64 0] 24)) 24 L [.int .i64 0, .int .i64 0] ∧ Blk ((w.alloc (.cells #[.int .i64 0, .int .i64 0] 24)).alloc (.cells #[.int .i64 0, .int .i64 0] 24)) 24 (L + 1) [.int .i64 0, .int .i64 0] ∧ w.grownBy ((w.alloc (.cells #[.int .i64 0, .int .i64 0] 24)).alloc (.cells #[.int .i64 0, .int .i64 0] 24)) (some p)) := HT
  clear HT
  generalize (w.alloc (.cells #[.int .i64 0, .int .i64 0] 24)).alloc (.cells #[.int .i64 0, .int .i64 0] 24) = w0 at *
  try rw [hL]
  have hpL : L ≠ p := by omega
  have hpL1 : L + 1 ≠ p := by omega
  refine (Int_any p s _ HT2.out.1 HM.out).mono ?_
  rintro _ w1 ⟨rfl, hR1, hg1⟩
  change RD N w1 p (intN s) at hR1
  rw [show intR (jn 8 0 0 s) = intV s from rfl]
  have HA1 := hid (HT2.out.2.1.grownAt hg1 hpL)
  have HB1 := hid (HT2.out.2.2.1.grownAt hg1 hpL1)
  have c0 := HB1.out.cell (j := 0) rfl
  have f0 := HB1.out.frozen 0
  have HR1 := hid (hR1.apart (grownC w1 (L + 1) 0 (.int .i64 (intV s))) (by omega) (fun e => hpL1 e.symm))
  have HG1 := hid (grownBy_own (by omega) (grownT HT2.out.2.2.2 hg1) (q := L + 1) 0 (.int .i64 (intV s)))
  replace HA1 := hid (HA1.out.grownAt (grownC w1 (L + 1) 0 (.int .i64 (intV s))) (by omega))
  replace HB1 := hid (HB1.out.setCell 0 (.int .i64 (intV s)))
  clear hR1 hg1 HT2
  go_wp2_with fail
  generalize w1.setCell ⟨L + 1, 0, none⟩ (.int .i64 (intV s)) = w2 at *
  refine (Int_any p (intN s) _ HR1.out (Nat.le_trans (intN_len s) HM.out)).mono ?_
  rintro _ w3 ⟨rfl, hR3, hg3⟩
  change RD N w3 p (intN (intN s)) at hR3
  rw [show intR (jn 8 0 0 (intN s)) = intV (intN s) from rfl]
  have HA3 := hid (HA1.out.grownAt hg3 hpL)
  have HB3 := hid (HB1.out.grownAt hg3 hpL1)
  clear c0 f0
  have c0 := HB3.out.cell (j := 0) rfl
  have c1 := HB3.out.cell (j := 1) rfl
  have f1 := HB3.out.frozen 1
  have a0 := HA3.out.cell (j := 0) rfl
  have a1 := HA3.out.cell (j := 1) rfl
  have b0 := HA3.out.frozen 0
  have b1 := HA3.out.frozen 1
  have HR3 := hid hR3
  have HG3 := hid (grownT HG1.out hg3)
  clear hR3 hg3 HR1 HA1 HB1 HG1
  go_wp2_with fail
  have hB := ((HA3.out.grownAt (grownC w3 (L + 1) 1 (.int .i64 (intV (intN s)))) (by omega)).setCell 0 (.int .i64 (intV s))).setCell 1 (.int .i64 (intV (intN s)))
  refine ret_cell 2 24 rfl L rfl [.int .i64 (intV s), .int .i64 (intV (intN s))] _ (hB.range fun j v hv => by rw [Nat.zero_add]; exact hv) Tryd.underlying24 rfl (by kernel_rfl) rfl ⟨rfl, ?_, ?_⟩
  · exact ((HR3.out.apart (grownC _ (L + 1) 1 _) (by omega) (fun e => hpL1 e.symm)).apart (grownC _ L 0 _) (by omega) (fun e => hpL e.symm)).apart (grownC _ L 1 _) (by omega) (fun e => hpL e.symm)
  · exact grownBy_own (by omega) (grownBy_own (by omega) (grownBy_own (by omega) HG3.out 1 _) 0 _) 1 _

theorem B_setM (l r : List UInt8) (x y : UInt8) : (B (l ++ x :: r)).set l.length (.int .u8 y.toNat) = B (l ++ y :: r) := by
  rw [B_append, B_append, List.set_append_right _ _ (by rw [B_length]; exact Nat.le_refl _), B_length, Nat.sub_self]
  rfl
theorem byte_low (n : Nat) : Value.int .u8 (((n : Nat) : Int) % 256) = Value.int .u8 (UInt8.ofNat n).toNat := by
  rw [UInt8.toNat_ofNat']; congr 1

set_option maxRecDepth 100000 in
set_option maxHeartbeats 4000000 in
theorem dHash_any (p : Nat) (s : St) (w : World) (hR : RD N w p s) (hm : s.1.length ≤ maxLen) (hN : N ≤ w.heap.size) :
    Calls Tryd.prog 82 #[.func (Fn.func 83) #[.pointer (some ⟨p, 0, none⟩)] #[]] w fun e w' =>
      e = .returned (.agg (B (hashV 32 s)).toArray) ∧ RD N w' p (hashN 32 s) ∧ w.grownBy w' (some p) := by
  obtain ⟨L, hL⟩ : ∃ L, w.heap.size = L := ⟨_, rfl⟩
  have hpl := hR.lt
  have HM := hid hm
  have hi := hid (show (Tryd.prog.info? 26).map (·.size) = some 32 by kernel_rfl)
  have HT := hid (two_vars (B (List.replicate 32 0)) (B (List.replicate 32 0)) 26 hL hR)
  clear hR hm
  have hpL : L ≠ p := by omega
  have hpL1 : L + 1 ≠ p := by omega
  go_enter Tryd.func82, Tryd.ntmps82
  go_upto_region 1 with fail
  go_wp2_with fail
  refine wp_scope_at 0 (fun a' w' => ∃ (k j : Nat) (s1 : St) (z : List UInt8), a' = ⟨#[.func (Fn.func 83) #[.pointer (some ⟨p, 0, none⟩)] #[], a'.tmps.getD 1 undef, .pointer (some ⟨L, 0, none⟩), .pointer (some ⟨L + 1, 0, none⟩), .int .i64 (j : Nat), a'.tmps.getD 5 undef, a'.tmps.getD 6 undef, a'.tmps.getD 7 undef, a'.tmps.getD 8 undef, a'.tmps.getD 9 undef, a'.tmps.getD 10 undef, a'.tmps.getD 11 undef, a'.tmps.getD 12 undef, a'.tmps.getD 13 undef, a'.tmps.getD 14 undef], []⟩ ∧ j + k = 32 ∧ z.length = j ∧ RD N w' p s1 ∧ s1.1.length ≤ maxLen ∧ Blk w' 26 L (B (List.replicate 32 0)) ∧ Blk w' 26 (L + 1) (B (z ++ List.replicate k 0)) ∧ w.grownBy w' (some p) ∧ z ++ hashV k s1 = hashV 32 s ∧ hashN k s1 = hashN 32 s)
    (fun a' _ => 32 - (intOf (a'.tmps.getD 4 undef)).toNat) rfl ?pass ?first
  case first =>
    intro hy
    have HY := hid hy
    clear hy
    go_wp2_with fail
    rename_i hK
    exact wp_label (hK _ _ (HY.out _ _ ⟨32, 0, s, [], rfl, rfl, rfl, HT.out.1, HM.out, HT.out.2.1, HT.out.2.2.1, HT.out.2.2.2, rfl, rfl⟩))
  case pass =>
    rintro a' w' ⟨k, j, s1, z, ha, hjk, hz, hR1, hm1, hA, hB, hg, hV, hE⟩
    obtain ⟨f, ha2⟩ : ∃ f : Nat → Value, a' = ⟨#[.func (Fn.func 83) #[.pointer (some ⟨p, 0, none⟩)] #[], f 1, .pointer (some ⟨L, 0, none⟩), .pointer (some ⟨L + 1, 0, none⟩), .int .i64 (j : Nat), f 5, f 6, f 7, f 8, f 9, f 10, f 11, f 12, f 13, f 14], []⟩ := ⟨fun j => a'.tmps.getD j undef, ha⟩
    clear ha
    subst ha2
    have HR1 := hid hR1
    have HM1 := hid hm1
    have HA := hid hA
    have HB := hid hB
    have HG := hid hg
    have HV := hid hV
    have HE := hid hE
    have HZ := hid hz
    have hsz := hg.size
    clear hR1 hm1 hA hB hg hV hE HT
    cases k with
    | zero =>
      have hj : j = 32 := by omega
      subst hj
      have HB2 := hid (show Blk w' 26 (L + 1) (B (hashV 32 s)) by have h := HB.out; have h2 := HV.out; simp only [hashV, List.append_nil, List.replicate_zero] at h h2; rwa [h2] at h)
      have HR2 := hid (show RD N w' p (hashN 32 s) by have h := HR1.out; have h2 := HE.out; simp only [hashN] at h2; rwa [h2] at h)
      have HL := hid (show (B (hashV 32 s)).length = 32 by rw [B_length, hashV_len])
      generalize hbs : B (hashV 32 s) = bs at *
      have HBS := hid hbs
      have HO := hid (show ∀ v ∈ bs, v.oneCell' = true by rw [← hbs]; exact B_one _)
      clear hz hbs
      have hr := hid (HB2.out.range (o := 0) (xs := bs) fun j v hv => by rw [Nat.zero_add]; exact hv)
      have HTH := hid (HA.out.there (o := 0) (n := bs.length) (by rw [HL.out, B_length]; simp))
      go_wp2_with (first
        | (show wpList _ _ _ (⟨some 7, Op.load _ _, _, _, _, _⟩ :: _) _ _; go_must (refine wpList_load_mid rfl 26 _ rfl (L + 1) 0 rfl bs _ hr.out Tryd.underlying26 rfl (by rw [HL.out]; exact hi.out) ?_))
        | (show wpList _ _ _ (⟨none, Op.store _ (Operand.tmp 2) (Operand.tmp 7), _, _, _, _⟩ :: _) _ _; go_must (refine wpList_store_list rfl 26 _ _ rfl L 0 bs rfl rfl HTH.out (by rw [HL.out]; exact hi.out) HO.out ?_); intro w2 hw2; have HX := hid (show Blk w2 26 L bs ∧ RD N w2 p (hashN 32 s) ∧ w.grownBy w2 (some p) by
            have h1 := Blk.setCells bs [] (B (List.replicate 32 0)) [] (o := 0) (by simpa using HA.out) (by rw [HL.out, B_length]; simp) rfl
            refine ⟨by rw [hw2]; simpa using h1, by rw [hw2]; exact HR2.out.apart (grownCs L bs 0 _) (by omega) (fun e => hpL e.symm), by rw [hw2]; exact own_cells (by omega) HG.out 0 bs⟩); clear hw2))
      simp only [Exit.jump]
      refine ret_cell 2 26 rfl L rfl bs _ (HX.out.1.range fun j v hv => by rw [Nat.zero_add]; exact hv) Tryd.underlying26 rfl (by rw [HL.out]; exact hi.out) rfl ⟨by rw [HBS.out], HX.out.2.1, HX.out.2.2⟩
    | succ k =>
      have hne : ((j : Int) == 32) = false := by simp; omega
      have hj32 : (j : Int) < 32 := by omega
      have hjb : (j : Int) ≤ 31 := by omega
      go_wp2_with fail
      refine (Byte_any p s1 _ HR1.out HM1.out).mono ?_
      rintro _ w2 ⟨rfl, hR2, hg2⟩
      have HA2 := hid (HA.out.grownAt hg2 hpL)
      have HB2 := hid (HB.out.grownAt hg2 hpL1)
      have hc : (B (z ++ List.replicate (k + 1) 0))[j]? = some (.int .u8 0) := by
        rw [B_get, List.getElem?_append_right (by omega), hz, Nat.sub_self]; rfl
      have c0 := HB2.out.cell hc
      have f0 := HB2.out.frozen j
      have HS := hid (show Blk (w2.setCell ⟨L + 1, j, none⟩ (.int .u8 ((byteS s1 : Int) % 256))) 26 (L + 1) (B ((z ++ [UInt8.ofNat (byteS s1)]) ++ List.replicate k 0)) by
        have h := HB2.out.setCell j (.int .u8 ((byteS s1 : Int) % 256))
        rw [byte_low, ← hz, List.replicate_succ, B_setM] at h
        rw [byte_low, ← hz]
        simpa using h)
      have HAS := hid (HA2.out.grownAt (grownC w2 (L + 1) j (.int .u8 ((byteS s1 : Int) % 256))) (by omega))
      have HRS := hid (hR2.apart (grownC w2 (L + 1) j (.int .u8 ((byteS s1 : Int) % 256))) (by omega) (fun e => hpL1 e.symm))
      have HGS := hid (grownBy_own (by omega) (grownT HG.out hg2) (q := L + 1) j (.int .u8 ((byteS s1 : Int) % 256)))
      clear hR2 hg2 HA HB HR1 HG HA2 HB2 hc hz
      go_wp2_with fail
      refine wp_goto ?_
      exact ⟨rfl, ⟨k, j + 1, nextS s1, z ++ [UInt8.ofNat (byteS s1)], rfl, by omega, by rw [List.length_append, HZ.out]; rfl, HRS.out, Nat.le_trans (nextS_len s1) HM1.out, HAS.out, HS.out, HGS.out, by have h := HV.out; rw [hashV] at h; simpa using h, HE.out⟩, by simp [intOf]; omega⟩

set_option maxRecDepth 100000 in
set_option maxHeartbeats 4000000 in
theorem dFields_any (p : Nat) (s : St) (w : World) (hR : RD N w p s) (hm : s.1.length ≤ maxLen) (hN : N ≤ w.heap.size) :
    Calls Tryd.prog 63 #[.pointer (some ⟨p, 0, none⟩)] w fun e w' =>
      e = .returned (.tuple #[.agg ((fldV s).cells (.slice none 0 0)).toArray, .string ⟨(fldT s).toArray⟩]) ∧ RD N w' p (fldN s) ∧ w.grownBy w' (some p) := by
  obtain ⟨L, hL⟩ : ∃ L, w.heap.size = L := ⟨_, rfl⟩
  have hpl := hR.lt
  have hpL : L ≠ p := by omega
  have hNL : N ≤ L := by omega
  have HM := hid hm
  have HI := hid (show (Tryd.prog.info? 30).map (·.size) = some 40 by kernel_rfl)
  have HH := hid (show (Tryd.prog.info? 26).map (·.size) = some 32 by kernel_rfl)
  have HW := hid (show DW (w.alloc (.cells (Dl.zero.cells (.slice none 0 0)).toArray 30)) 30 L (⟨0, 0, 0, 0, (List.replicate 32 0), 0, 0, 0⟩ : Dl) (.slice none 0 0) from ⟨by simp, by rw [← hL]; exact Blk.new w _ _⟩)
  have HR := hid (hR.later ((Below.refl _ _).alloc (Nat.le_refl _) (.cells (Dl.zero.cells (.slice none 0 0)).toArray 30)))
  have HG := hid (show w.grownBy (w.alloc (.cells (Dl.zero.cells (.slice none 0 0)).toArray 30)) (some p) from grown_alloc (World.grownBy.refl _ _) _)
  clear hR hm
  go_enter Tryd.func63, Tryd.ntmps63
  go_wp2_with fail
  refine (dAddr_any (N := N) p s _ HR.out HM.out (by simp; omega)).mono ?_
  rintro _ w1 ⟨rfl, hR, hg⟩
  have hg : (w.alloc (.cells (Dl.zero.cells (.slice none 0 0)).toArray 30)).grownBy w1 (some p) := hg
  have HW1 := hid (HW.out.grown hg (by intro e; cases e; exact hpL rfl))
  have HG1 := hid (grownT HG.out hg)
  have HR1 := hid hR
  clear hR hg HR HG HW
  obtain ⟨c0, c1, c2, c3, c36, c37, c38, c39⟩ := HW1.out.cells
  have f0 := HW1.out.frozen 0
  have f1 := HW1.out.frozen 1
  clear c2 c3 c36 c37 c38 c39
  go_wp2_with fail
  have HWn := hid ((HW1.out.set_aD (intV s)).set_aU (intV (intN s)))
  have HRn := hid ((HR1.out.apart (grownC w1 L 0 (.int .i64 (intV s))) hNL (fun e => hpL e.symm)).apart (grownC _ L 1 (.int .i64 (intV (intN s)))) hNL (fun e => hpL e.symm))
  have HGn := hid (grownBy_own (by omega) (grownBy_own (by omega) HG1.out 0 (.int .i64 (intV s)) (q := L)) 1 (.int .i64 (intV (intN s))) (q := L))
  clear HW1 HR1 HG1 c0 c1 f0 f1
  generalize (w1.setCell ⟨L, 0, none⟩ (.int .i64 (intV s))).setCell ⟨L, 1, none⟩ (.int .i64 (intV (intN s))) = w2 at *
  have HW2 : Hid (DW w2 30 L (⟨intV s, intV (intN s), 0, 0, (List.replicate 32 0), 0, 0, 0⟩ : Dl) (.slice none 0 0)) := HWn
  have HR2 := HRn
  have HG2 := HGn
  clear HWn HRn HGn
  refine (Int_any p (intN (intN s)) _ HR2.out (Nat.le_trans (intN_len _) (Nat.le_trans (intN_len _) HM.out))).mono ?_
  rintro _ w3 ⟨rfl, hR, hg⟩
  change RD N w3 p (intN (intN (intN s))) at hR
  rw [show intR (jn 8 0 0 (intN (intN s))) = intV (intN (intN s)) from rfl]
  have HW3 := hid (HW2.out.grown hg (by intro e; cases e; exact hpL rfl))
  have HG3 := hid (grownT HG2.out hg)
  have HR3 := hid hR
  clear hR hg HR2 HG2 HW2
  obtain ⟨c0, c1, c2, c3, c36, c37, c38, c39⟩ := HW3.out.cells
  have f0 := HW3.out.frozen 2
  clear c0 c1 c3 c36 c37 c38 c39
  go_wp2_with fail
  have HWn := hid (HW3.out.set_id (intV (intN (intN s))))
  have HRn := hid (HR3.out.apart (grownC w3 L 2 (.int .i64 (intV (intN (intN s))))) hNL (fun e => hpL e.symm))
  have HGn := hid (grownBy_own (by omega) HG3.out 2 (.int .i64 (intV (intN (intN s)))) (q := L))
  clear HW3 HR3 HG3 c2 f0
  generalize w3.setCell ⟨L, 2, none⟩ (.int .i64 (intV (intN (intN s)))) = w4 at *
  have HW4 : Hid (DW w4 30 L (⟨intV s, intV (intN s), intV (intN (intN s)), 0, (List.replicate 32 0), 0, 0, 0⟩ : Dl) (.slice none 0 0)) := HWn
  have HR4 := HRn
  have HG4 := HGn
  clear HWn HRn HGn
  refine (Int_any p (intN (intN (intN s))) _ HR4.out (Nat.le_trans (intN_len _) (Nat.le_trans (intN_len _) (Nat.le_trans (intN_len _) HM.out)))).mono ?_
  rintro _ w5 ⟨rfl, hR, hg⟩
  change RD N w5 p (intN (intN (intN (intN s)))) at hR
  rw [show intR (jn 8 0 0 (intN (intN (intN s)))) = intV (intN (intN (intN s))) from rfl]
  have HW5 := hid (HW4.out.grown hg (by intro e; cases e; exact hpL rfl))
  have HG5 := hid (grownT HG4.out hg)
  have HR5 := hid hR
  clear hR hg HR4 HG4 HW4
  obtain ⟨c0, c1, c2, c3, c36, c37, c38, c39⟩ := HW5.out.cells
  have f0 := HW5.out.frozen 3
  clear c0 c1 c2 c36 c37 c38 c39
  go_wp2_with fail
  have HWn := hid (HW5.out.set_ver (intV (intN (intN (intN s)))))
  have HRn := hid (HR5.out.apart (grownC w5 L 3 (.int .i64 (intV (intN (intN (intN s)))))) hNL (fun e => hpL e.symm))
  have HGn := hid (grownBy_own (by omega) HG5.out 3 (.int .i64 (intV (intN (intN (intN s))))) (q := L))
  clear HW5 HR5 HG5 c3 f0
  generalize w5.setCell ⟨L, 3, none⟩ (.int .i64 (intV (intN (intN (intN s))))) = w6 at *
  have HW6 : Hid (DW w6 30 L (⟨intV s, intV (intN s), intV (intN (intN s)), intV (intN (intN (intN s))), (List.replicate 32 0), 0, 0, 0⟩ : Dl) (.slice none 0 0)) := HWn
  have HR6 := HRn
  have HG6 := HGn
  clear HWn HRn HGn
  refine (dHash_any (N := N) p (intN (intN (intN (intN s)))) _ HR6.out (Nat.le_trans (intN_len _) (Nat.le_trans (intN_len _) (Nat.le_trans (intN_len _) (Nat.le_trans (intN_len _) HM.out)))) (by have := HG6.out.size; omega)).mono ?_
  rintro _ w7 ⟨rfl, hR, hg⟩
  have HW7 := hid (HW6.out.grown hg (by intro e; cases e; exact hpL rfl))
  have HG7 := hid (grownT HG6.out hg)
  have HR7 := hid hR
  clear hR hg HR6 HG6 HW6
  have HHL := hid (hashV_len 32 (intN (intN (intN (intN s)))))
  have HTH := hid (HW7.out.there (j := 4) (n := (B (hashV 32 (intN (intN (intN (intN s)))))).length) (by rw [B_length, HHL.out]; omega))
  go_wp2_with (show wpList _ _ _ (⟨none, Op.store _ (Operand.tmp 19) (Operand.tmp 18), _, _, _, _⟩ :: _) _ _; go_must (refine wpList_store_list rfl 26 _ _ rfl L 4 (B (hashV 32 (intN (intN (intN (intN s)))))) rfl rfl HTH.out (by rw [B_length, HHL.out]; exact HH.out) (B_one _) ?_); intro w8 hw8; have HW8 : Hid (DW w8 30 L (⟨intV s, intV (intN s), intV (intN (intN s)), intV (intN (intN (intN s))), (hashV 32 (intN (intN (intN (intN s))))), 0, 0, 0⟩ : Dl) (.slice none 0 0)) := hid (by rw [hw8]; exact HW7.out.set_h (hashV 32 (intN (intN (intN (intN s))))) HHL.out); have HR8 := hid (show RD N w8 p (hashN 32 (intN (intN (intN (intN s))))) by rw [hw8]; exact HR7.out.apart (grownCs L _ 4 _) hNL (fun e => hpL e.symm)); have HG8 := hid (show w.grownBy w8 (some p) by rw [hw8]; exact own_cells (by omega) HG7.out 4 _); clear hw8 HTH HW7 HR7 HG7)
  refine (Byte_any p (hashN 32 (intN (intN (intN (intN s))))) _ HR8.out (Nat.le_trans (hashN_len 32 _) (Nat.le_trans (intN_len _) (Nat.le_trans (intN_len _) (Nat.le_trans (intN_len _) (Nat.le_trans (intN_len _) HM.out)))))).mono ?_
  rintro _ w9 ⟨rfl, hR, hg⟩
  have HW9 := hid (HW8.out.grown hg (by intro e; cases e; exact hpL rfl))
  have HG9 := hid (grownT HG8.out hg)
  have HR9 := hid hR
  clear hR hg HR8 HG8 HW8
  obtain ⟨c0, c1, c2, c3, c36, c37, c38, c39⟩ := HW9.out.cells
  have f0 := HW9.out.frozen 36
  clear c0 c1 c2 c3 c37 c38 c39
  go_wp2_with fail
  have HWn := hid (HW9.out.set_k ((byteS (hashN 32 (intN (intN (intN (intN s))))) : Nat)))
  have HRn := hid (HR9.out.apart (grownC w9 L 36 (.int .i64 ((byteS (hashN 32 (intN (intN (intN (intN s))))) : Nat)))) hNL (fun e => hpL e.symm))
  have HGn := hid (grownBy_own (by omega) HG9.out 36 (.int .i64 ((byteS (hashN 32 (intN (intN (intN (intN s))))) : Nat))) (q := L))
  clear HW9 HR9 HG9 c36 f0
  generalize w9.setCell ⟨L, 36, none⟩ (.int .i64 ((byteS (hashN 32 (intN (intN (intN (intN s))))) : Nat))) = w10 at *
  have HW10 : Hid (DW w10 30 L (⟨intV s, intV (intN s), intV (intN (intN s)), intV (intN (intN (intN s))), (hashV 32 (intN (intN (intN (intN s))))), (byteS (hashN 32 (intN (intN (intN (intN s))))) : Nat), 0, 0⟩ : Dl) (.slice none 0 0)) := HWn
  have HR10 := HRn
  have HG10 := HGn
  clear HWn HRn HGn
  refine (Text_any p (nextS (hashN 32 (intN (intN (intN (intN s)))))) _ HR10.out (Nat.le_trans (nextS_len _) (Nat.le_trans (hashN_len 32 _) (Nat.le_trans (intN_len _) (Nat.le_trans (intN_len _) (Nat.le_trans (intN_len _) (Nat.le_trans (intN_len _) HM.out))))))).mono ?_
  rintro _ w11 ⟨rfl, hR, hg⟩
  change RD N w11 p (txtN (nextS (hashN 32 (intN (intN (intN (intN s))))))) at hR
  rw [show (textR (jn 2 0 0 (nextS (hashN 32 (intN (intN (intN (intN s)))))))).1 = fldT s from rfl]
  have HW11 := hid (HW10.out.grown hg (by intro e; cases e; exact hpL rfl))
  have HG11 := hid (grownT HG10.out hg)
  have HR11 := hid hR
  clear hR hg HR10 HG10 HW10
  go_wp2_with fail
  refine (dAddr_any (N := N) p (txtN (nextS (hashN 32 (intN (intN (intN (intN s))))))) _ HR11.out (Nat.le_trans (txtN_len _) (Nat.le_trans (nextS_len _) (Nat.le_trans (hashN_len 32 _) (Nat.le_trans (intN_len _) (Nat.le_trans (intN_len _) (Nat.le_trans (intN_len _) (Nat.le_trans (intN_len _) HM.out))))))) (by have := HG11.out.size; omega)).mono ?_
  rintro _ w12 ⟨rfl, hR, hg⟩
  have HW12 := hid (HW11.out.grown hg (by intro e; cases e; exact hpL rfl))
  have HG12 := hid (grownT HG11.out hg)
  have HR12 := hid hR
  clear hR hg HR11 HG11 HW11
  obtain ⟨c0, c1, c2, c3, c36, c37, c38, c39⟩ := HW12.out.cells
  have f0 := HW12.out.frozen 38
  have f1 := HW12.out.frozen 39
  clear c0 c1 c2 c3 c36 c37
  go_upto_region 9 with fail
  have HWn := hid ((HW12.out.set_wD (intV (txtN (nextS (hashN 32 (intN (intN (intN (intN s))))))))).set_wU (intV (intN (txtN (nextS (hashN 32 (intN (intN (intN (intN s))))))))))
  have HRn := hid ((HR12.out.apart (grownC w12 L 38 (.int .i64 (intV (txtN (nextS (hashN 32 (intN (intN (intN (intN s)))))))))) hNL (fun e => hpL e.symm)).apart (grownC _ L 39 (.int .i64 (intV (intN (txtN (nextS (hashN 32 (intN (intN (intN (intN s))))))))))) hNL (fun e => hpL e.symm))
  have HGn := hid (grownBy_own (by omega) (grownBy_own (by omega) HG12.out 38 (.int .i64 (intV (txtN (nextS (hashN 32 (intN (intN (intN (intN s))))))))) (q := L)) 39 (.int .i64 (intV (intN (txtN (nextS (hashN 32 (intN (intN (intN (intN s)))))))))) (q := L))
  clear HW12 HR12 HG12 c38 c39 f0 f1
  generalize (w12.setCell ⟨L, 38, none⟩ (.int .i64 (intV (txtN (nextS (hashN 32 (intN (intN (intN (intN s)))))))))).setCell ⟨L, 39, none⟩ (.int .i64 (intV (intN (txtN (nextS (hashN 32 (intN (intN (intN (intN s)))))))))) = w13 at *
  have HW13 : Hid (DW w13 30 L (⟨intV s, intV (intN s), intV (intN (intN s)), intV (intN (intN (intN s))), (hashV 32 (intN (intN (intN (intN s))))), (byteS (hashN 32 (intN (intN (intN (intN s))))) : Nat), intV (txtN (nextS (hashN 32 (intN (intN (intN (intN s))))))), intV (intN (txtN (nextS (hashN 32 (intN (intN (intN (intN s))))))))⟩ : Dl) (.slice none 0 0)) := HWn
  have HR13 := HRn
  have HG13 := HGn
  clear HWn HRn HGn
  have HW : Hid (DW w13 30 L (fldV s) (.slice none 0 0)) := HW13
  have HR : Hid (RD N w13 p (fldN s)) := HR13
  clear HW13 HR13
  obtain ⟨cs, hcs⟩ : ∃ cs, (fldV s).cells (.slice none 0 0) = cs := ⟨_, rfl⟩
  have HCS := hid hcs
  have HL := hid (show cs.length = 40 by rw [← hcs, Dl.len (fldV_len s)])
  have HO := hid (show ∀ v ∈ cs, v.oneCell' = true by rw [← hcs]; exact Dl.one rfl)
  have hr := hid (show w13.rangeAt L 0 cs by rw [← hcs]; exact HW.out.whole)
  have HTH := hid (HW.out.there (j := 0) (n := cs.length) (by rw [HL.out]; omega))
  clear hcs
  go_wp2_with (first
    | (show wpList _ _ _ (⟨some 28, Op.load _ _, _, _, _, _⟩ :: _) _ _; go_must (refine wpList_load_mid rfl 30 _ rfl L 0 rfl cs _ hr.out Tryd.underlying30 rfl (by rw [HL.out]; exact HI.out) ?_))
    | (show wpList _ _ _ (⟨none, Op.store _ (Operand.tmp 2) (Operand.tmp 28), _, _, _, _⟩ :: _) _ _; go_must (refine wpList_store_list rfl 30 _ _ rfl L 0 cs rfl rfl HTH.out (by rw [HL.out]; exact HI.out) HO.out ?_); intro w14 hw14; have HX := hid (show w14.rangeAt L 0 cs ∧ RD N w14 p (fldN s) ∧ w.grownBy w14 (some p) by
        rw [hw14]
        refine ⟨?_, HR.out.apart (grownCs L _ 0 _) hNL (fun e => hpL e.symm), own_cells (by omega) HG13.out 0 _⟩
        have h := HW.out.set_all (fldV s) (fldV_len s) (.slice none 0 0)
        rw [HCS.out] at h
        have h2 := h.whole
        rw [HCS.out] at h2
        exact h2); clear hw14))
  refine ret_cell_tmp 2 3 30 rfl L rfl _ rfl cs _ HX.out.1 Tryd.underlying30 rfl (by rw [HL.out]; exact HI.out) rfl ⟨by rw [HCS.out]; rfl, HX.out.2.1, HX.out.2.2⟩
end Go.Proofs.YtinifnpajkldbaaDoor

/- Texts laid together: RRead, RefChk, RRead2. -/
import Derived.Test.YtinifnpajkldbaaDoorDRead3
import Derived.Test.YtinifnpajkldbaaDoorPk29
import Derived.Test.YtinifnpajkldbaaDoorPk26

/- The contracts of the second say's addr and Hash (chapter 8). -/
namespace Go.Proofs.YtinifnpajkldbaaDoor
open Go.RowKit
variable {N : Nat}
set_option linter.unusedSimpArgs false
set_option linter.unusedVariables false

/-- A new variable. -/
theorem one_var {w : World} {p : Nat} {s : St} (x : List Value) (t : TypeId) {L : Nat} (hL : w.heap.size = L) (hR : FR N w p s) :
    FR N (w.alloc (.cells x.toArray t)) p s ∧ Blk (w.alloc (.cells x.toArray t)) t L x ∧ w.grownBy (w.alloc (.cells x.toArray t)) (some p) := by
  subst hL
  exact ⟨hR.later ((Below.refl _ _).alloc (Nat.le_refl _) _), Blk.new w t x, grown_alloc (World.grownBy.refl _ _) _⟩

set_option maxRecDepth 100000 in
set_option maxHeartbeats 2000000 in
theorem rAddr_any (p : Nat) (s : St) (w : World) (hR : FR N w p s) (hN : N ≤ w.heap.size) :
    Calls Tryd.prog 38 #[.pointer (some ⟨p, 0, none⟩)] w fun e w' =>
      e = .returned (.agg #[.int .i64 (intV s), .int .i64 (intV (intN s))]) ∧ FR N w' p (intN (intN s)) ∧ w.grownBy w' (some p) := by
  obtain ⟨L, hL⟩ : ∃ L, w.heap.size = L := ⟨_, rfl⟩
  have hpl := hR.lt
  have hpL : L ≠ p := by omega
  have HT := hid (one_var [.int .i64 0, .int .i64 0] 24 hL hR)
  have HS0 := hid (show L + 1 = (w.alloc (.cells #[.int .i64 0, .int .i64 0] 24)).heap.size by simp; omega)
  clear hR
  go_enter Tryd.func38, Tryd.ntmps38
  go_wp2_with fail
  have HT2 : Hid (FR N (w.alloc (.cells #[.int .i64 0, .int .i64 0] 24)) p s ∧ Blk (w.alloc (.cells #[.int .i64 0, .int .i64 0] 24)) 24 L [.int .i64 0, .int .i64 0] ∧ w.grownBy (w.alloc (.cells #[.int .i64 0, .int .i64 0] 24)) (some p)) := HT
  clear HT
  generalize w.alloc (.cells #[.int .i64 0, .int .i64 0] 24) = w0 at *
  try rw [hL]
  refine (frInt_any p s _ HT2.out.1).mono ?_
  rintro _ w1 ⟨rfl, hR1, hg1⟩
  change FR N w1 p (intN s) at hR1
  rw [show intR (jn 8 0 0 s) = intV s from rfl]
  obtain ⟨L3, hL3⟩ : ∃ L3, w1.heap.size = L3 := ⟨_, rfl⟩
  have hs1 := hg1.size
  have hLL : L < L3 := by have := HS0.out; omega
  have hpl1 : p < L3 := by have := hR1.lt; omega
  have HT3 := hid (one_var [.int .i64 (intV s), .int .i64 0] 24 hL3 hR1)
  have HA3 := hid ((HT2.out.2.1.grownAt hg1 hpL).alloc (.cells #[.int .i64 (intV s), .int .i64 0] 24))
  have HG3 := hid (grown_alloc (grownT HT2.out.2.2 hg1) (.cells #[.int .i64 (intV s), .int .i64 0] 24))
  clear hR1 hg1 HT2
  go_wp2_with fail
  have HT4 : Hid (FR N (w1.alloc (.cells #[.int .i64 (intV s), .int .i64 0] 24)) p (intN s) ∧ Blk (w1.alloc (.cells #[.int .i64 (intV s), .int .i64 0] 24)) 24 L3 [.int .i64 (intV s), .int .i64 0] ∧ w1.grownBy (w1.alloc (.cells #[.int .i64 (intV s), .int .i64 0] 24)) (some p)) := HT3
  clear HT3
  generalize w1.alloc (.cells #[.int .i64 (intV s), .int .i64 0] 24) = w2 at *
  try rw [hL3]
  refine (frInt_any p (intN s) _ HT4.out.1).mono ?_
  rintro _ w3 ⟨rfl, hR3, hg3⟩
  change FR N w3 p (intN (intN s)) at hR3
  rw [show intR (jn 8 0 0 (intN s)) = intV (intN s) from rfl]
  have HA5 := hid (HA3.out.grownAt hg3 hpL)
  have HB5 := hid (HT4.out.2.1.grownAt hg3 (by omega))
  have c0 := HB5.out.cell (j := 0) rfl
  have c1 := HB5.out.cell (j := 1) rfl
  have f1 := HB5.out.frozen 1
  have a0 := HA5.out.cell (j := 0) rfl
  have a1 := HA5.out.cell (j := 1) rfl
  have b0 := HA5.out.frozen 0
  have b1 := HA5.out.frozen 1
  have HR5 := hid hR3
  have HG5 := hid (grownT HG3.out hg3)
  clear hR3 hg3 HA3 HT4 HG3
  go_wp2_with fail
  have hB := ((HA5.out.grownAt (grownC w3 L3 1 (.int .i64 (intV (intN s)))) (by omega)).setCell 0 (.int .i64 (intV s))).setCell 1 (.int .i64 (intV (intN s)))
  refine ret_cell 2 24 rfl L rfl [.int .i64 (intV s), .int .i64 (intV (intN s))] _ (hB.range fun j v hv => by rw [Nat.zero_add]; exact hv) Tryd.underlying24 rfl (by kernel_rfl) rfl ⟨rfl, ?_, ?_⟩
  · exact ((HR5.out.apart (grownC _ L3 1 _) (by omega) (by omega)).apart (grownC _ L 0 _) (by omega) (fun e => hpL e.symm)).apart (grownC _ L 1 _) (by omega) (fun e => hpL e.symm)
  · exact grownBy_own (by omega) (grownBy_own (by omega) (grownBy_own (by omega) HG5.out 1 _) 0 _) 1 _

set_option maxRecDepth 100000 in
set_option maxHeartbeats 4000000 in
theorem rHash_any (p : Nat) (s : St) (w : World) (hR : FR N w p s) (hN : N ≤ w.heap.size) :
    Calls Tryd.prog 40 #[.pointer (some ⟨p, 0, none⟩)] w fun e w' =>
      e = .returned (.agg (B (hashV 32 s)).toArray) ∧ FR N w' p (hashN 32 s) ∧ w.grownBy w' (some p) := by
  obtain ⟨L, hL⟩ : ∃ L, w.heap.size = L := ⟨_, rfl⟩
  have hpl := hR.lt
  have hi := hid (show (Tryd.prog.info? 26).map (·.size) = some 32 by kernel_rfl)
  have hpL : L ≠ p := by omega
  have hpL1 : L + 1 ≠ p := by omega
  have HA := hid (show Blk ((w.alloc (.cells (B (List.replicate 32 0)).toArray 26)).alloc (.cells (B (List.replicate 32 0)).toArray 26)) 26 L (B (List.replicate 32 0)) by rw [← hL]; exact (Blk.new w _ _).alloc _)
  have HB := hid (show Blk ((w.alloc (.cells (B (List.replicate 32 0)).toArray 26)).alloc (.cells (B (List.replicate 32 0)).toArray 26)) 26 (L + 1) (B (List.replicate 32 0)) by
    rw [← hL]
    have := Blk.new (w.alloc (.cells (B (List.replicate 32 0)).toArray 26)) 26 (B (List.replicate 32 0))
    rwa [show (w.alloc (.cells (B (List.replicate 32 0)).toArray 26)).heap.size = w.heap.size + 1 by simp] at this)
  have HR := hid ((hR.later ((Below.refl _ _).alloc (Nat.le_refl _) (.cells (B (List.replicate 32 0)).toArray 26))).later ((Below.refl _ _).alloc (Nat.le_refl _) (.cells (B (List.replicate 32 0)).toArray 26)))
  have HG := hid (show w.grownBy ((w.alloc (.cells (B (List.replicate 32 0)).toArray 26)).alloc (.cells (B (List.replicate 32 0)).toArray 26)) (some p) from grown_alloc (grown_alloc (World.grownBy.refl _ _) _) _)
  obtain ⟨zs, hzs⟩ : ∃ zs, B (List.replicate 32 0) = zs := ⟨_, rfl⟩
  have HZ := hid hzs
  have HZL := hid (show zs.length = 32 by rw [← hzs, B_length]; simp)
  have HZE := hid (show Value.agg zs.toArray = Value.agg (B (List.replicate 32 0)).toArray by rw [hzs])
  have HO := hid (show ∀ v ∈ zs, v.oneCell' = true by rw [← hzs]; exact B_one _)
  have HTH := hid (HB.out.there (o := 0) (n := zs.length) (by rw [HZL.out, B_length]; simp))
  clear hR hzs
  go_enter Tryd.func40, Tryd.ntmps40
  go_wp2_with (show wpList _ _ _ (⟨none, Op.store _ (Operand.tmp 3) (Operand.tmp 5), _, _, _, _⟩ :: _) _ _; go_must (refine wpList_store_list rfl 26 _ _ rfl (L + 1) 0 zs rfl HZE.out.symm HTH.out (by rw [HZL.out]; exact hi.out) HO.out ?_); intro w2 hw2; have hw : w2 = ((w.alloc (.cells (B (List.replicate 32 0)).toArray 26)).alloc (.cells (B (List.replicate 32 0)).toArray 26)).setCells (L + 1) 0 zs := hw2; have HX := hid (show Blk w2 26 L (B (List.replicate 32 0)) ∧ Blk w2 26 (L + 1) zs ∧ FR N w2 p s ∧ w.grownBy w2 (some p) by
      rw [hw]
      refine ⟨HA.out.kept (setCells_heap (by omega) _ _ _), ?_, HR.out.apart (grownCs (L + 1) _ 0 _) (by omega) (fun e => hpL1 e.symm), own_cells (by omega) HG.out 0 _⟩
      have h1 := Blk.setCells zs [] (B (List.replicate 32 0)) [] (o := 0) (by simpa using HB.out) (by rw [HZL.out, B_length]; simp) rfl
      simpa using h1); clear hw hw2)
  clear HA HB HR HG HTH
  go_loopw [4] (fun i wr => ∃ (k j : Nat) (s1 : St) (z : List UInt8), i = .int .i64 j ∧ j + k = 32 ∧ z.length = j ∧ FR N wr p s1 ∧ Blk wr 26 L (B (List.replicate 32 0)) ∧ Blk wr 26 (L + 1) (B (z ++ List.replicate k 0)) ∧ w.grownBy wr (some p) ∧ z ++ hashV k s1 = hashV 32 s ∧ hashN k s1 = hashN 32 s) (fun i _ => 32 - (intOf i).toNat)
  case atStart => exact ⟨32, 0, s, [], rfl, rfl, rfl, HX.out.2.2.1, HX.out.1, (by show Blk _ _ _ (B (List.replicate 32 0)); rw [HZ.out]; exact HX.out.2.1), HX.out.2.2.2, rfl, rfl⟩
  case round =>
    obtain ⟨k, j, s1, z, rfl, hjk, hz, hR1, hA, hB, hg, hV, hE⟩ := hrel
    have HR1 := hid hR1
    have HA := hid hA
    have HB := hid hB
    have HG := hid hg
    have HV := hid hV
    have HE := hid hE
    have HZ2 := hid hz
    have hsz := hg.size
    clear hR1 hA hB hg hV hE HX
    cases k with
    | zero =>
      have hj : j = 32 := by omega
      subst hj
      have HB2 := hid (show Blk wr 26 (L + 1) (B (hashV 32 s)) by have h := HB.out; have h2 := HV.out; simp only [hashV, List.append_nil, List.replicate_zero] at h h2; rwa [h2] at h)
      have HR2 := hid (show FR N wr p (hashN 32 s) by have h := HR1.out; have h2 := HE.out; simp only [hashN] at h2; rwa [h2] at h)
      have HL := hid (show (B (hashV 32 s)).length = 32 by rw [B_length, hashV_len])
      generalize hbs : B (hashV 32 s) = bs at *
      have HBS := hid hbs
      have HO2 := hid (show ∀ v ∈ bs, v.oneCell' = true by rw [← hbs]; exact B_one _)
      clear hz hbs
      have hr := hid (HB2.out.range (o := 0) (xs := bs) fun j v hv => by rw [Nat.zero_add]; exact hv)
      have HTH := hid (HA.out.there (o := 0) (n := bs.length) (by rw [HL.out, B_length]; simp))
      go_wp2_with (first
        | (show wpList _ _ _ (⟨some 15, Op.load _ _, _, _, _, _⟩ :: _) _ _; go_must (refine wpList_load_mid rfl 26 _ rfl (L + 1) 0 rfl bs _ hr.out Tryd.underlying26 rfl (by rw [HL.out]; exact hi.out) ?_))
        | (show wpList _ _ _ (⟨none, Op.store _ (Operand.tmp 2) (Operand.tmp 15), _, _, _, _⟩ :: _) _ _; go_must (refine wpList_store_list rfl 26 _ _ rfl L 0 bs rfl rfl HTH.out (by rw [HL.out]; exact hi.out) HO2.out ?_); intro w3 hw3; have HX := hid (show Blk w3 26 L bs ∧ FR N w3 p (hashN 32 s) ∧ w.grownBy w3 (some p) by
            have h1 := Blk.setCells bs [] (B (List.replicate 32 0)) [] (o := 0) (by simpa using HA.out) (by rw [HL.out, B_length]; simp) rfl
            refine ⟨by rw [hw3]; simpa using h1, by rw [hw3]; exact HR2.out.apart (grownCs L bs 0 _) (by omega) (fun e => hpL e.symm), by rw [hw3]; exact own_cells (by omega) HG.out 0 bs⟩); clear hw3))
      refine ret_cell 2 26 rfl L rfl bs _ (HX.out.1.range fun j v hv => by rw [Nat.zero_add]; exact hv) Tryd.underlying26 rfl (by rw [HL.out]; exact hi.out) rfl ⟨by rw [HBS.out], HX.out.2.1, HX.out.2.2⟩
    | succ k =>
      have hj32 : (j : Int) < 32 := by omega
      have hjb : (j : Int) ≤ 31 := by omega
      go_wp2_with fail
      refine (frByte_any p s1 _ HR1.out).mono ?_
      rintro _ w2 ⟨rfl, hR2, hg2⟩
      have HA2 := hid (HA.out.grownAt hg2 hpL)
      have HB2 := hid (HB.out.grownAt hg2 hpL1)
      have hc : (B (z ++ List.replicate (k + 1) 0))[j]? = some (.int .u8 0) := by
        rw [B_get, List.getElem?_append_right (by omega), hz, Nat.sub_self]; rfl
      have c0 := HB2.out.cell hc
      have f0 := HB2.out.frozen j
      have HS := hid (show Blk (w2.setCell ⟨L + 1, j, none⟩ (.int .u8 ((byteS s1 : Int) % 256))) 26 (L + 1) (B ((z ++ [UInt8.ofNat (byteS s1)]) ++ List.replicate k 0)) by
        have h := HB2.out.setCell j (.int .u8 ((byteS s1 : Int) % 256))
        rw [byte_low, ← hz, List.replicate_succ, B_setM] at h
        rw [byte_low, ← hz]
        simpa using h)
      have HAS := hid (HA2.out.grownAt (grownC w2 (L + 1) j (.int .u8 ((byteS s1 : Int) % 256))) (by omega))
      have HRS := hid (hR2.apart (grownC w2 (L + 1) j (.int .u8 ((byteS s1 : Int) % 256))) (by omega) (fun e => hpL1 e.symm))
      have HGS := hid (grownBy_own (by omega) (grownT HG.out hg2) (q := L + 1) j (.int .u8 ((byteS s1 : Int) % 256)))
      clear hR2 hg2 HA HB HR1 HG HA2 HB2 hc hz
      go_wp2_with fail
      go_roundw
      case rel =>
        exact ⟨k, j + 1, nextS s1, z ++ [UInt8.ofNat (byteS s1)], by go_num, by omega, by rw [List.length_append, HZ2.out]; rfl, HRS.out, HAS.out, HS.out, HGS.out, by have h := HV.out; rw [hashV] at h; simpa using h, HE.out⟩
      case measure => simp [intOf]; omega
end Go.Proofs.YtinifnpajkldbaaDoor

/- The contracts of the second say's Check (chapter 4). -/
namespace Go.Proofs.YtinifnpajkldbaaDoor
open Go.RowKit
set_option linter.unusedSimpArgs false
set_option linter.unusedVariables false

set_option maxHeartbeats 1000000 in
theorem refPart_any (c : Cp) (w : World) (hsz : c.s.size ≤ 1099511627776) :
    Calls Tryd.prog 91 #[.agg c.vals.toArray] w fun e w' => e = .returned (.int .i64 (chkP c)) ∧ Below w.heap.size w w' := by
  obtain ⟨k, n, s⟩ := c
  simp only [Cp.vals]
  simp only at hsz
  have HB := hid (show ∀ ob, Below w.heap.size w (w.alloc ob) from fun ob => (Below.refl _ _).alloc (Nat.le_refl _) ob)
  by_cases h13 : k = 1 ∨ k = 3
  · by_cases h1 : n < 1
    · have HR := hid (show chkP ⟨k, n, s⟩ = 1 by rw [chkP, if_pos h13, if_pos (.inl h1)])
      rcases h13 with rfl | rfl
      all_goals
        go_enter Tryd.func91, Tryd.ntmps91
        go_wp2
        go_ret
        exact ⟨by rw [HR.out]; rfl, HB.out _⟩
    by_cases h2 : 120 < n
    · have HR := hid (show chkP ⟨k, n, s⟩ = 1 by rw [chkP, if_pos h13, if_pos (.inr (.inl h2))])
      rcases h13 with rfl | rfl
      all_goals
        go_enter Tryd.func91, Tryd.ntmps91
        go_wp2
        go_ret
        exact ⟨by rw [HR.out]; rfl, HB.out _⟩
    by_cases h3 : s.size = 0
    · have HR := hid (show chkP ⟨k, n, s⟩ = 0 by rw [chkP, if_pos h13, if_neg (by simp only; omega)])
      have hs := em0 h3
      subst hs
      rcases h13 with rfl | rfl
      all_goals
        go_enter Tryd.func91, Tryd.ntmps91
        go_wp2
        go_ret
        exact ⟨by rw [HR.out]; rfl, HB.out _⟩
    · have HR := hid (show chkP ⟨k, n, s⟩ = 1 by rw [chkP, if_pos h13, if_pos (.inr (.inr h3))])
      have hs := ne0 h3
      rcases h13 with rfl | rfl
      all_goals
        go_enter Tryd.func91, Tryd.ntmps91
        go_wp2
        go_ret
        exact ⟨by rw [HR.out]; rfl, HB.out _⟩
  have e1 : (k == 1) = false := by simp; omega
  have e3 : (k == 3) = false := by simp; omega
  by_cases h2 : k = 2
  · subst h2
    by_cases hn : n = 0
    · subst hn
      by_cases h3 : s.size = 0
      · have HR := hid (show chkP ⟨2, 0, s⟩ = 1 by rw [chkP, if_neg h13, if_pos rfl, if_pos (.inr h3)])
        have hs := em0 h3
        subst hs
        go_enter Tryd.func91, Tryd.ntmps91
        go_wp2
        go_ret
        exact ⟨by rw [HR.out]; rfl, HB.out _⟩
      have hs := ne0 h3
      by_cases h4 : 120 < s.size
      · have HR := hid (show chkP ⟨2, 0, s⟩ = 5 by rw [chkP, if_neg h13, if_pos rfl, if_neg (by simp only; omega), if_pos h4])
        go_enter Tryd.func91, Tryd.ntmps91
        go_wp2
        go_ret
        exact ⟨by rw [HR.out]; rfl, HB.out _⟩
      · have HR := hid (show chkP ⟨2, 0, s⟩ = 0 by rw [chkP, if_neg h13, if_pos rfl, if_neg (by simp only; omega), if_neg h4])
        go_enter Tryd.func91, Tryd.ntmps91
        go_wp2
        go_ret
        exact ⟨by rw [HR.out]; rfl, HB.out _⟩
    · have HR := hid (show chkP ⟨2, n, s⟩ = 1 by rw [chkP, if_neg h13, if_pos rfl, if_pos (.inl hn)])
      have hne : (n == 0) = false := by simpa using hn
      go_enter Tryd.func91, Tryd.ntmps91
      go_wp2
      go_ret
      exact ⟨by rw [HR.out]; rfl, HB.out _⟩
  · have HR := hid (show chkP ⟨k, n, s⟩ = 3 by rw [chkP, if_neg h13, if_neg h2])
    have e2 : (k == 2) = false := by simp; omega
    go_enter Tryd.func91, Tryd.ntmps91
    go_wp2
    go_ret
    exact ⟨by rw [HR.out]; rfl, HB.out _⟩

set_option maxRecDepth 100000 in
set_option maxHeartbeats 1000000 in
theorem refCheck_any (v : Value) (o : List Cp) (w : World) (hv : RC w v o) (hs : ∀ c ∈ o, c.s.size ≤ 1099511627776) (hln : o.length ≤ 1099511627776) :
    Calls Tryd.prog 69 #[v] w fun e w' => e = .returned (.int .i64 (chkS o)) ∧ Below w.heap.size w w' := by
  obtain ⟨ao, cap, rfl⟩ := hv.form
  have HV := hid hv
  have HS := hid hs
  clear hv hs
  by_cases h40 : 40 < o.length
  · have HR := hid (show chkS o = 4 by rw [chkS, if_pos h40])
    go_enter Tryd.func69, Tryd.ntmps69
    go_wp2
    go_ret
    exact ⟨by rw [HR.out]; rfl, Below.refl _ _⟩
  have HR := hid (show chkS o = chkL o by rw [chkS, if_neg h40])
  go_enter Tryd.func69, Tryd.ntmps69
  go_wp2
  go_loopw [3] (fun i wr => ∃ j : Nat, j ≤ o.length ∧ i = .int .i64 j ∧ chkL (o.drop j) = chkL o ∧ Below w.heap.size w wr) (fun i _ => o.length - (intOf i).toNat)
  case atStart => exact ⟨0, Nat.zero_le _, rfl, rfl, Below.refl _ _⟩
  case round =>
    obtain ⟨j, hj, rfl, hx, hb⟩ := hrel
    have Hb := hid hb
    have HX := hid hx
    clear hb hx
    by_cases hlt : j < o.length
    · have hlt' : (j : Int) < (o.length : Int) := by omega
      obtain ⟨c, hc⟩ : ∃ c, o[j]? = some c := ⟨_, List.getElem?_eq_getElem hlt⟩
      obtain ⟨g, off, cap', e, hcap, hr, hg⟩ := HV.out.place (by omega)
      injection e with e1 e2 e3
      subst e1 e3
      obtain ⟨c0, c1, c2⟩ := RC.cells hr hc
      replace c0 := cell_later Hb.out c0
      replace c1 := cell_later Hb.out c1
      replace c2 := cell_later Hb.out c2
      have hsz := HS.out c (List.mem_of_getElem? hc)
      have HD := hid (show chkL (o.drop j) = if chkP c ≠ 0 then chkP c else chkL (o.drop (j + 1)) by rw [drop_cons' o j c hc]; rfl)
      clear hr hc e2
      go_wp2_with fail
      refine (refPart_any c _ hsz).mono ?_
      rintro _ w2 ⟨rfl, hb2⟩
      have Hb2 := hid (show Below w.heap.size w w2 from below_seq Hb.out hb2)
      clear hb2
      obtain ⟨r, hr⟩ : ∃ r, chkP c = r := ⟨_, rfl⟩
      rw [hr] at HD ⊢
      by_cases h0 : r = 0
      · subst h0
        have HN := hid (show chkL (o.drop (j + 1)) = chkL o by rw [← HX.out, HD.out]; simp)
        go_wp2_with fail
        go_roundw
        case rel => exact ⟨j + 1, by omega, by go_num, HN.out, Hb2.out⟩
        case measure => simp [intOf]; omega
      · have HN := hid (show chkL o = r by rw [← HX.out, HD.out, if_pos h0])
        have hne : (r == 0) = false := by simpa using h0
        go_wp2_with fail
        go_ret
        exact ⟨by rw [HR.out, HN.out]; rfl, Hb2.out⟩
    · have hj2 : j = o.length := by omega
      subst hj2
      have HN := hid (show chkL o = 0 by rw [← HX.out, List.drop_length]; rfl)
      go_wp2
      go_ret
      exact ⟨by rw [HR.out, HN.out]; rfl, Hb.out⟩
end Go.Proofs.YtinifnpajkldbaaDoor

/- The contract of the second say's OpParse (chapter 8). -/
namespace Go.Proofs.YtinifnpajkldbaaDoor
open Go.RowKit
set_option linter.unusedSimpArgs false
set_option linter.unusedVariables false

section
variable {N : Nat}
theorem FR.err {w : World} {p : Nat} {s : St} (h : FR N w p s) : w.cell? ⟨p, 2, none⟩ = some (.int .i64 s.2) := by
  obtain ⟨ao, cap, b, P, hh, _⟩ := h
  exact (cells3 hh).2.2.1
theorem FR.below {w w' : World} {Bd p : Nat} {s : St} (h : FR N w p s) (hb : Below Bd w w') (hN : N ≤ Bd) (hp : p < Bd) : FR N w' p s := by
  obtain ⟨ao, cap, b, P, hh, hr, r⟩ := h
  exact ⟨ao, cap, b, P, by rw [hb.block p hp]; exact hh, hr.below hb hN, r⟩
theorem FR.drew {w : World} {p : Nat} {s : St} (h : FR N w p s) : FR N w.drew p s := h.later ⟨rfl, rfl, rfl, Nat.le_refl _, fun _ _ => rfl⟩
end

set_option maxRecDepth 100000 in
set_option maxHeartbeats 4000000 in
theorem rOpParse_any (v : Value) (b : List UInt8) (w : World) (hr : Reads w v (B b)) (hb : b.length ≤ 140737488355328) :
    Calls Tryd.prog 44 #[v] w fun e w' => ∃ v', e = .returned (.tuple #[v', .int .i64 (opP b).2]) ∧ HasC w' w.heap.size v' (opP b).1 ∧ Below w.heap.size w w' := by
  go_enter Tryd.func44, Tryd.ntmps44
  go_wp2_with fail
  refine (frNew_any v b _ hr hb).mono ?_
  rintro _ w1 ⟨p, rfl, hp, hR1, hb1⟩
  have HR1 := hid hR1
  have Hb1 := hid hb1
  clear hR1 hb1 hr
  go_wp2_with fail
  refine (frByte_any p (b, 0) _ HR1.out).mono ?_
  rintro _ w2 ⟨rfl, hR2, hg2⟩
  obtain ⟨n, hn⟩ : ∃ n, byteS (b, 0) = n := ⟨_, rfl⟩
  rw [hn]
  have HR2 := hid hR2
  have Hb2 := hid (below_at Hb1.out hg2 hp)
  clear hR2 hg2 HR1 Hb1
  by_cases h40 : 40 < n
  · have h40' : (40 : Int) < (n : Int) := by omega
    have HO := hid (show opP b = ([], 4) by rw [opP, hn, if_pos h40])
    go_wp2_with fail
    refine (frFail_any p (nextS (b, 0)) 4 _ HR2.out).mono ?_
    rintro _ w3 ⟨rfl, hR3, hg3⟩
    have hs : failS (nextS (b, 0)) 4 = ([], 4) := by
      cases b with
      | nil => simp [byteS] at hn; omega
      | cons x r => simp [nextS, failS]
    rw [hs] at hR3
    have HR3 := hid hR3
    have Hb3 := hid (below_at Hb2.out hg3 hp)
    have c2 := HR3.out.err
    simp only at c2
    clear hR3 hg3 hs hn h40 HR2 Hb2
    have hn0 : (0 : Int) < (n : Int) := by omega
    go_wp2_with fail
    go_loopw [7] (fun i wr => i = .int .i64 0 ∧ wr = w3) (fun _ _ => 0)
    case atStart => exact ⟨rfl, rfl⟩
    case round =>
      obtain ⟨rfl, hwr⟩ := hrel
      subst wr
      go_wp2_with fail
      refine (frEnd_any p ([], 4) _ HR3.out).mono ?_
      rintro _ w4 ⟨rfl, m, hw4⟩
      rw [show endS ([], (4 : Int)) = 4 from rfl, hw4]
      have Hb4 := hid (show Below w.heap.size w (w3.drewN m) from ⟨Hb3.out.os, Hb3.out.tape, Hb3.out.output, Hb3.out.size, Hb3.out.block⟩)
      clear hw4
      go_wp2_with fail
      go_ret2
      rw [HO.out]
      exact ⟨_, rfl, HasC.nil _ _, Hb4.out⟩
  have h40' : ¬ (40 : Int) < (n : Int) := by omega
  have hn40 : n ≤ 40 := by omega
  have HO := hid (show opP b = if endS (partsE n (nextS (b, 0))) ≠ 0 then ([], endS (partsE n (nextS (b, 0)))) else if chkS (partsV n (nextS (b, 0))) ≠ 0 then ([], chkS (partsV n (nextS (b, 0)))) else (partsV n (nextS (b, 0)), 0) by rw [opP, hn, if_neg h40])
  have HZ := hid (partsV_size n (nextS (b, 0)))
  have hpb : p < w2.heap.size := HR2.out.lt
  clear hn h40
  go_wp2_with fail
  go_loopw [6, 7, 8] (fun ov i cv wr => ∃ (k j : Nat) (s1 : St) (acc : List Cp), i = .int .i64 j ∧ acc.length = j ∧ j + k = n ∧ FR w.heap.size wr p s1 ∧ HasC wr (p + 1) ov acc ∧ Below w.heap.size w wr ∧ p < wr.heap.size ∧ acc ++ partsV k s1 = partsV n (nextS (b, 0)) ∧ partsE k s1 = partsE n (nextS (b, 0))) (fun _ i _ _ => n - (intOf i).toNat)
  case atStart => exact ⟨n, 0, nextS (b, 0), [], rfl, rfl, by omega, HR2.out, HasC.nil _ _, Hb2.out, hpb, rfl, rfl⟩
  case round =>
    obtain ⟨k, j, s1, acc, rfl, hacc, hjk, hR, hH, hbr, hpr, hV, hE⟩ := hrel
    obtain ⟨av, cv, rfl⟩ := hH.form
    have c2 := hR.err
    have HR := hid hR
    have HH := hid hH
    have Hb := hid hbr
    have HV := hid hV
    have HE := hid hE
    subst hacc
    have HJ := hid hjk
    have hal : acc.length ≤ 40 := by omega
    clear hR hH hbr hV hE HR2 Hb2 hjk
    obtain ⟨l1, e1⟩ := s1
    simp only at c2
    by_cases hk : k = 0
    · -- all were read
      subst hk
      have hlt : ¬ (acc.length : Int) < (n : Int) := by have := HJ.out; omega
      have hEE := HE.out
      have hVV := HV.out
      simp only [partsE, partsV, List.append_nil] at hEE hVV
      rw [← hEE, ← hVV] at HO
      rw [← hVV] at HZ
      have HO2 := HO
      have HZ2 := HZ
      clear hEE hVV HO HZ HE HV
      go_wp2_with fail
      refine (frEnd_any p (l1, e1) _ HR.out).mono ?_
      rintro _ w4 ⟨rfl, m, hw4⟩
      rw [hw4]
      have HH4 := hid (show HasC (wr.drewN m) w.heap.size (.slice av acc.length cv) acc from (HH.out.later ⟨rfl, rfl, rfl, Nat.le_refl _, fun _ _ => rfl⟩).mono (by omega))
      have Hb4 := hid (show Below w.heap.size w (wr.drewN m) from ⟨Hb.out.os, Hb.out.tape, Hb.out.output, Hb.out.size, Hb.out.block⟩)
      generalize wr.drewN m = w5 at *
      clear hw4 HR HH Hb c2 hpr
      obtain ⟨e, he⟩ : ∃ e, endS (l1, e1) = e := ⟨_, rfl⟩
      rw [he] at HO2 ⊢
      clear he
      by_cases h0 : e = 0
      · subst h0
        go_wp2_with fail
        refine (refCheck_any _ acc _ HH4.out.reads (fun c hc => by have := HZ2.out c hc; omega) (by omega)).mono ?_
        rintro _ w6 ⟨rfl, hb6⟩
        have HH6 := hid (HH4.out.later hb6)
        have Hb6 := hid (show Below w.heap.size w w6 from below_seq Hb4.out hb6)
        clear hb6 HH4 Hb4
        obtain ⟨r, hr⟩ : ∃ r, chkS acc = r := ⟨_, rfl⟩
        rw [hr] at HO2 ⊢
        clear hr
        by_cases hr0 : r = 0
        · subst hr0
          have HO3 := hid (show opP b = (acc, 0) by rw [HO2.out, if_neg (fun h => h rfl), if_neg (fun h => h rfl)])
          clear HO2
          go_wp2_with fail
          go_ret2
          rw [HO3.out]
          exact ⟨_, rfl, HH6.out, Hb6.out⟩
        · have hne : (r == 0) = false := by simpa using hr0
          have HO3 := hid (show opP b = ([], r) by rw [HO2.out, if_neg (fun h => h rfl), if_pos hr0])
          clear HO2
          go_wp2_with fail
          go_ret2
          rw [HO3.out]
          exact ⟨_, rfl, HasC.nil _ _, Hb6.out⟩
      · have hne : (e == 0) = false := by simpa using h0
        have HO3 := hid (show opP b = ([], e) by rw [HO2.out, if_pos h0])
        clear HO2
        go_wp2_with fail
        go_ret2
        rw [HO3.out]
        exact ⟨_, rfl, HasC.nil _ _, Hb4.out⟩
    · have hlt : (acc.length : Int) < (n : Int) := by have := HJ.out; omega
      by_cases he : e1 = 0
      case neg =>
        have hne : (e1 == 0) = false := by simpa using he
        have hPE := HE.out
        rw [parts_err k (s := (l1, e1)) he] at hPE
        have hEnd : endS (l1, e1) = e1 := endS_err (s := (l1, e1)) he
        have HO2 := hid (show opP b = ([], e1) by rw [HO.out, ← hPE, hEnd, if_pos he])
        clear hPE HO
        go_wp2_with fail
        refine (frEnd_any p (l1, e1) _ HR.out).mono ?_
        rintro _ w4 ⟨rfl, m, hw4⟩
        rw [hw4, hEnd]
        have Hb4 := hid (show Below w.heap.size w (wr.drewN m) from ⟨Hb.out.os, Hb.out.tape, Hb.out.output, Hb.out.size, Hb.out.block⟩)
        clear hw4 hEnd
        go_wp2_with fail
        go_ret2
        rw [HO2.out]
        exact ⟨_, rfl, HasC.nil _ _, Hb4.out⟩
      subst he
      obtain ⟨k, rfl⟩ : ∃ k', k = k' + 1 := ⟨k - 1, by omega⟩
      go_wp2_with fail
      refine (frByte_any p (l1, 0) _ HR.out).mono ?_
      rintro _ w3 ⟨rfl, hR3, hg3⟩
      have HG3 := hid hg3
      obtain ⟨L8, hL8⟩ : ∃ L8, w3.heap.size = L8 := ⟨_, rfl⟩
      have hLr : wr.heap.size ≤ L8 := by have := hg3.size; omega
      have hpL : L8 ≠ p := by omega
      have hNL : w.heap.size ≤ L8 := by omega
      have HA := hid (show Blk (w3.alloc (.cells #[.int .i64 (byteS (l1, 0) : Nat), .int .i64 0, .string ⟨#[]⟩] 62)) 62 L8 [.int .i64 (byteS (l1, 0) : Nat), .int .i64 0, .string ⟨#[]⟩] by rw [← hL8]; exact Blk.new w3 _ _)
      have HR4 := hid (hR3.later ((Below.refl _ _).alloc (Nat.le_refl _) (.cells #[.int .i64 (byteS (l1, 0) : Nat), .int .i64 0, .string ⟨#[]⟩] 62)))
      have HG4 := hid (show wr.grownBy (w3.alloc (.cells #[.int .i64 (byteS (l1, 0) : Nat), .int .i64 0, .string ⟨#[]⟩] 62)) (some p) from grown_alloc HG3.out _)
      clear hR3 hg3 HG3 c2
      go_wp2_with fail
      try rw [hL8]
      generalize w3.alloc (.cells #[.int .i64 (byteS (l1, 0) : Nat), .int .i64 0, .string ⟨#[]⟩] 62) = w4 at *
      refine (frInt_any p (nextS (l1, 0)) _ HR4.out).mono ?_
      rintro _ w5 ⟨rfl, hR5, hg5⟩
      change FR w.heap.size w5 p (intN (nextS (l1, 0))) at hR5
      rw [show intR (jn 8 0 0 (nextS (l1, 0))) = intV (nextS (l1, 0)) from rfl]
      have HA5 := hid (HA.out.grownAt hg5 hpL)
      have c1 := HA5.out.cell (j := 1) rfl
      have f1 := HA5.out.frozen 1
      have HR6 := hid (hR5.apart (grownC w5 L8 1 (.int .i64 (intV (nextS (l1, 0))))) hNL (fun e => hpL e.symm))
      have HG6 := hid (grownBy_own hLr (grownT HG4.out hg5) 1 (.int .i64 (intV (nextS (l1, 0)))))
      have HA6 := hid (HA5.out.setCell 1 (.int .i64 (intV (nextS (l1, 0)))))
      clear hR5 hg5 HA HR4 HG4 HA5
      go_wp2_with fail
      generalize w5.setCell ⟨L8, 1, none⟩ (.int .i64 (intV (nextS (l1, 0)))) = w6 at *
      refine (frText_any p (intN (nextS (l1, 0))) _ HR6.out).mono ?_
      rintro _ w7 ⟨rfl, hR7, hg7⟩
      change FR w.heap.size w7 p (partN (l1, 0)) at hR7
      rw [show (textR (jn 2 0 0 (intN (nextS (l1, 0))))).1 = txtV (intN (nextS (l1, 0))) from rfl]
      obtain ⟨X, hX⟩ : ∃ X : ByteArray, (⟨(txtV (intN (nextS (l1, 0)))).toArray⟩ : ByteArray) = X := ⟨_, rfl⟩
      rw [hX]
      have HA7 := hid (HA6.out.grownAt hg7 hpL)
      clear c1 f1
      have c0 := HA7.out.cell (j := 0) rfl
      have c1 := HA7.out.cell (j := 1) rfl
      have c2 := HA7.out.cell (j := 2) rfl
      have f2 := HA7.out.frozen 2
      have HPV := hid (show partV (l1, 0) = ⟨byteS (l1, 0), intV (nextS (l1, 0)), X⟩ by rw [partV, hX])
      obtain ⟨kv, hkv⟩ : ∃ kv : Int, ((byteS (l1, 0) : Nat) : Int) = kv := ⟨_, rfl⟩
      obtain ⟨nv, hnv⟩ : ∃ nv : Int, intV (nextS (l1, 0)) = nv := ⟨_, rfl⟩
      rw [hkv, hnv] at HPV
      rw [hkv] at c0
      rw [hnv] at c1
      have HR8 := hid (hR7.apart (grownC w7 L8 2 (.string X)) hNL (fun e => hpL e.symm))
      have HG8 := hid (grownBy_own hLr (grownT HG6.out hg7) 2 (.string X))
      obtain ⟨w8, hw8⟩ : ∃ w8, w7.setCell ⟨L8, 2, none⟩ (.string X) = w8 := ⟨_, rfl⟩
      rw [hw8] at HR8 HG8
      have hs8 : wr.heap.size ≤ w8.heap.size := HG8.out.size
      have HRA := hid (HR8.out.later ((Below.refl _ _).alloc (Nat.le_refl _) (.cells #[.int .i64 kv, .int .i64 nv, .string X] 62)))
      have HGA := hid (show wr.grownBy (w8.alloc (.cells #[.int .i64 kv, .int .i64 nv, .string X] 62)) (some p) from grown_alloc HG8.out _)
      have HHA := hid (show HasC (w8.alloc (.cells #[.int .i64 kv, .int .i64 nv, .string X] 62)) (p + 1) (.slice av acc.length cv) acc from HH.out.grownAt HGA.out (Nat.lt_succ_self p))
      have HNA := hid (show RC (w8.alloc (.cells #[.int .i64 kv, .int .i64 nv, .string X] 62)) (.slice (some ⟨w8.heap.size, 0, none⟩) 1 1) [⟨kv, nv, X⟩] from (one_new w8 ⟨kv, nv, X⟩ w.heap.size (by omega)).reads)
      have hsA : p + 1 ≤ (w8.alloc (.cells #[.int .i64 kv, .int .i64 nv, .string X] 62)).heap.size := by have := HGA.out.size; omega
      have HbA := hid (show Below w.heap.size w (w8.alloc (.cells #[.int .i64 kv, .int .i64 nv, .string X] 62)) from below_at Hb.out HGA.out hp)
      clear hR7 hg7 HR6 HG6 HA6 HA7 hX HR8 HG8 HH
      rw [← hw8] at HRA HGA HHA HNA hsA HbA hs8
      rw [show (w7.setCell ⟨L8, 2, none⟩ (.string X)).heap.size = w7.heap.size by simp [World.setCell]] at HNA
      clear hw8 hs8
      go_wp2_with (at_builtin; go_must (refine wpList_append_c rfl _ _ rfl (p + 1) _ acc rfl HHA.out hsA _ [⟨kv, nv, X⟩] rfl HNA.out (by simp; omega) ?_); intro v9 w9 hH9 hb9)
      have HR9 := hid (HRA.out.below hb9 (by omega) (Nat.lt_succ_self p))
      have HH9 := hid hH9
      have Hb9 := hid (HbA.out.trans (hb9.mono (show w.heap.size ≤ p + 1 by omega)))
      have hp9 : p < w9.heap.size := by have := hb9.size; omega
      clear hH9 hb9 HRA HHA HbA HNA HGA
      obtain ⟨a9, c9, rfl⟩ := HH9.out.form
      go_roundw
      case rel =>
        exact ⟨k, acc.length + 1, partN (l1, 0), acc ++ [⟨kv, nv, X⟩], by go_num, by simp, by have := HJ.out; omega, HR9.out, HH9.out, Hb9.out, hp9, by have h := HV.out; rw [partsV, HPV.out] at h; simpa using h, HE.out⟩
      case measure => simp [intOf]; omega
end Go.Proofs.YtinifnpajkldbaaDoor

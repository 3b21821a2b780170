/- The contract of the second say's OpParse (chapter 8). -/
import Derived.Test.YtajkjbhfkeakhaaRRead
import Derived.Test.YtajkjbhfkeakhaaRefChk
namespace Go.Proofs.Ytajkjbhfkeakhaa
open Go.RowKit
set_option linter.unusedSimpArgs false
set_option linter.unusedVariables false

section
variable {N : Nat}
theorem FR.err {w : World} {p : Nat} {s : St} (h : FR N w p s) : w.cell? ⟨p, 2, none⟩ = some (.int .i64 s.2) := by
  obtain ⟨ao, cap, b, P, hh, _⟩ := h
  exact (cells3 hh).2.2.1
theorem FR.below {w w' : World} {Bd p : Nat} {s : St} (h : FR N w p s) (hb : Below Bd w w') (hN : N ≤ Bd) (hp : p < Bd) : FR N w' p s := by
  obtain ⟨ao, cap, b, P, hh, hr, r⟩ := h
  exact ⟨ao, cap, b, P, by rw [hb.block p hp]; exact hh, hr.below hb hN, r⟩
theorem FR.drew {w : World} {p : Nat} {s : St} (h : FR N w p s) : FR N w.drew p s := h.later ⟨rfl, rfl, rfl, Nat.le_refl _, fun _ _ => rfl⟩
end

set_option maxRecDepth 100000 in
set_option maxHeartbeats 4000000 in
theorem rOpParse_any (v : Value) (b : List UInt8) (w : World) (hr : Reads w v (B b)) (hb : b.length ≤ 140737488355328) :
    Calls Try.prog 19 #[v] w fun e w' => ∃ v', e = .returned (.tuple #[v', .int .i64 (opP b).2]) ∧ HasC w' w.heap.size v' (opP b).1 ∧ Below w.heap.size w w' := by
  go_enter Try.func19, Try.ntmps19
  go_wp2_with fail
  refine (frNew_any v b _ hr hb).mono ?_
  rintro _ w1 ⟨p, rfl, hp, hR1, hb1⟩
  have HR1 := hid hR1
  have Hb1 := hid hb1
  clear hR1 hb1 hr
  go_wp2_with fail
  refine (frByte_any p (b, 0) _ HR1.out).mono ?_
  rintro _ w2 ⟨rfl, hR2, hg2⟩
  obtain ⟨n, hn⟩ : ∃ n, byteS (b, 0) = n := ⟨_, rfl⟩
  rw [hn]
  have HR2 := hid hR2
  have Hb2 := hid (below_at Hb1.out hg2 hp)
  clear hR2 hg2 HR1 Hb1
  by_cases h40 : 40 < n
  · have h40' : (40 : Int) < (n : Int) := by omega
    have HO := hid (show opP b = ([], 4) by rw [opP, hn, if_pos h40])
    go_wp2_with fail
    refine (frFail_any p (nextS (b, 0)) 4 _ HR2.out).mono ?_
    rintro _ w3 ⟨rfl, hR3, hg3⟩
    have hs : failS (nextS (b, 0)) 4 = ([], 4) := by
      cases b with
      | nil => simp [byteS] at hn; omega
      | cons x r => simp [nextS, failS]
    rw [hs] at hR3
    have HR3 := hid hR3
    have Hb3 := hid (below_at Hb2.out hg3 hp)
    have c2 := HR3.out.err
    simp only at c2
    clear hR3 hg3 hs hn h40 HR2 Hb2
    have hn0 : (0 : Int) < (n : Int) := by omega
    go_wp2_with fail
    go_loopw [7] (fun i wr => i = .int .i64 0 ∧ wr = w3) (fun _ _ => 0)
    case atStart => exact ⟨rfl, rfl⟩
    case round =>
      obtain ⟨rfl, hwr⟩ := hrel
      subst wr
      go_wp2_with fail
      refine (frEnd_any p ([], 4) _ HR3.out).mono ?_
      rintro _ w4 ⟨rfl, m, hw4⟩
      rw [show endS ([], (4 : Int)) = 4 from rfl, hw4]
      have Hb4 := hid (show Below w.heap.size w (w3.drewN m) from ⟨Hb3.out.os, Hb3.out.tape, Hb3.out.output, Hb3.out.size, Hb3.out.block⟩)
      clear hw4
      go_wp2_with fail
      go_ret2
      rw [HO.out]
      exact ⟨_, rfl, HasC.nil _ _, Hb4.out⟩
  have h40' : ¬ (40 : Int) < (n : Int) := by omega
  have hn40 : n ≤ 40 := by omega
  have HO := hid (show opP b = if endS (partsE n (nextS (b, 0))) ≠ 0 then ([], endS (partsE n (nextS (b, 0)))) else if chkS (partsV n (nextS (b, 0))) ≠ 0 then ([], chkS (partsV n (nextS (b, 0)))) else (partsV n (nextS (b, 0)), 0) by rw [opP, hn, if_neg h40])
  have HZ := hid (partsV_size n (nextS (b, 0)))
  have hpb : p < w2.heap.size := HR2.out.lt
  clear hn h40
  go_wp2_with fail
  go_loopw [6, 7, 8] (fun ov i cv wr => ∃ (k j : Nat) (s1 : St) (acc : List Cp), i = .int .i64 j ∧ acc.length = j ∧ j + k = n ∧ FR w.heap.size wr p s1 ∧ HasC wr (p + 1) ov acc ∧ Below w.heap.size w wr ∧ p < wr.heap.size ∧ acc ++ partsV k s1 = partsV n (nextS (b, 0)) ∧ partsE k s1 = partsE n (nextS (b, 0))) (fun _ i _ _ => n - (intOf i).toNat)
  case atStart => exact ⟨n, 0, nextS (b, 0), [], rfl, rfl, by omega, HR2.out, HasC.nil _ _, Hb2.out, hpb, rfl, rfl⟩
  case round =>
    obtain ⟨k, j, s1, acc, rfl, hacc, hjk, hR, hH, hbr, hpr, hV, hE⟩ := hrel
    obtain ⟨av, cv, rfl⟩ := hH.form
    have c2 := hR.err
    have HR := hid hR
    have HH := hid hH
    have Hb := hid hbr
    have HV := hid hV
    have HE := hid hE
    subst hacc
    have HJ := hid hjk
    have hal : acc.length ≤ 40 := by omega
    clear hR hH hbr hV hE HR2 Hb2 hjk
    obtain ⟨l1, e1⟩ := s1
    simp only at c2
    by_cases hk : k = 0
    · -- all were read
      subst hk
      have hlt : ¬ (acc.length : Int) < (n : Int) := by have := HJ.out; omega
      have hEE := HE.out
      have hVV := HV.out
      simp only [partsE, partsV, List.append_nil] at hEE hVV
      rw [← hEE, ← hVV] at HO
      rw [← hVV] at HZ
      have HO2 := HO
      have HZ2 := HZ
      clear hEE hVV HO HZ HE HV
      go_wp2_with fail
      refine (frEnd_any p (l1, e1) _ HR.out).mono ?_
      rintro _ w4 ⟨rfl, m, hw4⟩
      rw [hw4]
      have HH4 := hid (show HasC (wr.drewN m) w.heap.size (.slice av acc.length cv) acc from (HH.out.later ⟨rfl, rfl, rfl, Nat.le_refl _, fun _ _ => rfl⟩).mono (by omega))
      have Hb4 := hid (show Below w.heap.size w (wr.drewN m) from ⟨Hb.out.os, Hb.out.tape, Hb.out.output, Hb.out.size, Hb.out.block⟩)
      generalize wr.drewN m = w5 at *
      clear hw4 HR HH Hb c2 hpr
      obtain ⟨e, he⟩ : ∃ e, endS (l1, e1) = e := ⟨_, rfl⟩
      rw [he] at HO2 ⊢
      clear he
      by_cases h0 : e = 0
      · subst h0
        go_wp2_with fail
        refine (refCheck_any _ acc _ HH4.out.reads (fun c hc => by have := HZ2.out c hc; omega) (by omega)).mono ?_
        rintro _ w6 ⟨rfl, hb6⟩
        have HH6 := hid (HH4.out.later hb6)
        have Hb6 := hid (show Below w.heap.size w w6 from below_seq Hb4.out hb6)
        clear hb6 HH4 Hb4
        obtain ⟨r, hr⟩ : ∃ r, chkS acc = r := ⟨_, rfl⟩
        rw [hr] at HO2 ⊢
        clear hr
        by_cases hr0 : r = 0
        · subst hr0
          have HO3 := hid (show opP b = (acc, 0) by rw [HO2.out, if_neg (fun h => h rfl), if_neg (fun h => h rfl)])
          clear HO2
          go_wp2_with fail
          go_ret2
          rw [HO3.out]
          exact ⟨_, rfl, HH6.out, Hb6.out⟩
        · have hne : (r == 0) = false := by simpa using hr0
          have HO3 := hid (show opP b = ([], r) by rw [HO2.out, if_neg (fun h => h rfl), if_pos hr0])
          clear HO2
          go_wp2_with fail
          go_ret2
          rw [HO3.out]
          exact ⟨_, rfl, HasC.nil _ _, Hb6.out⟩
      · have hne : (e == 0) = false := by simpa using h0
        have HO3 := hid (show opP b = ([], e) by rw [HO2.out, if_pos h0])
        clear HO2
        go_wp2_with fail
        go_ret2
        rw [HO3.out]
        exact ⟨_, rfl, HasC.nil _ _, Hb4.out⟩
    · have hlt : (acc.length : Int) < (n : Int) := by have := HJ.out; omega
      by_cases he : e1 = 0
      case neg =>
        have hne : (e1 == 0) = false := by simpa using he
        have hPE := HE.out
        rw [parts_err k (s := (l1, e1)) he] at hPE
        have hEnd : endS (l1, e1) = e1 := endS_err (s := (l1, e1)) he
        have HO2 := hid (show opP b = ([], e1) by rw [HO.out, ← hPE, hEnd, if_pos he])
        clear hPE HO
        go_wp2_with fail
        refine (frEnd_any p (l1, e1) _ HR.out).mono ?_
        rintro _ w4 ⟨rfl, m, hw4⟩
        rw [hw4, hEnd]
        have Hb4 := hid (show Below w.heap.size w (wr.drewN m) from ⟨Hb.out.os, Hb.out.tape, Hb.out.output, Hb.out.size, Hb.out.block⟩)
        clear hw4 hEnd
        go_wp2_with fail
        go_ret2
        rw [HO2.out]
        exact ⟨_, rfl, HasC.nil _ _, Hb4.out⟩
      subst he
      obtain ⟨k, rfl⟩ : ∃ k', k = k' + 1 := ⟨k - 1, by omega⟩
      go_wp2_with fail
      refine (frByte_any p (l1, 0) _ HR.out).mono ?_
      rintro _ w3 ⟨rfl, hR3, hg3⟩
      have HG3 := hid hg3
      obtain ⟨L8, hL8⟩ : ∃ L8, w3.heap.size = L8 := ⟨_, rfl⟩
      have hLr : wr.heap.size ≤ L8 := by have := hg3.size; omega
      have hpL : L8 ≠ p := by omega
      have hNL : w.heap.size ≤ L8 := by omega
      have HA := hid (show Blk (w3.alloc (.cells #[.int .i64 (byteS (l1, 0) : Nat), .int .i64 0, .string ⟨#[]⟩] 55)) 55 L8 [.int .i64 (byteS (l1, 0) : Nat), .int .i64 0, .string ⟨#[]⟩] by rw [← hL8]; exact Blk.new w3 _ _)
      have HR4 := hid (hR3.later ((Below.refl _ _).alloc (Nat.le_refl _) (.cells #[.int .i64 (byteS (l1, 0) : Nat), .int .i64 0, .string ⟨#[]⟩] 55)))
      have HG4 := hid (show wr.grownBy (w3.alloc (.cells #[.int .i64 (byteS (l1, 0) : Nat), .int .i64 0, .string ⟨#[]⟩] 55)) (some p) from grown_alloc HG3.out _)
      clear hR3 hg3 HG3 c2
      go_wp2_with fail
      try rw [hL8]
      generalize w3.alloc (.cells #[.int .i64 (byteS (l1, 0) : Nat), .int .i64 0, .string ⟨#[]⟩] 55) = w4 at *
      refine (frInt_any p (nextS (l1, 0)) _ HR4.out).mono ?_
      rintro _ w5 ⟨rfl, hR5, hg5⟩
      change FR w.heap.size w5 p (intN (nextS (l1, 0))) at hR5
      rw [show intR (jn 8 0 0 (nextS (l1, 0))) = intV (nextS (l1, 0)) from rfl]
      have HA5 := hid (HA.out.grownAt hg5 hpL)
      have c1 := HA5.out.cell (j := 1) rfl
      have f1 := HA5.out.frozen 1
      have HR6 := hid (hR5.apart (grownC w5 L8 1 (.int .i64 (intV (nextS (l1, 0))))) hNL (fun e => hpL e.symm))
      have HG6 := hid (grownBy_own hLr (grownT HG4.out hg5) 1 (.int .i64 (intV (nextS (l1, 0)))))
      have HA6 := hid (HA5.out.setCell 1 (.int .i64 (intV (nextS (l1, 0)))))
      clear hR5 hg5 HA HR4 HG4 HA5
      go_wp2_with fail
      generalize w5.setCell ⟨L8, 1, none⟩ (.int .i64 (intV (nextS (l1, 0)))) = w6 at *
      refine (frText_any p (intN (nextS (l1, 0))) _ HR6.out).mono ?_
      rintro _ w7 ⟨rfl, hR7, hg7⟩
      change FR w.heap.size w7 p (partN (l1, 0)) at hR7
      rw [show (textR (jn 2 0 0 (intN (nextS (l1, 0))))).1 = txtV (intN (nextS (l1, 0))) from rfl]
      obtain ⟨X, hX⟩ : ∃ X : ByteArray, (⟨(txtV (intN (nextS (l1, 0)))).toArray⟩ : ByteArray) = X := ⟨_, rfl⟩
      rw [hX]
      have HA7 := hid (HA6.out.grownAt hg7 hpL)
      clear c1 f1
      have c0 := HA7.out.cell (j := 0) rfl
      have c1 := HA7.out.cell (j := 1) rfl
      have c2 := HA7.out.cell (j := 2) rfl
      have f2 := HA7.out.frozen 2
      have HPV := hid (show partV (l1, 0) = ⟨byteS (l1, 0), intV (nextS (l1, 0)), X⟩ by rw [partV, hX])
      obtain ⟨kv, hkv⟩ : ∃ kv : Int, ((byteS (l1, 0) : Nat) : Int) = kv := ⟨_, rfl⟩
      obtain ⟨nv, hnv⟩ : ∃ nv : Int, intV (nextS (l1, 0)) = nv := ⟨_, rfl⟩
      rw [hkv, hnv] at HPV
      rw [hkv] at c0
      rw [hnv] at c1
      have HR8 := hid (hR7.apart (grownC w7 L8 2 (.string X)) hNL (fun e => hpL e.symm))
      have HG8 := hid (grownBy_own hLr (grownT HG6.out hg7) 2 (.string X))
      obtain ⟨w8, hw8⟩ : ∃ w8, w7.setCell ⟨L8, 2, none⟩ (.string X) = w8 := ⟨_, rfl⟩
      rw [hw8] at HR8 HG8
      have hs8 : wr.heap.size ≤ w8.heap.size := HG8.out.size
      have HRA := hid (HR8.out.later ((Below.refl _ _).alloc (Nat.le_refl _) (.cells #[.int .i64 kv, .int .i64 nv, .string X] 55)))
      have HGA := hid (show wr.grownBy (w8.alloc (.cells #[.int .i64 kv, .int .i64 nv, .string X] 55)) (some p) from grown_alloc HG8.out _)
      have HHA := hid (show HasC (w8.alloc (.cells #[.int .i64 kv, .int .i64 nv, .string X] 55)) (p + 1) (.slice av acc.length cv) acc from HH.out.grownAt HGA.out (Nat.lt_succ_self p))
      have HNA := hid (show RC (w8.alloc (.cells #[.int .i64 kv, .int .i64 nv, .string X] 55)) (.slice (some ⟨w8.heap.size, 0, none⟩) 1 1) [⟨kv, nv, X⟩] from (one_new w8 ⟨kv, nv, X⟩ w.heap.size (by omega)).reads)
      have hsA : p + 1 ≤ (w8.alloc (.cells #[.int .i64 kv, .int .i64 nv, .string X] 55)).heap.size := by have := HGA.out.size; omega
      have HbA := hid (show Below w.heap.size w (w8.alloc (.cells #[.int .i64 kv, .int .i64 nv, .string X] 55)) from below_at Hb.out HGA.out hp)
      clear hR7 hg7 HR6 HG6 HA6 HA7 hX HR8 HG8 HH
      rw [← hw8] at HRA HGA HHA HNA hsA HbA hs8
      rw [show (w7.setCell ⟨L8, 2, none⟩ (.string X)).heap.size = w7.heap.size by simp [World.setCell]] at HNA
      clear hw8 hs8
      go_wp2_with (at_builtin; go_must (refine wpList_append_c rfl _ _ rfl (p + 1) _ acc rfl HHA.out hsA _ [⟨kv, nv, X⟩] rfl HNA.out (by simp; omega) ?_); intro v9 w9 hH9 hb9)
      have HR9 := hid (HRA.out.below hb9 (by omega) (Nat.lt_succ_self p))
      have HH9 := hid hH9
      have Hb9 := hid (HbA.out.trans (hb9.mono (show w.heap.size ≤ p + 1 by omega)))
      have hp9 : p < w9.heap.size := by have := hb9.size; omega
      clear hH9 hb9 HRA HHA HbA HNA HGA
      obtain ⟨a9, c9, rfl⟩ := HH9.out.form
      go_roundw
      case rel =>
        exact ⟨k, acc.length + 1, partN (l1, 0), acc ++ [⟨kv, nv, X⟩], by go_num, by simp, by have := HJ.out; omega, HR9.out, HH9.out, Hb9.out, hp9, by have h := HV.out; rw [partsV, HPV.out] at h; simpa using h, HE.out⟩
      case measure => simp [intOf]; omega
end Go.Proofs.Ytajkjbhfkeakhaa

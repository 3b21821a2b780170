/- The contracts of what package log reads records with: list, one, failed, stored. -/
import Derived.Test.YtifdoneffnfogabLgRS
import Derived.Test.YtifdoneffnfogabEndR
import Derived.Test.YtifdoneffnfogabMakeB
import Derived.Test.YtifdoneffnfogabKRead
import Derived.Test.YtifdoneffnfogabAppAny
namespace Go.Proofs.Ytifdoneffnfogab
open Go.RowKit
set_option linter.unusedSimpArgs false
set_option linter.unusedVariables false
variable {N : Nat}

theorem RdN.belowN {w w' : World} {ao : Option Addr} {k cap : Nat} {l : List UInt8} (h : RdN N w ao k cap l) (hb : Below N w w') : RdN N w' ao k cap l := ⟨by
  obtain ⟨a, c, e, h1, h2, h3⟩ := h.reads
  injection e with e1 e2 e3
  subst e1 e2 e3
  refine ⟨ao, cap, rfl, h1, h2, fun ad he j u hj => ?_⟩
  have hl : 0 < l.length := by
    have := (List.getElem?_eq_some_iff.1 hj).1
    rw [B_length] at this
    omega
  have h4 := h.blk ad he hl
  have hc : (ad.add j).block = ad.block := by unfold Addr.add; split <;> rfl
  rw [hb.cell (by rw [hc]; exact h4)]
  exact h3 ad he j u hj, h.blk⟩
/-- All below N stays, the Reader's block too. -/
theorem RD.belowN {w w' : World} {p : Nat} {s : St} (h : RD N w p s) (hb : Below N w w') (hp : p < N) : RD N w' p s := by
  obtain ⟨ao, cap, hh, hr⟩ := h
  exact ⟨ao, cap, by rw [hb.block p hp]; exact hh, hr.belowN hb⟩
theorem u8_byte (s : St) : (byteS s : Int) % 256 = ((UInt8.ofNat (byteS s)).toNat : Int) := by
  have := byteS_lt s
  rw [UInt8.toNat_ofNat']
  omega
theorem Blk.setB {w : World} {e : TypeId} {g k : Nat} {got : List UInt8} {b : UInt8} (h : Blk w e g (B (got ++ List.replicate (k + 1) 0))) {at' : Nat} (ha : got.length = at') : Blk (w.setCell ⟨g, at', none⟩ (.int .u8 b.toNat)) e g (B ((got ++ [b]) ++ List.replicate k 0)) := by
  have h1 := h.setCell at' (.int .u8 b.toNat)
  have e1 : (B (got ++ List.replicate (k + 1) 0)).set at' (.int .u8 b.toNat) = B ((got ++ [b]) ++ List.replicate k 0) := by
    rw [List.replicate_succ, B_append, B_append, B_append, List.set_append_right _ _ (by rw [B_length]; omega), B_length, ha, Nat.sub_self]
    simp [B]
  rw [e1] at h1
  exact h1

set_option maxRecDepth 100000 in
set_option maxHeartbeats 1000000 in
theorem list_any (p : Nat) (s : St) (n : Nat) (w : World) (hR : RD N w p s) (hN : N ≤ w.heap.size) (hm : s.1.length ≤ maxLen) (hn : n ≤ 16384) :
    Calls Try.prog 34 #[.func (Fn.func 35) #[.pointer (some ⟨p, 0, none⟩)] #[], .int .i64 n] w fun x w' => ∃ g, x = .returned (.slice (some ⟨g, 0, none⟩) n n) ∧ w.heap.size ≤ g ∧ Blk w' 5 g (B (bys n s).1) ∧ RD N w' p (bys n s).2 ∧ w.grownBy w' (some p) := by
  obtain ⟨i0, hi, hz0, hz1, hz2⟩ := info_parts Try.infoByte
  have HR0 := hid hR
  have HL := hid hR.lt
  have HN := hid hN
  have HM := hid hm
  have hnI : (n : Int) ≤ 16384 := by omega
  clear hR hN hm
  go_enter Try.func34, Try.ntmps34
  go_wp2_with fail
  refine wp_scope_at 0 (fun a' w' => ∃ (got : List UInt8) (at' k : Nat) (s1 : St),
      a' = ⟨#[.func (Fn.func 35) #[.pointer (some ⟨p, 0, none⟩)] #[], .int .i64 n, a'.tmps.getD 2 undef, a'.tmps.getD 3 undef, a'.tmps.getD 4 undef, .slice (some ⟨w.heap.size, 0, none⟩) n n, .int .i64 (at' : Nat), a'.tmps.getD 7 undef, a'.tmps.getD 8 undef, a'.tmps.getD 9 undef, a'.tmps.getD 10 undef, a'.tmps.getD 11 undef, a'.tmps.getD 12 undef, a'.tmps.getD 13 undef, a'.tmps.getD 14 undef, a'.tmps.getD 15 undef, a'.tmps.getD 16 undef, a'.tmps.getD 17 undef, a'.tmps.getD 18 undef, a'.tmps.getD 19 undef, a'.tmps.getD 20 undef], []⟩ ∧
      RD N w' p s1 ∧ s1.1.length ≤ maxLen ∧ w.grownBy w' (some p) ∧ got.length = at' ∧ at' + k = n ∧ Blk w' 5 w.heap.size (B (got ++ List.replicate k 0)) ∧ bys n s = (got ++ (bys k s1).1, (bys k s1).2))
    (fun a' _ => 16400 - (intOf (a'.tmps.getD 6 undef)).toNat) rfl ?pass ?first
  case first =>
    intro hy
    have HY := hid hy
    clear hy
    go_wp2_with (at_make; go_must (refine wpList_make_blk rfl _ _ 31 rfl 5 i0 Try.underlying31 hi hz0 hz1 hz2 .i64 .i64 n rfl rfl (by omega) w.heap.size rfl ?_); go_must (intro w1 hB1 hb1 hs1; have HB1 := hid hB1; have Hb1 := hid hb1; clear hB1 hb1 hs1))
    rename_i hK
    exact wp_label (hK _ _ (HY.out _ _ ⟨[], 0, n, s, rfl, HR0.out.later Hb1.out, HM.out, grown_of_below Hb1.out, rfl, by omega, HB1.out, rfl⟩))
  case pass =>
    rintro a' w' ⟨got, at', k, s1, ha, hR1, hm1, hg1, hgl, hak, hB, he⟩
    obtain ⟨f, ha2⟩ : ∃ f : Nat → Value, a' = ⟨#[.func (Fn.func 35) #[.pointer (some ⟨p, 0, none⟩)] #[], .int .i64 n, f 2, f 3, f 4, .slice (some ⟨w.heap.size, 0, none⟩) n n, .int .i64 (at' : Nat), f 7, f 8, f 9, f 10, f 11, f 12, f 13, f 14, f 15, f 16, f 17, f 18, f 19, f 20], []⟩ := ⟨fun j => a'.tmps.getD j undef, ha⟩
    clear ha
    subst ha2
    have HG := hid hgl
    have HA := hid hak
    have HB := hid hB
    have HE := hid he
    have HG1 := hid hg1
    cases k with
    | zero =>
      have ht : ((at' : Int) == (n : Int)) = true := by rw [beq_iff_eq]; omega
      clear hgl hak hB he hg1
      go_wp2_with fail
      simp only [Exit.jump]
      go_ret
      refine ⟨w.heap.size, rfl, Nat.le_refl _, ?_, ?_, HG1.out⟩
      · rw [HE.out]; exact HB.out
      · rw [HE.out]; exact hR1
    | succ k =>
      have ht : ((at' : Int) == (n : Int)) = false := by rw [beq_eq_false_iff_ne]; omega
      have hat : (at' : Int) < n := by omega
      have hat2 : (at' : Int) ≤ 16384 := by omega
      have hat3 : at' < n := by omega
      have HU := hid (u8_byte s1)
      have HNX := hid (show ∀ w2, RD N w2 p (nextS s1) → w'.grownBy w2 (some p) → (∃ u, w2.cell? ⟨w.heap.size, at', none⟩ = some u) ∧ w2.frozen? ⟨w.heap.size, at', none⟩ = false ∧
          RD N (w2.setCell ⟨w.heap.size, at', none⟩ (.int .u8 ((UInt8.ofNat (byteS s1)).toNat : Int))) p (nextS s1) ∧ w.grownBy (w2.setCell ⟨w.heap.size, at', none⟩ (.int .u8 ((UInt8.ofNat (byteS s1)).toNat : Int))) (some p) ∧
          Blk (w2.setCell ⟨w.heap.size, at', none⟩ (.int .u8 ((UInt8.ofNat (byteS s1)).toNat : Int))) 5 w.heap.size (B ((got ++ [UInt8.ofNat (byteS s1)]) ++ List.replicate k 0)) from fun w2 hR2 hg2 => by
        have hne : w.heap.size ≠ p := by have := HL.out; omega
        have hB2 := HB.out.kept (hg2.block w.heap.size HB.out.lt (by simpa using hne))
        refine ⟨⟨_, hB2.cell (List.getElem?_eq_getElem (show at' < _ by rw [B_length, List.length_append, List.length_replicate]; omega))⟩, hB2.frozen _, hR2.apart (grownC _ _ _ _) HN.out (Ne.symm hne), grown_setCell (grownT HG1.out hg2) _ _ _ (.inr (Nat.le_refl _)), hB2.setB HG.out⟩)
      have HEN := hid (show bys n s = ((got ++ [UInt8.ofNat (byteS s1)]) ++ (bys k (nextS s1)).1, (bys k (nextS s1)).2) from by
        rw [HE.out, bys]
        simp)
      clear hgl hak hB he hg1
      go_wp2_with fail
      refine (Byte_any p s1 _ hR1 hm1).mono ?_
      rintro e w2 ⟨rfl, hR2, hg2⟩
      obtain ⟨⟨u, hc⟩, hf, h3, h4, h5⟩ := HNX.out w2 hR2 hg2
      have H3 := hid h3
      have H4 := hid h4
      have H5 := hid h5
      clear h3 h4 h5 hR2 hg2
      go_wp2_with fail
      refine wp_goto ?_
      rw [HU.out]
      exact ⟨rfl, ⟨got ++ [UInt8.ofNat (byteS s1)], at' + 1, k, nextS s1, rfl, H3.out, Nat.le_trans (nextS_len s1) hm1, H4.out, by rw [List.length_append, HG.out]; rfl, by have := HA.out; omega, H5.out, HEN.out⟩, by simp [intOf]; omega⟩

set_option maxRecDepth 100000 in
set_option maxHeartbeats 1000000 in
theorem one_any (p : Nat) (l : List UInt8) (w : World) (hR : RD N w p (l, 0)) (hN : N ≤ w.heap.size) (hm : l.length ≤ maxLen) :
    Calls Try.prog 22 #[.pointer (some ⟨p, 0, none⟩)] w fun x w' => ∃ v, x = .returned v ∧ RD N w' p (oneS l) ∧ w.grownBy w' (some p) ∧
      (¬ Ends l → ∃ g m, v = .slice (some ⟨g, 0, none⟩) m m ∧ (m : Int) = hd l ∧ w.heap.size ≤ g ∧ Blk w' 5 g (B ((l.drop 8).take m))) := by
  obtain ⟨st, hst⟩ : ∃ st, (jn 8 0 0 (l, 0)).2 = st := ⟨_, rfl⟩
  have HI := hid (Int_any p (l, 0) w hR hm)
  have HM := hid (show st.1.length ≤ maxLen by rw [← hst]; exact Nat.le_trans (jn_len 8 0 0 (l, 0)) hm)
  have HN := hid hN
  obtain ⟨z, hz⟩ : ∃ z, intR (jn 8 0 0 (l, 0)) = z := ⟨_, rfl⟩
  have HO := hid (show oneS l = if z < 0 ∨ 16384 < z then failS st 11 else (bys z.toNat st).2 by unfold oneS szS; rw [hz, hst])
  have HW := hid (show ¬ Ends l → z = hd l ∧ 0 ≤ z ∧ z ≤ 16384 ∧ (bys z.toNat st).1 = (l.drop 8).take z.toNat from fun h => by
    obtain ⟨m, h1, h2, h3, h4, h5, h6⟩ := one_whole h
    have e : szS l = z := hz
    rw [e] at h2 h6
    rw [hst] at h6
    refine ⟨by rw [h1, h2], by omega, by omega, ?_⟩
    rw [h6, h2, Int.toNat_natCast])
  rw [hz, hst] at HI
  clear hR hz hst hN
  by_cases h0 : z < 0
  · go_enter Try.func22, Try.ntmps22
    go_wp2_with fail
    refine HI.out.mono ?_
    rintro e w1 ⟨rfl, hR1, hg1⟩
    have HR1 := hid hR1
    have HG1 := hid hg1
    clear hR1 hg1 HI
    go_wp2_with fail
    refine (Fail_any p st 11 _ HR1.out).mono ?_
    rintro e w2 ⟨rfl, hR2, hg2⟩
    have HR2 := hid hR2
    have HG2 := hid (grownT HG1.out hg2)
    clear hR2 hg2
    go_wp2_with fail
    go_ret
    exact ⟨_, rfl, by rw [HO.out, if_pos (Or.inl h0)]; exact HR2.out, HG2.out, fun h => by have := HW.out h; omega⟩
  by_cases h1 : 16384 < z
  · go_enter Try.func22, Try.ntmps22
    go_wp2_with fail
    refine HI.out.mono ?_
    rintro e w1 ⟨rfl, hR1, hg1⟩
    have HR1 := hid hR1
    have HG1 := hid hg1
    clear hR1 hg1 HI
    go_wp2_with fail
    refine (Fail_any p st 11 _ HR1.out).mono ?_
    rintro e w2 ⟨rfl, hR2, hg2⟩
    have HR2 := hid hR2
    have HG2 := hid (grownT HG1.out hg2)
    clear hR2 hg2
    go_wp2_with fail
    go_ret
    exact ⟨_, rfl, by rw [HO.out, if_pos (Or.inr h1)]; exact HR2.out, HG2.out, fun h => by have := HW.out h; omega⟩
  obtain ⟨n, rfl⟩ := Int.eq_ofNat_of_zero_le (show 0 ≤ z by omega)
  have hn : n ≤ 16384 := by omega
  go_enter Try.func22, Try.ntmps22
  go_wp2_with fail
  refine HI.out.mono ?_
  rintro e w1 ⟨rfl, hR1, hg1⟩
  have HR1 := hid hR1
  have HG1 := hid hg1
  clear hR1 hg1 HI
  go_wp2_with fail
  refine (list_any p st n _ HR1.out (Nat.le_trans HN.out HG1.out.size) HM.out hn).mono ?_
  rintro e w2 ⟨g, rfl, hg, hB, hR2, hg2⟩
  have HB := hid hB
  have HR2 := hid hR2
  have HG2 := hid (grownT HG1.out hg2)
  have HGE := hid (Nat.le_trans HG1.out.size hg)
  clear hB hR2 hg2 hg
  go_wp2_with fail
  go_ret
  refine ⟨_, rfl, by rw [HO.out, if_neg (by omega)]; exact HR2.out, HG2.out, fun h => ?_⟩
  obtain ⟨h2, _, _, h3⟩ := HW.out h
  rw [Int.toNat_natCast] at h3
  exact ⟨g, n, rfl, h2, HGE.out, by rw [← h3]; exact HB.out⟩

set_option maxRecDepth 100000 in
set_option maxHeartbeats 1000000 in
theorem failed_any (e : Int) (w : World) : Calls Try.prog 23 #[.int .i64 e] w fun x w' => x = .returned (.bool (decide (e ≠ 0 ∧ e ≠ 9))) ∧ w' = w := by
  by_cases h0 : e = 0
  · subst h0
    go_enter Try.func23, Try.ntmps23
    go_wp2_with fail
    go_ret
    exact ⟨rfl, rfl⟩
  · by_cases h9 : e = 9
    · subst h9
      go_enter Try.func23, Try.ntmps23
      go_wp2_with fail
      go_ret
      exact ⟨rfl, rfl⟩
    · have ht : decide (e ≠ 0 ∧ e ≠ 9) = true := by simp [h0, h9]
      have h1 : (e != 0) = true := by simpa using h0
      have h2 : (e != 9) = true := by simpa using h9
      rw [ht]
      go_enter Try.func23, Try.ntmps23
      go_wp2_with fail
      go_ret
      exact ⟨rfl, rfl⟩

set_option maxRecDepth 100000 in
set_option maxHeartbeats 1000000 in
theorem stored_any (v : Value) (l : List UInt8) (n : Nat) (hln : l.length = n) (w : World) (hv : Reads w v (B l)) (hn : n ≤ 1000000000) :
    Calls Try.prog 19 #[v] w fun x w' => ∃ ao cap, x = .returned (.slice ao (8 + n) cap) ∧ Has w' 5 w.heap.size (.slice ao (8 + n) cap) (8 + n) (B (enc l)) ∧ Below w.heap.size w w' := by
  obtain ⟨i0, hi, hz0, hz1, hz2⟩ := info_parts Try.infoByte
  have HV := hid hv
  obtain ⟨ao, c, rfl, _⟩ := hv
  rw [B_length, hln] at HV ⊢
  have HL := hid hln
  clear hln
  go_enter Try.func19, Try.ntmps19
  go_wp2_with fail
  refine (cInt (.slice none 0 0) [] 0 rfl (n : Int) w (Reads.nil w) (by omega)).mono ?_
  rintro e w1 ⟨g, cap, rfl, hg, ho, hb⟩
  have HO := hid ho
  have HB := hid hb
  have HGE := hid hg
  clear ho hb hg
  go_wp2_with (at_builtin; go_must (refine wpList_append_any rfl _ _ 31 31 rfl 5 i0 (.int .u8 0) Try.underlying31 hi hz0 hz1 hz2 rfl w.heap.size (.slice (some ⟨g, 0, none⟩) (0 + 8) cap) (0 + 8) _ rfl (Or.inr ⟨g, cap, rfl, HGE.out, HO.out⟩) HB.out.size _ n (B l) rfl (Src.ofBytes _ Try.underlying31 HL.out (HV.out.later HB.out)) (by omega) ?_); intro v2 w2 hH2 hb2; have HH2 := hid hH2; have HB2 := hid (HB.out.trans hb2); clear hH2 hb2)
  go_ret
  obtain ⟨ao2, c2, rfl⟩ := HH2.out.form
  refine ⟨ao2, c2, by simp, ?_, HB2.out⟩
  have h := HH2.out
  rw [← B_append] at h
  have e1 : enc l = [] ++ le 8 ((n : Int) % 18446744073709551616).toNat ++ l := by rw [enc, i8, HL.out]; rfl
  rw [e1]
  simpa using h
end Go.Proofs.Ytifdoneffnfogab

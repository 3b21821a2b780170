/- Texts laid together: LgRS, LgR, LgW, LgK. -/
import Derived.Test.YtifdoneffnfogaaLgS
import Derived.Test.YtifdoneffnfogaaEndR
import Derived.Test.YtifdoneffnfogaaMakeB
import Derived.Test.YtifdoneffnfogaaKRead
import Derived.Test.YtifdoneffnfogaaAppAny
import Derived.Test.YtifdoneffnfogaaRowsW
import Derived.Test.YtifdoneffnfogaaKAt0
import Derived.Test.YtifdoneffnfogaaKMore

/- What a Reader reads of records: so many bytes, one record; of no program. -/
namespace Go.Proofs.Ytifdoneffnfogaa
open Go.RowKit
set_option linter.unusedSimpArgs false
set_option linter.unusedVariables false

/-- So many bytes, each as it is read. -/
def bys : Nat → St → List UInt8 × St
  | 0, s => ([], s)
  | k + 1, s => (UInt8.ofNat (byteS s) :: (bys k (nextS s)).1, (bys k (nextS s)).2)
theorem bys_err : ∀ (k : Nat) (s : St), s.2 ≠ 0 → (bys k s).2 = s
  | 0, _, _ => rfl
  | k + 1, s, h => by
    have h1 : nextS s = s := by simp [nextS, h]
    rw [bys, h1]
    exact bys_err k s h
theorem bys_ok : ∀ (k : Nat) (l : List UInt8), k ≤ l.length → bys k (l, 0) = (l.take k, (l.drop k, 0))
  | 0, l, _ => by simp [bys]
  | k + 1, [], h => by simp at h
  | k + 1, b :: r, h => by
    have h1 : nextS (b :: r, 0) = (r, 0) := by simp [nextS]
    have h2 : byteS (b :: r, 0) = b.toNat := by simp [byteS]
    rw [bys, h1, h2, bys_ok k r (by simpa using h)]
    simp
theorem bys_short : ∀ (k : Nat) (l : List UInt8), l.length < k → (bys k (l, 0)).2 = ([], 8)
  | 0, l, h => by simp at h
  | k + 1, [], _ => by
    have h1 : nextS ([], 0) = ([], 8) := by simp [nextS]
    rw [bys, h1]
    exact bys_err k _ (by simp)
  | k + 1, b :: r, h => by
    have h1 : nextS (b :: r, 0) = (r, 0) := by simp [nextS]
    rw [bys, h1]
    exact bys_short k r (by simpa using h)
theorem bys_len : ∀ (k : Nat) (s : St), (bys k s).1.length = k
  | 0, _ => rfl
  | k + 1, s => by rw [bys, List.length_cons, bys_len k]
/-- What a Reader reads as the size of a record. -/
def szS (l : List UInt8) : Int := intR (jn 8 0 0 (l, 0))
theorem sz_short {l : List UInt8} (h : l.length < 8) : (jn 8 0 0 (l, 0)).2 = ([], 8) ∧ szS l = 0 := by
  have h1 := jn_short 8 0 0 l h
  refine ⟨h1, ?_⟩
  unfold szS intR
  rw [h1]
  rfl
theorem sz_long {l : List UInt8} (h : 8 ≤ l.length) : (jn 8 0 0 (l, 0)).2 = (l.drop 8, 0) ∧ szS l = hd l := by
  have h1 := jn_ok 8 0 0 l h
  refine ⟨by rw [h1], ?_⟩
  unfold szS intR
  rw [h1]
  simp only [Nat.zero_add, Nat.pow_zero, Nat.mul_one, if_true]
  rfl
/-- Behind a record: the Reader; what is told where none stands whole has an error. -/
def oneS (l : List UInt8) : St :=
  if szS l < 0 ∨ 16384 < szS l then failS (jn 8 0 0 (l, 0)).2 11 else (bys (szS l).toNat (jn 8 0 0 (l, 0)).2).2
theorem one_ends {l : List UInt8} (h : Ends l) : (oneS l).2 = 8 ∨ (oneS l).2 = 11 := by
  unfold oneS
  by_cases h8 : l.length < 8
  · obtain ⟨h1, h2⟩ := sz_short h8
    rw [h2, if_neg (by omega), h1]
    exact .inl rfl
  · obtain ⟨h1, h2⟩ := sz_long (l := l) (by omega)
    rw [h2, h1]
    by_cases hb : hd l < 0 ∨ 16384 < hd l
    · rw [if_pos hb]
      exact .inr (by simp [failS])
    · rw [if_neg hb]
      rw [bys_short _ _ (by rw [List.length_drop]; unfold Ends at h; omega)]
      exact .inl rfl
theorem one_whole {l : List UInt8} (h : ¬ Ends l) : ∃ m : Nat, hd l = (m : Int) ∧ szS l = (m : Int) ∧ m ≤ 16384 ∧ 8 + m ≤ l.length ∧ oneS l = (l.drop (8 + m), 0) ∧ (bys (szS l).toNat (jn 8 0 0 (l, 0)).2).1 = (l.drop 8).take m := by
  have hn := Ends.not h
  obtain ⟨h1, h2⟩ := sz_long hn.1
  obtain ⟨m, hm⟩ := Int.eq_ofNat_of_zero_le hn.2.1
  have hl : m ≤ (l.drop 8).length := by rw [List.length_drop]; omega
  refine ⟨m, hm, by rw [h2, hm], by omega, by omega, ?_, ?_⟩
  · unfold oneS
    rw [h2, hm, if_neg (by omega), h1, Int.toNat_natCast, bys_ok _ _ hl, List.drop_drop]
  · rw [h2, hm, h1, Int.toNat_natCast, bys_ok _ _ hl]
theorem bys_rest : ∀ (k : Nat) (s : St), (bys k s).2.1.length ≤ s.1.length
  | 0, _ => Nat.le_refl _
  | k + 1, s => Nat.le_trans (bys_rest k (nextS s)) (nextS_len s)
theorem one_rest (l : List UInt8) : (oneS l).1.length ≤ l.length := by
  have h := jn_len 8 0 0 (l, 0)
  unfold oneS
  split
  · unfold failS
    split
    · exact Nat.zero_le _
    · exact h
  · exact Nat.le_trans (bys_rest _ _) h
end Go.Proofs.Ytifdoneffnfogaa

/- The contracts of what package log reads records with: list, one, failed, stored. -/
namespace Go.Proofs.Ytifdoneffnfogaa
open Go.RowKit
set_option linter.unusedSimpArgs false
set_option linter.unusedVariables false
variable {N : Nat}

theorem RdN.belowN {w w' : World} {ao : Option Addr} {k cap : Nat} {l : List UInt8} (h : RdN N w ao k cap l) (hb : Below N w w') : RdN N w' ao k cap l := ⟨by
  obtain ⟨a, c, e, h1, h2, h3⟩ := h.reads
  injection e with e1 e2 e3
  subst e1 e2 e3
  refine ⟨ao, cap, rfl, h1, h2, fun ad he j u hj => ?_⟩
  have hl : 0 < l.length := by
    have := (List.getElem?_eq_some_iff.1 hj).1
    rw [B_length] at this
    omega
  have h4 := h.blk ad he hl
  have hc : (ad.add j).block = ad.block := by unfold Addr.add; split <;> rfl
  rw [hb.cell (by rw [hc]; exact h4)]
  exact h3 ad he j u hj, h.blk⟩
/-- All below N stays, the Reader's block too. -/
theorem RD.belowN {w w' : World} {p : Nat} {s : St} (h : RD N w p s) (hb : Below N w w') (hp : p < N) : RD N w' p s := by
  obtain ⟨ao, cap, hh, hr⟩ := h
  exact ⟨ao, cap, by rw [hb.block p hp]; exact hh, hr.belowN hb⟩
theorem u8_byte (s : St) : (byteS s : Int) % 256 = ((UInt8.ofNat (byteS s)).toNat : Int) := by
  have := byteS_lt s
  rw [UInt8.toNat_ofNat']
  omega
theorem Blk.setB {w : World} {e : TypeId} {g k : Nat} {got : List UInt8} {b : UInt8} (h : Blk w e g (B (got ++ List.replicate (k + 1) 0))) {at' : Nat} (ha : got.length = at') : Blk (w.setCell ⟨g, at', none⟩ (.int .u8 b.toNat)) e g (B ((got ++ [b]) ++ List.replicate k 0)) := by
  have h1 := h.setCell at' (.int .u8 b.toNat)
  have e1 : (B (got ++ List.replicate (k + 1) 0)).set at' (.int .u8 b.toNat) = B ((got ++ [b]) ++ List.replicate k 0) := by
    rw [List.replicate_succ, B_append, B_append, B_append, List.set_append_right _ _ (by rw [B_length]; omega), B_length, ha, Nat.sub_self]
    simp [B]
  rw [e1] at h1
  exact h1

set_option maxRecDepth 100000 in
set_option maxHeartbeats 1000000 in
theorem list_any (p : Nat) (s : St) (n : Nat) (w : World) (hR : RD N w p s) (hN : N ≤ w.heap.size) (hm : s.1.length ≤ maxLen) (hn : n ≤ 16384) :
    Calls Try.prog 60 #[.func (Fn.func 61) #[.pointer (some ⟨p, 0, none⟩)] #[], .int .i64 n] w fun x w' => ∃ g, x = .returned (.slice (some ⟨g, 0, none⟩) n n) ∧ w.heap.size ≤ g ∧ Blk w' 5 g (B (bys n s).1) ∧ RD N w' p (bys n s).2 ∧ w.grownBy w' (some p) := by
  obtain ⟨i0, hi, hz0, hz1, hz2⟩ := info_parts Try.infoByte
  have HR0 := hid hR
  have HL := hid hR.lt
  have HN := hid hN
  have HM := hid hm
  have hnI : (n : Int) ≤ 16384 := by omega
  clear hR hN hm
  go_enter Try.func60, Try.ntmps60
  go_wp2_with fail
  refine wp_scope_at 0 (fun a' w' => ∃ (got : List UInt8) (at' k : Nat) (s1 : St),
      a' = ⟨#[.func (Fn.func 61) #[.pointer (some ⟨p, 0, none⟩)] #[], .int .i64 n, a'.tmps.getD 2 undef, a'.tmps.getD 3 undef, a'.tmps.getD 4 undef, .slice (some ⟨w.heap.size, 0, none⟩) n n, .int .i64 (at' : Nat), a'.tmps.getD 7 undef, a'.tmps.getD 8 undef, a'.tmps.getD 9 undef, a'.tmps.getD 10 undef, a'.tmps.getD 11 undef, a'.tmps.getD 12 undef, a'.tmps.getD 13 undef, a'.tmps.getD 14 undef, a'.tmps.getD 15 undef, a'.tmps.getD 16 undef, a'.tmps.getD 17 undef, a'.tmps.getD 18 undef, a'.tmps.getD 19 undef, a'.tmps.getD 20 undef], []⟩ ∧
      RD N w' p s1 ∧ s1.1.length ≤ maxLen ∧ w.grownBy w' (some p) ∧ got.length = at' ∧ at' + k = n ∧ Blk w' 5 w.heap.size (B (got ++ List.replicate k 0)) ∧ bys n s = (got ++ (bys k s1).1, (bys k s1).2))
    (fun a' _ => 16400 - (intOf (a'.tmps.getD 6 undef)).toNat) rfl ?pass ?first
  case first =>
    intro hy
    have HY := hid hy
    clear hy
    go_wp2_with (at_make; go_must (refine wpList_make_blk rfl _ _ 37 rfl 5 i0 Try.underlying37 hi hz0 hz1 hz2 .i64 .i64 n rfl rfl (by omega) w.heap.size rfl ?_); go_must (intro w1 hB1 hb1 hs1; have HB1 := hid hB1; have Hb1 := hid hb1; clear hB1 hb1 hs1))
    rename_i hK
    exact wp_label (hK _ _ (HY.out _ _ ⟨[], 0, n, s, rfl, HR0.out.later Hb1.out, HM.out, grown_of_below Hb1.out, rfl, by omega, HB1.out, rfl⟩))
  case pass =>
    rintro a' w' ⟨got, at', k, s1, ha, hR1, hm1, hg1, hgl, hak, hB, he⟩
    obtain ⟨f, ha2⟩ : ∃ f : Nat → Value, a' = ⟨#[.func (Fn.func 61) #[.pointer (some ⟨p, 0, none⟩)] #[], .int .i64 n, f 2, f 3, f 4, .slice (some ⟨w.heap.size, 0, none⟩) n n, .int .i64 (at' : Nat), f 7, f 8, f 9, f 10, f 11, f 12, f 13, f 14, f 15, f 16, f 17, f 18, f 19, f 20], []⟩ := ⟨fun j => a'.tmps.getD j undef, ha⟩
    clear ha
    subst ha2
    have HG := hid hgl
    have HA := hid hak
    have HB := hid hB
    have HE := hid he
    have HG1 := hid hg1
    cases k with
    | zero =>
      have ht : ((at' : Int) == (n : Int)) = true := by rw [beq_iff_eq]; omega
      clear hgl hak hB he hg1
      go_wp2_with fail
      simp only [Exit.jump]
      go_ret
      refine ⟨w.heap.size, rfl, Nat.le_refl _, ?_, ?_, HG1.out⟩
      · rw [HE.out]; exact HB.out
      · rw [HE.out]; exact hR1
    | succ k =>
      have ht : ((at' : Int) == (n : Int)) = false := by rw [beq_eq_false_iff_ne]; omega
      have hat : (at' : Int) < n := by omega
      have hat2 : (at' : Int) ≤ 16384 := by omega
      have hat3 : at' < n := by omega
      have HU := hid (u8_byte s1)
      have HNX := hid (show ∀ w2, RD N w2 p (nextS s1) → w'.grownBy w2 (some p) → (∃ u, w2.cell? ⟨w.heap.size, at', none⟩ = some u) ∧ w2.frozen? ⟨w.heap.size, at', none⟩ = false ∧
          RD N (w2.setCell ⟨w.heap.size, at', none⟩ (.int .u8 ((UInt8.ofNat (byteS s1)).toNat : Int))) p (nextS s1) ∧ w.grownBy (w2.setCell ⟨w.heap.size, at', none⟩ (.int .u8 ((UInt8.ofNat (byteS s1)).toNat : Int))) (some p) ∧
          Blk (w2.setCell ⟨w.heap.size, at', none⟩ (.int .u8 ((UInt8.ofNat (byteS s1)).toNat : Int))) 5 w.heap.size (B ((got ++ [UInt8.ofNat (byteS s1)]) ++ List.replicate k 0)) from fun w2 hR2 hg2 => by
        have hne : w.heap.size ≠ p := by have := HL.out; omega
        have hB2 := HB.out.kept (hg2.block w.heap.size HB.out.lt (by simpa using hne))
        refine ⟨⟨_, hB2.cell (List.getElem?_eq_getElem (show at' < _ by rw [B_length, List.length_append, List.length_replicate]; omega))⟩, hB2.frozen _, hR2.apart (grownC _ _ _ _) HN.out (Ne.symm hne), grown_setCell (grownT HG1.out hg2) _ _ _ (.inr (Nat.le_refl _)), hB2.setB HG.out⟩)
      have HEN := hid (show bys n s = ((got ++ [UInt8.ofNat (byteS s1)]) ++ (bys k (nextS s1)).1, (bys k (nextS s1)).2) from by
        rw [HE.out, bys]
        simp)
      clear hgl hak hB he hg1
      go_wp2_with fail
      refine (Byte_any p s1 _ hR1 hm1).mono ?_
      rintro e w2 ⟨rfl, hR2, hg2⟩
      obtain ⟨⟨u, hc⟩, hf, h3, h4, h5⟩ := HNX.out w2 hR2 hg2
      have H3 := hid h3
      have H4 := hid h4
      have H5 := hid h5
      clear h3 h4 h5 hR2 hg2
      go_wp2_with fail
      refine wp_goto ?_
      rw [HU.out]
      exact ⟨rfl, ⟨got ++ [UInt8.ofNat (byteS s1)], at' + 1, k, nextS s1, rfl, H3.out, Nat.le_trans (nextS_len s1) hm1, H4.out, by rw [List.length_append, HG.out]; rfl, by have := HA.out; omega, H5.out, HEN.out⟩, by simp [intOf]; omega⟩

set_option maxRecDepth 100000 in
set_option maxHeartbeats 1000000 in
theorem one_any (p : Nat) (l : List UInt8) (w : World) (hR : RD N w p (l, 0)) (hN : N ≤ w.heap.size) (hm : l.length ≤ maxLen) :
    Calls Try.prog 51 #[.pointer (some ⟨p, 0, none⟩)] w fun x w' => ∃ v, x = .returned v ∧ RD N w' p (oneS l) ∧ w.grownBy w' (some p) ∧
      (¬ Ends l → ∃ g m, v = .slice (some ⟨g, 0, none⟩) m m ∧ (m : Int) = hd l ∧ w.heap.size ≤ g ∧ Blk w' 5 g (B ((l.drop 8).take m))) := by
  obtain ⟨st, hst⟩ : ∃ st, (jn 8 0 0 (l, 0)).2 = st := ⟨_, rfl⟩
  have HI := hid (Int_any p (l, 0) w hR hm)
  have HM := hid (show st.1.length ≤ maxLen by rw [← hst]; exact Nat.le_trans (jn_len 8 0 0 (l, 0)) hm)
  have HN := hid hN
  obtain ⟨z, hz⟩ : ∃ z, intR (jn 8 0 0 (l, 0)) = z := ⟨_, rfl⟩
  have HO := hid (show oneS l = if z < 0 ∨ 16384 < z then failS st 11 else (bys z.toNat st).2 by unfold oneS szS; rw [hz, hst])
  have HW := hid (show ¬ Ends l → z = hd l ∧ 0 ≤ z ∧ z ≤ 16384 ∧ (bys z.toNat st).1 = (l.drop 8).take z.toNat from fun h => by
    obtain ⟨m, h1, h2, h3, h4, h5, h6⟩ := one_whole h
    have e : szS l = z := hz
    rw [e] at h2 h6
    rw [hst] at h6
    refine ⟨by rw [h1, h2], by omega, by omega, ?_⟩
    rw [h6, h2, Int.toNat_natCast])
  rw [hz, hst] at HI
  clear hR hz hst hN
  by_cases h0 : z < 0
  · go_enter Try.func51, Try.ntmps51
    go_wp2_with fail
    refine HI.out.mono ?_
    rintro e w1 ⟨rfl, hR1, hg1⟩
    have HR1 := hid hR1
    have HG1 := hid hg1
    clear hR1 hg1 HI
    go_wp2_with fail
    refine (Fail_any p st 11 _ HR1.out).mono ?_
    rintro e w2 ⟨rfl, hR2, hg2⟩
    have HR2 := hid hR2
    have HG2 := hid (grownT HG1.out hg2)
    clear hR2 hg2
    go_wp2_with fail
    go_ret
    exact ⟨_, rfl, by rw [HO.out, if_pos (Or.inl h0)]; exact HR2.out, HG2.out, fun h => by have := HW.out h; omega⟩
  by_cases h1 : 16384 < z
  · go_enter Try.func51, Try.ntmps51
    go_wp2_with fail
    refine HI.out.mono ?_
    rintro e w1 ⟨rfl, hR1, hg1⟩
    have HR1 := hid hR1
    have HG1 := hid hg1
    clear hR1 hg1 HI
    go_wp2_with fail
    refine (Fail_any p st 11 _ HR1.out).mono ?_
    rintro e w2 ⟨rfl, hR2, hg2⟩
    have HR2 := hid hR2
    have HG2 := hid (grownT HG1.out hg2)
    clear hR2 hg2
    go_wp2_with fail
    go_ret
    exact ⟨_, rfl, by rw [HO.out, if_pos (Or.inr h1)]; exact HR2.out, HG2.out, fun h => by have := HW.out h; omega⟩
  obtain ⟨n, rfl⟩ := Int.eq_ofNat_of_zero_le (show 0 ≤ z by omega)
  have hn : n ≤ 16384 := by omega
  go_enter Try.func51, Try.ntmps51
  go_wp2_with fail
  refine HI.out.mono ?_
  rintro e w1 ⟨rfl, hR1, hg1⟩
  have HR1 := hid hR1
  have HG1 := hid hg1
  clear hR1 hg1 HI
  go_wp2_with fail
  refine (list_any p st n _ HR1.out (Nat.le_trans HN.out HG1.out.size) HM.out hn).mono ?_
  rintro e w2 ⟨g, rfl, hg, hB, hR2, hg2⟩
  have HB := hid hB
  have HR2 := hid hR2
  have HG2 := hid (grownT HG1.out hg2)
  have HGE := hid (Nat.le_trans HG1.out.size hg)
  clear hB hR2 hg2 hg
  go_wp2_with fail
  go_ret
  refine ⟨_, rfl, by rw [HO.out, if_neg (by omega)]; exact HR2.out, HG2.out, fun h => ?_⟩
  obtain ⟨h2, _, _, h3⟩ := HW.out h
  rw [Int.toNat_natCast] at h3
  exact ⟨g, n, rfl, h2, HGE.out, by rw [← h3]; exact HB.out⟩

set_option maxRecDepth 100000 in
set_option maxHeartbeats 1000000 in
theorem failed_any (e : Int) (w : World) : Calls Try.prog 52 #[.int .i64 e] w fun x w' => x = .returned (.bool (decide (e ≠ 0 ∧ e ≠ 9))) ∧ w' = w := by
  by_cases h0 : e = 0
  · subst h0
    go_enter Try.func52, Try.ntmps52
    go_wp2_with fail
    go_ret
    exact ⟨rfl, rfl⟩
  · by_cases h9 : e = 9
    · subst h9
      go_enter Try.func52, Try.ntmps52
      go_wp2_with fail
      go_ret
      exact ⟨rfl, rfl⟩
    · have ht : decide (e ≠ 0 ∧ e ≠ 9) = true := by simp [h0, h9]
      have h1 : (e != 0) = true := by simpa using h0
      have h2 : (e != 9) = true := by simpa using h9
      rw [ht]
      go_enter Try.func52, Try.ntmps52
      go_wp2_with fail
      go_ret
      exact ⟨rfl, rfl⟩

set_option maxRecDepth 100000 in
set_option maxHeartbeats 1000000 in
theorem stored_any (v : Value) (l : List UInt8) (n : Nat) (hln : l.length = n) (w : World) (hv : Reads w v (B l)) (hn : n ≤ 1000000000) :
    Calls Try.prog 37 #[v] w fun x w' => ∃ ao cap, x = .returned (.slice ao (8 + n) cap) ∧ Has w' 5 w.heap.size (.slice ao (8 + n) cap) (8 + n) (B (enc l)) ∧ Below w.heap.size w w' := by
  obtain ⟨i0, hi, hz0, hz1, hz2⟩ := info_parts Try.infoByte
  have HV := hid hv
  obtain ⟨ao, c, rfl, _⟩ := hv
  rw [B_length, hln] at HV ⊢
  have HL := hid hln
  clear hln
  go_enter Try.func37, Try.ntmps37
  go_wp2_with fail
  refine (cInt (.slice none 0 0) [] 0 rfl (n : Int) w (Reads.nil w) (by omega)).mono ?_
  rintro e w1 ⟨g, cap, rfl, hg, ho, hb⟩
  have HO := hid ho
  have HB := hid hb
  have HGE := hid hg
  clear ho hb hg
  go_wp2_with (at_builtin; go_must (refine wpList_append_any rfl _ _ 37 37 rfl 5 i0 (.int .u8 0) Try.underlying37 hi hz0 hz1 hz2 rfl w.heap.size (.slice (some ⟨g, 0, none⟩) (0 + 8) cap) (0 + 8) _ rfl (Or.inr ⟨g, cap, rfl, HGE.out, HO.out⟩) HB.out.size _ n (B l) rfl (Src.ofBytes _ Try.underlying37 HL.out (HV.out.later HB.out)) (by omega) ?_); intro v2 w2 hH2 hb2; have HH2 := hid hH2; have HB2 := hid (HB.out.trans hb2); clear hH2 hb2)
  go_ret
  obtain ⟨ao2, c2, rfl⟩ := HH2.out.form
  refine ⟨ao2, c2, by simp, ?_, HB2.out⟩
  have h := HH2.out
  rw [← B_append] at h
  have e1 : enc l = [] ++ le 8 ((n : Int) % 18446744073709551616).toNat ++ l := by rw [enc, i8, HL.out]; rfl
  rw [e1]
  simpa using h
end Go.Proofs.Ytifdoneffnfogaa

/- The contracts of package log: Open, Append, Sync, Count, Safe (chapter 11). -/
namespace Go.Proofs.Ytifdoneffnfogaa
open Go.RowKit
set_option linter.unusedSimpArgs false
set_option linter.unusedVariables false

set_option maxRecDepth 100000 in
set_option maxHeartbeats 2000000 in
theorem whole_any (v : Value) (l : List UInt8) (w : World) (hv : Reads w v (B l)) (hl : l.length ≤ 65536) :
    Calls Try.prog 30 #[v] w fun x w' => ∃ rv z, x = .returned (.tuple #[rv, .int .i64 z]) ∧ z = ((recs l).2 : Nat) ∧ RowsW w' w.heap.size rv (recs l).1 ∧ Below w.heap.size w w' := by
  obtain ⟨i1, hj1, hy0, hy1, hy2⟩ := info_parts Try.infoBytesT
  obtain ⟨n, hn⟩ : ∃ n, l.length = n := ⟨_, rfl⟩
  have HLN := hid hn
  have HV := hid hv
  rw [hn] at hl
  clear hv hn
  go_enter Try.func30, Try.ntmps30
  go_wp2_with fail
  refine wp_scope_at 0 (fun a' w' => ∃ (N p j : Nat) (z : Int) (lo : Option Addr) (lc : Nat) (done : List (List UInt8)),
      a' = ⟨#[v, a'.tmps.getD 1 undef, .slice lo done.length lc, .int .i64 z, .pointer (some ⟨p, 0, none⟩), a'.tmps.getD 5 undef, a'.tmps.getD 6 undef, a'.tmps.getD 7 undef, a'.tmps.getD 8 undef, a'.tmps.getD 9 undef, a'.tmps.getD 10 undef, a'.tmps.getD 11 undef, a'.tmps.getD 12 undef, a'.tmps.getD 13 undef, a'.tmps.getD 14 undef, a'.tmps.getD 15 undef, a'.tmps.getD 16 undef, a'.tmps.getD 17 undef, a'.tmps.getD 18 undef, a'.tmps.getD 19 undef, a'.tmps.getD 20 undef, a'.tmps.getD 21 undef, a'.tmps.getD 22 undef, a'.tmps.getD 23 undef], []⟩ ∧ z = (j : Int) ∧ j ≤ n ∧ 8 * done.length ≤ j ∧
      RD N w' p (l.drop j, 0) ∧ w.heap.size ≤ p ∧ p < N ∧ N ≤ w'.heap.size ∧ RowsW w' N (.slice lo done.length lc) done ∧ Below w.heap.size w w' ∧ recs l = (done ++ (recs (l.drop j)).1, j + (recs (l.drop j)).2))
    (fun a' _ => n - (intOf (a'.tmps.getD 3 undef)).toNat) rfl ?pass ?first
  case first =>
    intro hy
    have HY := hid hy
    clear hy
    go_wp2_with fail
    refine (New_any v l _ HV.out (by rw [HLN.out]; omega)).mono ?_
    rintro _ w1 ⟨p, rfl, hp, hR1, hb1⟩
    have HR1 := hid hR1
    have Hb1 := hid hb1
    have HP := hid hp
    clear hR1 hb1 hp
    go_wp2_with fail
    rename_i hK
    exact wp_label (hK _ _ (HY.out _ _ ⟨w1.heap.size, p, 0, 0, none, 0, [], rfl, rfl, Nat.zero_le _, Nat.le_refl _, HR1.out, HP.out, HR1.out.lt, Nat.le_refl _, RowsW.nil _ _, Hb1.out, by simp⟩))
  case pass =>
    rintro a' w' ⟨N, p, j, z, lo, lc, done, ha, hz, hj, hdj, hR, hp, hpN, hN, hW, hb, hrec⟩
    obtain ⟨f, ha2⟩ : ∃ f : Nat → Value, a' = ⟨#[v, f 1, .slice lo done.length lc, .int .i64 z, .pointer (some ⟨p, 0, none⟩), f 5, f 6, f 7, f 8, f 9, f 10, f 11, f 12, f 13, f 14, f 15, f 16, f 17, f 18, f 19, f 20, f 21, f 22, f 23], []⟩ := ⟨fun i => a'.tmps.getD i undef, ha⟩
    clear ha
    subst ha2 hz
    have HR := hid hR
    have HP := hid hp
    have HPN := hid hpN
    have HN := hid hN
    have HW := hid hW
    have Hb := hid hb
    have HRC := hid hrec
    have HDL := hid (show (l.drop j).length = n - j by rw [List.length_drop, HLN.out])
    clear hR hp hpN hN hW hb hrec
    go_wp2_with fail
    refine (one_any p (l.drop j) _ HR.out HN.out (by rw [HDL.out]; unfold maxLen; omega)).mono ?_
    rintro _ w2 ⟨v1, rfl, hR2, hg2, hwh⟩
    have HR2 := hid hR2
    have HG2 := hid hg2
    have HWH := hid hwh
    have Hb2 := hid (Hb.out.grown hg2 Hb.out.size (fun k hk => by cases hk; exact HP.out))
    have HW2 := hid (show RowsW w2 N (.slice lo done.length lc) done from HW.out.keptAt fun k h1 h2 => hg2.block k h2 (by have := HPN.out; simp; omega))
    clear hR2 hg2 hwh
    by_cases he : Ends (l.drop j)
    · have HFIN := hid (recs_fin HRC.out he)
      have h2 := one_ends he
      obtain ⟨st, hst⟩ : ∃ st, oneS (l.drop j) = st := ⟨_, rfl⟩
      rw [hst] at HR2 h2
      have HML := hid (show st.1.length ≤ maxLen by
        have := one_rest (l.drop j)
        rw [hst, HDL.out] at this
        unfold maxLen; omega)
      have hE : endS st = st.2 := by unfold endS; rw [if_neg (by omega)]
      have hF : decide (endS st ≠ 0 ∧ endS st ≠ 9) = true := by rw [hE]; simp; omega
      have HF := hid hF
      clear hE hF hst he h2
      go_wp2_with fail
      refine (End_any p st _ HR2.out HML.out).mono ?_
      rintro _ w3 ⟨rfl, rfl⟩
      go_wp2_with fail
      refine (failed_any (endS st) _).mono ?_
      rintro _ w4 ⟨rfl, rfl⟩
      rw [HF.out]
      go_wp2_with fail
      simp only [Exit.jump]
      go_ret2
      exact ⟨_, _, rfl, by rw [HFIN.out], by rw [HFIN.out]; exact HW2.out.mono (Nat.le_trans HP.out (Nat.le_of_lt HPN.out)), Hb2.out⟩
    · obtain ⟨m, hm, hm2, hjm, hst⟩ := recs_go HRC.out he HLN.out hj
      have HST := hid hst
      obtain ⟨m', h1, h2, h3, h4, h5, _⟩ := one_whole he
      have hmm : m' = m := by rw [hm] at h1; omega
      subst hmm
      obtain ⟨g, m2, rfl, h6, h7, h8⟩ := HWH.out he
      have hmm2 : m2 = m' := by rw [hm] at h6; omega
      subst hmm2
      obtain ⟨rec, hrec⟩ : ∃ rec, (l.drop (j + 8)).take m2 = rec := ⟨_, rfl⟩
      rw [List.drop_drop, hrec] at h8
      rw [hrec] at HST
      have HRL := hid (show rec.length = m2 by rw [← hrec, List.length_take, List.length_drop, HLN.out]; omega)
      rw [h5, List.drop_drop, show j + (8 + m2) = j + 8 + m2 by omega] at HR2
      have HB2 := hid h8
      have HGE := hid h7
      obtain ⟨q, hq⟩ : ∃ q, endS (l.drop (j + 8 + m2), 0) = q := ⟨_, rfl⟩
      have hF : decide (q ≠ 0 ∧ q ≠ 9) = false := by
        rw [← hq]
        unfold endS
        split <;> simp
      have HF := hid hF
      have HQ := hid hq
      have HHW := hid (show Has (w2.alloc (.cells #[.slice (some ⟨g, 0, none⟩) m2 m2] 37)) 5 N (.slice (some ⟨g, 0, none⟩) m2 m2) m2 (B rec) from
        .inr ⟨g, m2, rfl, Nat.le_trans HN.out HGE.out, (HB2.out.ownsB HRL.out (by unfold maxLen; omega)).alloc _⟩)
      have HR4 := hid (HW2.out.later ((Below.refl w2.heap.size w2).alloc (Nat.le_refl _) (.cells #[.slice (some ⟨g, 0, none⟩) m2 m2] 37)))
      have HN4 := hid (Blk.new w2 37 [.slice (some ⟨g, 0, none⟩) m2 m2])
      have HNS := hid (show N ≤ (w2.alloc (.cells #[.slice (some ⟨g, 0, none⟩) m2 m2] 37)).heap.size from Nat.le_trans (Nat.le_trans HN.out HG2.out.size) (by simp))
      have HKL := hid (show g < (w2.alloc (.cells #[.slice (some ⟨g, 0, none⟩) m2 m2] 37)).heap.size from Nat.lt_of_lt_of_le HB2.out.lt (by simp))
      have HLO := hid (show lo ≠ some ⟨g, 0, none⟩ from fun e => by have := HW.out.headLt e; have := HGE.out; omega)
      have HBA := hid (HB2.out.alloc (.cells #[.slice (some ⟨g, 0, none⟩) m2 m2] 37))
      have HRA := hid (HR2.out.belowN (((Below.refl w2.heap.size w2).alloc (Nat.le_refl _) (.cells #[.slice (some ⟨g, 0, none⟩) m2 m2] 37)).mono (Nat.le_trans HN.out HG2.out.size)) HPN.out)
      have HbA := hid (Hb2.out.alloc Hb2.out.size (.cells #[.slice (some ⟨g, 0, none⟩) m2 m2] 37))
      have HML := hid (show (l.drop (j + 8 + m2)).length ≤ maxLen by rw [List.length_drop, HLN.out]; unfold maxLen; omega)
      have hm3 : m2 ≤ 16384 := hm2
      clear hm h1 h2 h3 h4 h5 h6 h7 h8 hst hrec hq hF he hm2
      go_wp2_with fail
      refine (End_any p (l.drop (j + 8 + m2), 0) _ HR2.out HML.out).mono ?_
      rintro _ w3 ⟨rfl, rfl⟩
      rw [HQ.out]
      go_wp2_with fail
      refine (failed_any q _).mono ?_
      rintro _ w4 ⟨rfl, rfl⟩
      rw [HF.out]
      go_wp2_with (at_builtin; show wpList _ _ _ (⟨some 18, _, _, _, _, _⟩ :: _) _ _; go_must (obtain ⟨xs, hx1, hx2⟩ := HR4.out); go_must (refine wpList_append_one rfl _ _ 22 22 rfl 37 i1 (.slice none 0 0) Try.underlying22 hj1 hy0 hy1 rfl N lo done.length lc xs rfl hx1 HNS.out _ (.slice (some ⟨g, 0, none⟩) m2 m2) rfl (Src.ofSlice _ Try.underlying22 ⟨w4.heap.size, 0, none⟩ 1 1 [.slice (some ⟨g, 0, none⟩) m2 m2] (by simp) (fun j' u' hj' => by rw [Addr.add_lit, Nat.zero_add]; exact HN4.out.cell hj') (by simp [Value.oneCell'])) (by rw [hy2]; omega) (by omega) ?_); go_must (intro v6 w6 hH6 hb6 hz6 hk6 _; have HS6 := hid (RowsW.snoc hx2 hx1.len hx1 hk6 HRL.out (by unfold maxLen; omega) HHW.out hH6); obtain ⟨a6, k6, rfl⟩ := hH6.form; have HB6 := hid (HBA.out.kept (hk6 g HKL.out HLO.out)); have HR6 := hid (HRA.out.belowN hb6 HPN.out); have Hb6 := hid (HbA.out.trans (hb6.mono (Nat.le_trans HP.out (Nat.le_of_lt HPN.out)))); have HZ6 := hid (Nat.le_trans HNS.out hz6); clear hH6 hb6 hz6 hk6 hx1 hx2))
      refine (stored_any (.slice (some ⟨g, 0, none⟩) m2 m2) rec m2 HRL.out _ (HB6.out.ownsB HRL.out (by unfold maxLen; omega)).reads (by omega)).mono ?_
      rintro _ w7 ⟨ao7, c7, rfl, _, hb7⟩
      have Hb7 := hid hb7
      clear hb7
      go_wp2_with fail
      refine wp_goto ?_
      refine ⟨rfl, ⟨N, p, j + 8 + m2, _, a6, k6, done ++ [rec], by rw [List.length_append]; rfl, by simp; omega, hjm, by rw [List.length_append]; simp; omega, HR6.out.belowN (Hb7.out.mono HZ6.out) HPN.out, HP.out, HPN.out, Nat.le_trans HZ6.out Hb7.out.size, by rw [List.length_append]; exact HS6.out.later Hb7.out, below_seq Hb6.out Hb7.out, HST.out⟩, by simp [intOf]; omega⟩
end Go.Proofs.Ytifdoneffnfogaa

/- The contracts of package log: Open, Append, Sync, Count, Safe (chapter 11). -/
namespace Go.Proofs.Ytifdoneffnfogaa
open Go.RowKit
set_option linter.unusedSimpArgs false
set_option linter.unusedVariables false

/-- The program's log in the block q, on the disk in d. -/
def LB (w : World) (q d n k : Nat) : Prop := Blk w 66 q [.pointer (some ⟨d, 0, none⟩), .int .i64 n, .int .i64 k]
theorem LB.kept {w w' : World} {q d n k : Nat} (h : LB w q d n k) (hb : w'.heap[q]? = w.heap[q]?) : LB w' q d n k := Blk.kept h hb
theorem LB.lt {w : World} {q d n k : Nat} (h : LB w q d n k) : q < w.heap.size := Blk.lt h
structure Only3 (w w' : World) (d r q : Nat) : Prop where
  os : w'.os = w.os
  tape : w'.tape = w.tape
  output : w'.output = w.output
  size : w.heap.size ≤ w'.heap.size
  block : ∀ k, k < w.heap.size → k ≠ d → k ≠ r → k ≠ q → w'.heap[k]? = w.heap[k]?
/-- What Open answers. -/
def KOpenR (s : Dk) (d r : Nat) (w : World) (e : Ending) (w' : World) : Prop :=
  DK w' d r (openS s).2.2 ∧ Only w w' d r ∧
    (((openS s).1 ≠ 0 ∧ e = .returned (.tuple #[.pointer none, .slice none 0 0, .int .i64 (openS s).1])) ∨
     ((openS s).1 = 0 ∧ ∃ q rv, e = .returned (.tuple #[.pointer (some ⟨q, 0, none⟩), rv, .int .i64 0]) ∧ w.heap.size ≤ q ∧ LB w' q d (openS s).2.1.length (openS s).2.1.length ∧ RowsW w' w.heap.size rv (openS s).2.1))

section
variable {w w1 : World} {d r q n k : Nat}
theorem Only3.of_only (h : Only w w1 d r) (q : Nat) : Only3 w w1 d r q := ⟨h.os, h.tape, h.output, h.size, fun k h1 h2 h3 _ => h.block k h1 h2 h3⟩
theorem Only3.set (h : Only3 w w1 d r q) (j : Nat) (v : Value) : Only3 w (w1.setCell ⟨q, j, none⟩ v) d r q :=
  ⟨h.os, h.tape, h.output, by simpa [World.setCell] using h.size, fun k h1 h2 h3 h4 => by rw [heap_setCell_other _ _ _ _ h4]; exact h.block k h1 h2 h3 h4⟩
theorem LB.c0 (h : LB w q d n k) : w.cell? ⟨q, 0, none⟩ = some (.pointer (some ⟨d, 0, none⟩)) := Blk.cell h rfl
theorem LB.c1 (h : LB w q d n k) : w.cell? ⟨q, 1, none⟩ = some (.int .i64 n) := Blk.cell h rfl
theorem LB.c2 (h : LB w q d n k) : w.cell? ⟨q, 2, none⟩ = some (.int .i64 k) := Blk.cell h rfl
theorem LB.set1 (h : LB w q d n k) (m : Nat) : LB (w.setCell ⟨q, 1, none⟩ (.int .i64 m)) q d m k := Blk.setCell h 1 (.int .i64 m)
theorem LB.set2 (h : LB w q d n k) (m : Nat) : LB (w.setCell ⟨q, 2, none⟩ (.int .i64 m)) q d n m := Blk.setCell h 2 (.int .i64 m)
theorem DK.setQ {s : Dk} (h : DK w d r s) (h1 : q ≠ d) (h2 : q ≠ r) (j : Nat) (v : Value) : DK (w.setCell ⟨q, j, none⟩ v) d r s := h.kept (heap_setCell_other _ _ _ _ (Ne.symm h1)) (heap_setCell_other _ _ _ _ (Ne.symm h2))
end

set_option maxRecDepth 100000 in
theorem lgUnder_any (q d n k : Nat) (w : World) (hq : LB w q d n k) : Calls Try.prog 36 #[.pointer (some ⟨q, 0, none⟩)] w fun e w' => e = .returned (.pointer (some ⟨d, 0, none⟩)) ∧ w' = w := by
  have c0 := hq.c0
  clear hq
  go_enter Try.func36, Try.ntmps36
  go_wp2_with fail
  go_ret
  exact ⟨rfl, rfl⟩
set_option maxRecDepth 100000 in
theorem lgCount_any (q d n k : Nat) (w : World) (hq : LB w q d n k) : Calls Try.prog 24 #[.pointer (some ⟨q, 0, none⟩)] w fun e w' => e = .returned (.int .i64 (n : Int)) ∧ w' = w := by
  have c1 := hq.c1
  clear hq
  go_enter Try.func24, Try.ntmps24
  go_wp2_with fail
  go_ret
  exact ⟨rfl, rfl⟩
set_option maxRecDepth 100000 in
theorem lgSafe_any (q d n k : Nat) (w : World) (hq : LB w q d n k) : Calls Try.prog 25 #[.pointer (some ⟨q, 0, none⟩)] w fun e w' => e = .returned (.int .i64 (k : Int)) ∧ w' = w := by
  have c2 := hq.c2
  clear hq
  go_enter Try.func25, Try.ntmps25
  go_wp2_with fail
  go_ret
  exact ⟨rfl, rfl⟩

set_option maxRecDepth 100000 in
set_option maxHeartbeats 1000000 in
theorem lgAppend_any (d r q : Nat) (s : Dk) (n k : Nat) (hn : n ≤ 1000000000) (u : Value) (l : List UInt8) (w : World) (h : DK w d r s) (hq : LB w q d n k) (hne : q ≠ d ∧ q ≠ r) (hu : Reads w u (B l)) (hll : l.length ≤ 1000000000) :
    Calls Try.prog 15 #[.pointer (some ⟨q, 0, none⟩), u] w fun e w' => e = .returned (.int .i64 (appL s n l).1) ∧ DK w' d r (appL s n l).2.2 ∧ LB w' q d (appL s n l).2.1 k ∧ Only3 w w' d r q := by
  obtain ⟨m, hm⟩ : ∃ m, l.length = m := ⟨_, rfl⟩
  have HM := hid hm
  have HU := hid hu
  have HD := hid h
  have HQ := hid hq
  have HNE := hid hne
  have hu' := hu
  obtain ⟨ao, cap, rfl, _⟩ := hu'
  rw [B_length, hm] at HU ⊢
  rw [hm] at hll
  clear hu h hq hne hm
  by_cases h0 : 16384 < m
  · have HO := hid (show appL s n l = (5, n, s) by rw [appL, if_pos (by rw [HM.out]; exact h0)])
    have h0' : (16384 : Int) < (m : Int) := by omega
    go_enter Try.func15, Try.ntmps15
    go_wp2_with fail
    go_ret
    rw [HO.out]
    exact ⟨rfl, HD.out, HQ.out, Only3.of_only (Only.refl _ _ _) _⟩
  have h0' : ¬ (16384 : Int) < (m : Int) := by omega
  go_enter Try.func15, Try.ntmps15
  go_wp2_with fail
  refine (lgUnder_any q d n k _ HQ.out).mono ?_
  rintro _ w1 ⟨rfl, rfl⟩
  go_wp2_with fail
  refine (stored_any (.slice ao m cap) l m HM.out _ HU.out hll).mono ?_
  rintro _ w2 ⟨a2, c2, rfl, hH2, hb2⟩
  have HH2 := hid hH2
  have Hb2 := hid hb2
  clear hH2 hb2
  go_wp2_with fail
  refine (kAppend_any d r s (.slice a2 (8 + m) c2) (enc l) _ (HD.out.later Hb2.out) HH2.out.reads (by rw [enc_len, HM.out]; omega)).mono ?_
  rintro _ w3 ⟨rfl, hD3, ho3⟩
  have HD3 := hid hD3
  have hox := (Only.of_below Hb2.out d r).trans ho3
  have HO3 := hid (Only3.of_only hox q)
  have HQ3 := hid (HQ.out.kept (hox.block q HQ.out.lt HNE.out.1 HNE.out.2))
  clear hox
  obtain ⟨z, hz⟩ : ∃ z, (s.app (enc l)).1 = z := ⟨_, rfl⟩
  have HA := hid (show appL s n l = (z, if z = 0 then n + 1 else n, (s.app (enc l)).2) by rw [appL, if_neg (by rw [HM.out]; exact h0), hz])
  rw [hz]
  clear hD3 ho3 hz
  by_cases hz0 : z = 0
  · subst hz0
    have c1 := HQ3.out.c1
    have f1 := Blk.frozen HQ3.out 1
    have HX := hid (show DK (w3.setCell ⟨q, 1, none⟩ (.int .i64 ((n : Int) + 1))) d r (s.app (enc l)).2 ∧ LB (w3.setCell ⟨q, 1, none⟩ (.int .i64 ((n : Int) + 1))) q d (n + 1) k ∧ Only3 w1 (w3.setCell ⟨q, 1, none⟩ (.int .i64 ((n : Int) + 1))) d r q from
      ⟨HD3.out.setQ HNE.out.1 HNE.out.2 _ _, HQ3.out.set1 (n + 1), HO3.out.set _ _⟩)
    go_wp2_with fail
    go_ret
    rw [HA.out, if_pos trivial]
    exact ⟨rfl, HX.out⟩
  · have hz1 : (z == 0) = false := by simpa using hz0
    go_wp2_with fail
    go_ret
    rw [HA.out, if_neg hz0]
    exact ⟨rfl, HD3.out, HQ3.out, HO3.out⟩

set_option maxRecDepth 100000 in
set_option maxHeartbeats 1000000 in
theorem lgSync_any (d r q : Nat) (s : Dk) (n k : Nat) (w : World) (h : DK w d r s) (hq : LB w q d n k) (hne : q ≠ d ∧ q ≠ r) :
    Calls Try.prog 17 #[.pointer (some ⟨q, 0, none⟩)] w fun e w' => e = .returned (.int .i64 (syncL s n k).1) ∧ DK w' d r (syncL s n k).2.2 ∧ LB w' q d n (syncL s n k).2.1 ∧ Only3 w w' d r q := by
  have HD := hid h
  have HQ := hid hq
  have HNE := hid hne
  clear h hq hne
  go_enter Try.func17, Try.ntmps17
  go_wp2_with fail
  refine (lgUnder_any q d n k _ HQ.out).mono ?_
  rintro _ w1 ⟨rfl, rfl⟩
  go_wp2_with fail
  refine (kSync_any d r s _ HD.out).mono ?_
  rintro _ w3 ⟨rfl, hD3, ho3⟩
  have HD3 := hid hD3
  have HO3 := hid (Only3.of_only ho3 q)
  have HQ3 := hid (HQ.out.kept (ho3.block q HQ.out.lt HNE.out.1 HNE.out.2))
  obtain ⟨z, hz⟩ : ∃ z, s.sync.1 = z := ⟨_, rfl⟩
  have HA := hid (show syncL s n k = (z, if z = 0 then n else k, s.sync.2) by rw [syncL, hz])
  rw [hz]
  clear hD3 ho3 hz
  by_cases hz0 : z = 0
  · subst hz0
    have c1 := HQ3.out.c1
    have c2 := HQ3.out.c2
    have f2 := Blk.frozen HQ3.out 2
    have HX := hid (show DK (w3.setCell ⟨q, 2, none⟩ (.int .i64 (n : Int))) d r s.sync.2 ∧ LB (w3.setCell ⟨q, 2, none⟩ (.int .i64 (n : Int))) q d n n ∧ Only3 w1 (w3.setCell ⟨q, 2, none⟩ (.int .i64 (n : Int))) d r q from
      ⟨HD3.out.setQ HNE.out.1 HNE.out.2 _ _, HQ3.out.set2 n, HO3.out.set _ _⟩)
    go_wp2_with fail
    go_ret
    rw [HA.out, if_pos trivial]
    exact ⟨rfl, HX.out⟩
  · have hz1 : (z == 0) = false := by simpa using hz0
    go_wp2_with fail
    go_ret
    rw [HA.out, if_neg hz0]
    exact ⟨rfl, HD3.out, HQ3.out, HO3.out⟩

set_option maxRecDepth 100000 in
set_option maxHeartbeats 2000000 in
theorem lgOpen_any (d r : Nat) (s : Dk) (w : World) (h : DK w d r s) : Calls Try.prog 12 #[.pointer (some ⟨d, 0, none⟩)] w (KOpenR s d r w) := by
  have HD := hid h
  have HLT := hid (show d < w.heap.size ∧ r < w.heap.size from ⟨h.lt, h.ltr⟩)
  have HSZ := hid (show s.b.length ≤ 65536 from Nat.le_trans h.ok.len h.ok.size)
  clear h
  go_enter Try.func12, Try.ntmps12
  go_wp2_with fail
  refine wp_scope_at 0 (fun a' w' => ∃ e : Int, a' = ⟨#[.pointer (some ⟨d, 0, none⟩), a'.tmps.getD 1 undef, a'.tmps.getD 2 undef, a'.tmps.getD 3 undef, .int .i64 e, a'.tmps.getD 5 undef, a'.tmps.getD 6 undef, a'.tmps.getD 7 undef, a'.tmps.getD 8 undef, a'.tmps.getD 9 undef, a'.tmps.getD 10 undef, a'.tmps.getD 11 undef, a'.tmps.getD 12 undef, a'.tmps.getD 13 undef, a'.tmps.getD 14 undef, a'.tmps.getD 15 undef, a'.tmps.getD 16 undef, a'.tmps.getD 17 undef, a'.tmps.getD 18 undef, a'.tmps.getD 19 undef, a'.tmps.getD 20 undef, a'.tmps.getD 21 undef, a'.tmps.getD 22 undef, a'.tmps.getD 23 undef, a'.tmps.getD 24 undef, a'.tmps.getD 25 undef, a'.tmps.getD 26 undef, a'.tmps.getD 27 undef, a'.tmps.getD 28 undef, a'.tmps.getD 29 undef, a'.tmps.getD 30 undef, a'.tmps.getD 31 undef, a'.tmps.getD 32 undef], []⟩ ∧ e = (openS s).1 ∧ e ≠ 0 ∧ DK w' d r (openS s).2.2 ∧ Only w w' d r) (fun _ _ => 0) rfl ?pass ?first
  case pass =>
    rintro a' w' ⟨e, ha, he, hne, hD, ho⟩
    obtain ⟨f, ha2⟩ : ∃ f : Nat → Value, a' = ⟨#[.pointer (some ⟨d, 0, none⟩), f 1, f 2, f 3, .int .i64 e, f 5, f 6, f 7, f 8, f 9, f 10, f 11, f 12, f 13, f 14, f 15, f 16, f 17, f 18, f 19, f 20, f 21, f 22, f 23, f 24, f 25, f 26, f 27, f 28, f 29, f 30, f 31, f 32], []⟩ := ⟨fun j => a'.tmps.getD j undef, ha⟩
    clear ha
    subst ha2
    have HD' := hid hD
    have HO := hid ho
    have HE := hid he
    have HNE := hid hne
    clear hD ho he hne
    go_wp2_with fail
    try simp only [Exit.jump]
    go_ret3
    exact ⟨HD'.out, HO.out, .inl ⟨by rw [← HE.out]; exact HNE.out, by rw [HE.out]; rfl⟩⟩
  case first =>
    intro hy
    have HY := hid hy
    clear hy
    go_wp2_with fail
    refine (kRead_any d r s _ HD.out).mono ?_
    rintro _ w1 ⟨v1, rfl, hH1, hb1⟩
    have HO1 := hid (Only.of_below hb1 d r)
    have HD1 := hid (HD.out.later hb1)
    have HZ1 := hid hb1.size
    clear hb1
    cases hg : s.gone with
    | true =>
      have HO := hid (show openS s = (18, [], s) by rw [openS, if_pos hg])
      rw [show s.read = ([], 18) by rw [Dk.read, if_pos hg]] at hH1 ⊢
      clear hg hH1
      go_wp2_with fail
      refine wp_goto ?_
      exact ⟨rfl, 18, rfl, by rw [HO.out], by decide, by rw [HO.out]; exact HD1.out, HO1.out⟩
    | false =>
    have HG := hid hg
    rw [show s.read = (s.b, 0) by rw [Dk.read, hg, if_neg (by simp)]] at hH1 ⊢
    simp only at hH1 ⊢
    have HR1 := hid hH1.reads
    clear hg hH1
    go_wp2_with fail
    refine (whole_any v1 s.b _ HR1.out HSZ.out).mono ?_
    rintro _ w2 ⟨rv, z, rfl, hz, hW2, hb2⟩
    obtain ⟨ro, rc, rfl⟩ := hW2.form
    have HZ := hid hz
    have HW2 := hid hW2
    have HO2 := hid (HO1.out.trans (Only.of_below hb2 d r))
    have HD2 := hid (HD1.out.later hb2)
    have HBZ := hid hb2.size
    clear hz hW2 hb2
    go_wp2_with fail
    refine (kCut_any d r s z _ HD2.out).mono ?_
    rintro _ w3 ⟨rfl, hD3, ho3⟩
    have HD3 := hid hD3
    have HO3 := hid (HO2.out.trans ho3)
    have HW3 := hid (HW2.out.keptAt fun k h1 h2 => ho3.block k h2 (by have := HLT.out; have := HZ1.out; omega) (by have := HLT.out; have := HZ1.out; omega))
    obtain ⟨c, hc⟩ : ∃ c, (s.cut z).1 = c := ⟨_, rfl⟩
    have HO := hid (show openS s = if c ≠ 0 then (c, [], (s.cut z).2) else (0, (recs s.b).1, (s.cut z).2) by rw [openS, HG.out, if_neg (by simp), ← HZ.out, hc])
    rw [hc]
    clear hD3 ho3 hc
    by_cases hc0 : c = 0
    · subst hc0
      rw [if_neg (by simp)] at HO
      obtain ⟨m, hm⟩ : ∃ m, (recs s.b).1.length = m := ⟨_, rfl⟩
      have HML := hid hm
      rw [hm] at HW3 ⊢
      obtain ⟨q, hq⟩ : ∃ q, w3.heap.size = q := ⟨_, rfl⟩
      have HQQ := hid hq
      clear hm
      go_wp2_with (show wpList _ _ _ (⟨some 30, Op.box _ _, _, _, _, _⟩ :: _) _ _; go_must (refine wpList_box_blk rfl 66 _ rfl [.pointer (some ⟨d, 0, none⟩), .int .i64 m, .int .i64 m] rfl q hq ?_); go_must (intro wg hBg hbg hsg; have HBG := hid hBg; have Hbg := hid hbg; clear hBg hbg))
      try simp only [Exit.jump]
      go_ret3
      have hbg : Below w3.heap.size w3 wg := by rw [HQQ.out]; exact Hbg.out
      refine ⟨by rw [HO.out]; exact HD3.out.later hbg, HO3.out.trans (Only.of_below hbg d r), .inr ⟨by rw [HO.out], q, _, rfl, by rw [← HQQ.out]; exact HO3.out.size, ?_, ?_⟩⟩
      · rw [HO.out]
        show LB wg q d (recs s.b).1.length (recs s.b).1.length
        rw [HML.out]
        exact HBG.out
      · rw [HO.out]
        exact (HW3.out.later hbg).mono HZ1.out
    · rw [if_pos hc0] at HO
      have hcb : (c == 0) = false := by simpa using hc0
      go_wp2_with fail
      refine wp_goto ?_
      exact ⟨rfl, c, rfl, by rw [HO.out], hc0, by rw [HO.out]; exact HD3.out, HO3.out⟩
end Go.Proofs.Ytifdoneffnfogaa

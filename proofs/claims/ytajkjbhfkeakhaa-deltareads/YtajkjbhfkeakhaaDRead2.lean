/- The contracts of package delta's parts and OpParse. -/
import Derived.Test.YtajkjbhfkeakhaaDRead
namespace Go.Proofs.Ytajkjbhfkeakhaa
open Go.RowKit
variable {N : Nat}
set_option linter.unusedSimpArgs false
set_option linter.unusedVariables false

theorem below_fld {Bd : Nat} {w w' : World} (h : w.heap.size ≤ w'.heap.size → Below Bd w w') (hs : w.heap.size ≤ w'.heap.size) : Below Bd w w' := h hs
theorem RdN.below {w w' : World} {Bd : Nat} {ao : Option Addr} {k cap : Nat} {l : List UInt8} (h : RdN N w ao k cap l) (hb : Below Bd w w') (hN : N ≤ Bd) : RdN N w' ao k cap l := ⟨by
  obtain ⟨a, c, e, h1, h2, h3⟩ := h.reads
  injection e with e1 e2 e3
  subst e1 e2 e3
  refine ⟨ao, cap, rfl, h1, h2, fun ad he j u hj => ?_⟩
  have hl : 0 < l.length := by
    have := (List.getElem?_eq_some_iff.1 hj).1
    rw [B_length] at this
    omega
  have h4 := h.blk ad he hl
  have hc : (ad.add j).block = ad.block := by unfold Addr.add; split <;> rfl
  have h5 := h3 ad he j u hj
  have h6 := hb.block ad.block (by omega)
  simp only [World.cell?, hc] at h5 ⊢
  rw [h6]
  exact h5, h.blk⟩
theorem RD.below {w w' : World} {Bd p : Nat} {s : St} (h : RD N w p s) (hb : Below Bd w w') (hN : N ≤ Bd) (hp : p < Bd) : RD N w' p s := by
  obtain ⟨ao, cap, hh, hr⟩ := h
  exact ⟨ao, cap, by rw [hb.block p hp]; exact hh, hr.below hb hN⟩
theorem HasC.grownAt {w w' : World} {Bd p : Nat} {v : Value} {o : List Cp} (h : HasC w Bd v o) (hg : w.grownBy w' (some p)) (hp : p < Bd) : HasC w' Bd v o := by
  rcases h with h | ⟨g, cap, cur, rfl, h1, h2, h3, h4, h5, h6⟩
  · exact .inl h
  · exact .inr ⟨g, cap, cur, rfl, h1, h2, h3, by rw [hg.block g (Array.getElem?_eq_some_iff.1 h4).1 (by simp; omega)]; exact h4, h5, h6⟩
theorem grown_below' {w w1 w2 : World} {r : Option Nat} (h : w.grownBy w1 r) (hb : Below w.heap.size w1 w2) : w.grownBy w2 r :=
  ⟨hb.os.trans h.os, hb.tape.trans h.tape, hb.output.trans h.output, Nat.le_trans h.size hb.size, fun k hk hne => by rw [hb.block k hk, h.block k hk hne]⟩

/-- What parts answers. -/
def PartsR (N : Nat) (w : World) (p : Nat) (s : St) (v : Value) (w' : World) : Prop :=
  if 40 < byteS s then v = .slice none 0 0 ∧ RD N w' p (failS (nextS s) 4) else HasC w' w.heap.size v (partsV (byteS s) (nextS s)) ∧ RD N w' p (partsE (byteS s) (nextS s))

set_option maxRecDepth 100000 in
set_option maxHeartbeats 4000000 in
theorem dParts_any (p : Nat) (s : St) (w : World) (hR : RD N w p s) (hm : s.1.length ≤ maxLen) (hN : N ≤ w.heap.size) :
    Calls Try.prog 45 #[.pointer (some ⟨p, 0, none⟩)] w fun e w' => ∃ v, e = .returned v ∧ PartsR N w p s v w' ∧ w.grownBy w' (some p) := by
  have hpl := hR.lt
  have HR := hid hR
  have HM := hid hm
  obtain ⟨n, hn⟩ : ∃ n, byteS s = n := ⟨_, rfl⟩
  clear hR hm
  have HP := hid (show ∀ v w', (if 40 < n then v = .slice none 0 0 ∧ RD N w' p (failS (nextS s) 4) else HasC w' w.heap.size v (partsV n (nextS s)) ∧ RD N w' p (partsE n (nextS s))) → PartsR N w p s v w' by
    intro v w' h; unfold PartsR; rw [hn]; exact h)
  go_enter Try.func45, Try.ntmps45
  go_wp2_with fail
  refine wp_scope_at 0 (fun a' w' => ∃ (k : Nat) (s1 : St) (vo : Value) (acc : List Cp), a' = ⟨#[.pointer (some ⟨p, 0, none⟩), a'.tmps.getD 1 undef, a'.tmps.getD 2 undef, vo, .func (Fn.func 61) #[.pointer (some ⟨p, 0, none⟩)] #[], .func (Fn.func 58) #[.pointer (some ⟨p, 0, none⟩)] #[], .func (Fn.func 62) #[.pointer (some ⟨p, 0, none⟩)] #[], .int .i64 (k : Nat), a'.tmps.getD 8 undef, a'.tmps.getD 9 undef, a'.tmps.getD 10 undef, a'.tmps.getD 11 undef, a'.tmps.getD 12 undef, a'.tmps.getD 13 undef, a'.tmps.getD 14 undef, a'.tmps.getD 15 undef, a'.tmps.getD 16 undef, a'.tmps.getD 17 undef, a'.tmps.getD 18 undef, a'.tmps.getD 19 undef, a'.tmps.getD 20 undef, a'.tmps.getD 21 undef, a'.tmps.getD 22 undef, a'.tmps.getD 23 undef, a'.tmps.getD 24 undef, a'.tmps.getD 25 undef, a'.tmps.getD 26 undef, a'.tmps.getD 27 undef, a'.tmps.getD 28 undef, a'.tmps.getD 29 undef, a'.tmps.getD 30 undef, a'.tmps.getD 31 undef], []⟩ ∧ n ≤ 40 ∧ acc.length + k = n ∧ RD N w' p s1 ∧ s1.1.length ≤ maxLen ∧ HasC w' w.heap.size vo acc ∧ w.grownBy w' (some p) ∧ acc ++ partsV k s1 = partsV n (nextS s) ∧ partsE k s1 = partsE n (nextS s))
    (fun a' _ => (intOf (a'.tmps.getD 7 undef)).toNat) rfl ?pass ?first
  case first =>
    intro hy
    have HY := hid hy
    clear hy
    go_wp2_with fail
    refine (Byte_any p s _ HR.out HM.out).mono ?_
    rintro _ w1 ⟨rfl, hR1, hg1⟩
    rw [hn]
    have HR1 := hid hR1
    have HG1 := hid hg1
    clear hR1 hg1
    by_cases h40 : 40 < n
    · have h40' : (40 : Int) < (n : Int) := by omega
      go_wp2_with fail
      refine (Fail_any p (nextS s) 4 _ HR1.out).mono ?_
      rintro _ w2 ⟨rfl, hR2, hg2⟩
      have HX := hid (HP.out (.slice none 0 0) w2 (by rw [if_pos h40]; exact ⟨rfl, hR2⟩))
      have HG2 := hid (grownT HG1.out hg2)
      clear hR2 hg2
      go_wp2_with fail
      simp only [Exit.jump]
      go_ret
      exact ⟨_, rfl, HX.out, HG2.out⟩
    · have h40' : ¬ (40 : Int) < (n : Int) := by omega
      go_wp2_with fail
      rename_i hK
      exact wp_label (hK _ _ (HY.out _ _ ⟨n, nextS s, _, [], rfl, by omega, by simp, HR1.out, Nat.le_trans (nextS_len s) HM.out, HasC.nil _ _, HG1.out, rfl, rfl⟩))
  case pass =>
    rintro a' w' ⟨k, s1, vo, acc, ha, hn40, hk, hR1, hm1, hH, hg, hV, hE⟩
    obtain ⟨f, ha2⟩ : ∃ f : Nat → Value, a' = ⟨#[.pointer (some ⟨p, 0, none⟩), f 1, f 2, vo, .func (Fn.func 61) #[.pointer (some ⟨p, 0, none⟩)] #[], .func (Fn.func 58) #[.pointer (some ⟨p, 0, none⟩)] #[], .func (Fn.func 62) #[.pointer (some ⟨p, 0, none⟩)] #[], .int .i64 (k : Nat), f 8, f 9, f 10, f 11, f 12, f 13, f 14, f 15, f 16, f 17, f 18, f 19, f 20, f 21, f 22, f 23, f 24, f 25, f 26, f 27, f 28, f 29, f 30, f 31], []⟩ := ⟨fun j => a'.tmps.getD j undef, ha⟩
    clear ha
    subst ha2
    obtain ⟨av, cv, rfl⟩ := hH.form
    have HR1 := hid hR1
    have HM1 := hid hm1
    have HH := hid hH
    have HG := hid hg
    have HV := hid hV
    have HE := hid hE
    have HL := hid hk
    clear hR1 hm1 hH hg hV hE hn
    cases k with
    | zero =>
      have HX := hid (HP.out (.slice av acc.length cv) w' (by
        rw [if_neg (by omega)]
        have h1 := HV.out
        have h2 := HE.out
        simp only [partsV, partsE, List.append_nil] at h1 h2
        rw [← h1, ← h2]
        exact ⟨HH.out, HR1.out⟩))
      go_wp2_with fail
      simp only [Exit.jump]
      go_ret
      exact ⟨_, rfl, HX.out, HG.out⟩
    | succ k =>
      have hne : (((k + 1 : Nat) : Int) == 0) = false := by simp; omega
      have hka : acc.length + 1 ≤ 40 := by omega
      have hkb : (k : Int) ≤ 40 := by omega
      have hpw : p < w'.heap.size := HR1.out.lt
      have hsz : w.heap.size ≤ w'.heap.size := HG.out.size
      clear hk
      go_wp2_with fail
      refine (dPart_any (N := N) p s1 _ HR1.out HM1.out (by omega)).mono ?_
      rintro _ w2 ⟨rfl, hR2, hg2⟩
      obtain ⟨c, hc⟩ : ∃ c, partV s1 = c := ⟨_, rfl⟩
      rw [hc]
      have HC := hid hc
      clear hc
      obtain ⟨ck, cn, cx⟩ := c
      have HR2 := hid (hR2.later ((Below.refl _ _).alloc (Nat.le_refl _) (.cells #[.int .i64 ck, .int .i64 cn, .string cx] 55)))
      have HH2 := hid ((HH.out.grownAt hg2 hpl).later ((Below.refl _ _).alloc (Nat.le_refl _) (.cells #[.int .i64 ck, .int .i64 cn, .string cx] 55)))
      have HG2 := hid (show w.grownBy (w2.alloc (.cells #[.int .i64 ck, .int .i64 cn, .string cx] 55)) (some p) from grown_alloc (grownT HG.out hg2) _)
      have hs2 : w.heap.size ≤ w2.heap.size := (grownT HG.out hg2).size
      have HN := hid (show RC (w2.alloc (.cells #[.int .i64 ck, .int .i64 cn, .string cx] 55)) (.slice (some ⟨w2.heap.size, 0, none⟩) 1 1) [⟨ck, cn, cx⟩] from (one_new w2 ⟨ck, cn, cx⟩ w.heap.size hs2).reads)
      have hsA : w.heap.size ≤ (w2.alloc (.cells #[.int .i64 ck, .int .i64 cn, .string cx] 55)).heap.size := HG2.out.size
      simp only [Cp.vals]
      clear hR2 hg2 HR1 HH HG
      go_wp2_with (at_builtin; go_must (refine wpList_append_c rfl _ _ rfl w.heap.size _ acc rfl HH2.out hsA _ [⟨ck, cn, cx⟩] rfl HN.out (by simp; omega) ?_); intro v3 w3 hH3 hb3)
      refine wp_goto ?_
      refine ⟨rfl, ⟨k, partN s1, v3, acc ++ [⟨ck, cn, cx⟩], rfl, hn40, by have := HL.out; simp; omega, HR2.out.below hb3 hN hpl, Nat.le_trans (partN_len s1) HM1.out, hH3, grown_below' HG2.out hb3, by have h1 := HV.out; rw [partsV, HC.out] at h1; simpa using h1, HE.out⟩, by simp [intOf]⟩

set_option maxRecDepth 100000 in
set_option maxHeartbeats 2000000 in
theorem dOpParse_any (v : Value) (b : List UInt8) (w : World) (hr : Reads w v (B b)) (hb : b.length ≤ 140737488355328) :
    Calls Try.prog 18 #[v] w fun e w' => ∃ v', e = .returned (.tuple #[v', .int .i64 (opP b).2]) ∧ HasC w' w.heap.size v' (opP b).1 ∧ Below w.heap.size w w' := by
  have hml : b.length ≤ maxLen := by unfold maxLen; omega
  go_enter Try.func18, Try.ntmps18
  go_wp2_with fail
  refine (New_any v b _ hr hb).mono ?_
  rintro _ w1 ⟨p, rfl, hp, hR1, hb1⟩
  have HR1 := hid hR1
  have Hb1 := hid hb1
  clear hR1 hb1 hr
  go_wp2_with fail
  refine (dParts_any (N := w1.heap.size) p (b, 0) _ HR1.out hml (Nat.le_refl _)).mono ?_
  rintro _ w2 ⟨v2, rfl, hP, hg2⟩
  have Hb2 := hid (below_at Hb1.out hg2 hp)
  unfold PartsR at hP
  have HSZ := hid Hb1.out.size
  clear hg2 Hb1
  by_cases h40 : 40 < byteS (b, 0)
  · rw [if_pos h40] at hP
    obtain ⟨rfl, hR2⟩ := hP
    have HO := hid (show opP b = ([], 4) by rw [opP, if_pos h40])
    have hs : failS (nextS (b, 0)) 4 = ([], 4) := by
      cases b with
      | nil => simp [byteS] at h40
      | cons x r => simp [nextS, failS]
    rw [hs] at hR2
    have HR2 := hid hR2
    clear hR2 hs h40
    go_wp2_with fail
    refine (End_any p ([], 4) _ HR2.out (Nat.zero_le _)).mono ?_
    rintro _ w3 ⟨rfl, hw3⟩
    rw [hw3, show endS ([], (4 : Int)) = 4 from rfl]
    clear hw3
    go_wp2_with fail
    go_ret2
    rw [HO.out]
    exact ⟨_, rfl, HasC.nil _ _, Hb2.out⟩
  · rw [if_neg h40] at hP
    obtain ⟨hH2, hR2⟩ := hP
    have HO := hid (show opP b = if endS (partsE (byteS (b, 0)) (nextS (b, 0))) ≠ 0 then ([], endS (partsE (byteS (b, 0)) (nextS (b, 0)))) else if chkS (partsV (byteS (b, 0)) (nextS (b, 0))) ≠ 0 then ([], chkS (partsV (byteS (b, 0)) (nextS (b, 0)))) else (partsV (byteS (b, 0)) (nextS (b, 0)), 0) by rw [opP, if_neg h40])
    have hll := partsV_len (byteS (b, 0)) (nextS (b, 0))
    have HZ := hid (partsV_size (byteS (b, 0)) (nextS (b, 0)))
    have HLE := hid (Nat.le_trans (partsE_len (byteS (b, 0)) (nextS (b, 0))) (Nat.le_trans (nextS_len (b, 0)) hml))
    generalize partsE (byteS (b, 0)) (nextS (b, 0)) = sE at *
    generalize partsV (byteS (b, 0)) (nextS (b, 0)) = oV at *
    have hol : oV.length ≤ 40 := by omega
    clear hll h40
    have HH2 := hid (hH2.mono HSZ.out)
    have HR2 := hid hR2
    clear hH2 hR2
    obtain ⟨av, cv, rfl⟩ := HH2.out.form
    go_wp2_with fail
    refine (End_any p sE _ HR2.out HLE.out).mono ?_
    rintro _ w3 ⟨rfl, hw3⟩
    rw [hw3]
    clear hw3
    obtain ⟨e, he⟩ : ∃ e, endS sE = e := ⟨_, rfl⟩
    rw [he] at HO ⊢
    clear he
    by_cases h0 : e = 0
    · subst h0
      go_wp2_with fail
      refine (Check_any _ oV _ HH2.out.reads (fun c hc => by have := HZ.out c hc; omega) (by omega)).mono ?_
      rintro _ w4 ⟨rfl, hb4⟩
      have HH4 := hid (HH2.out.later hb4)
      have Hb4 := hid (show Below w.heap.size w w4 from below_seq Hb2.out hb4)
      clear hb4 HH2 Hb2
      obtain ⟨r, hr⟩ : ∃ r, chkS oV = r := ⟨_, rfl⟩
      rw [hr] at HO ⊢
      clear hr
      by_cases hr0 : r = 0
      · subst hr0
        go_wp2_with fail
        go_ret2
        rw [HO.out, if_neg (by simp), if_neg (by simp)]
        exact ⟨_, rfl, HH4.out, Hb4.out⟩
      · have hne : (r == 0) = false := by simpa using hr0
        go_wp2_with fail
        go_ret2
        rw [HO.out, if_neg (by simp), if_pos hr0]
        exact ⟨_, rfl, HasC.nil _ _, Hb4.out⟩
    · have hne : (e == 0) = false := by simpa using h0
      go_wp2_with fail
      go_ret2
      rw [HO.out, if_pos h0]
      exact ⟨_, rfl, HasC.nil _ _, Hb2.out⟩
end Go.Proofs.Ytajkjbhfkeakhaa

/- The contracts of package log: Open, Append, Sync, Count, Safe (chapter 11). -/
import Derived.Test.YtifdoneffnfogabLgR
import Derived.Test.YtifdoneffnfogabRowsW
import Derived.Test.YtifdoneffnfogabKAt0
namespace Go.Proofs.Ytifdoneffnfogab
open Go.RowKit
set_option linter.unusedSimpArgs false
set_option linter.unusedVariables false

set_option maxRecDepth 100000 in
set_option maxHeartbeats 2000000 in
theorem whole_any (v : Value) (l : List UInt8) (w : World) (hv : Reads w v (B l)) (hl : l.length ≤ 65536) :
    Calls Try.prog 14 #[v] w fun x w' => ∃ rv z, x = .returned (.tuple #[rv, .int .i64 z]) ∧ z = ((recs l).2 : Nat) ∧ RowsW w' w.heap.size rv (recs l).1 ∧ Below w.heap.size w w' := by
  obtain ⟨i1, hj1, hy0, hy1, hy2⟩ := info_parts Try.infoBytesT
  obtain ⟨n, hn⟩ : ∃ n, l.length = n := ⟨_, rfl⟩
  have HLN := hid hn
  have HV := hid hv
  rw [hn] at hl
  clear hv hn
  go_enter Try.func14, Try.ntmps14
  go_wp2_with fail
  refine wp_scope_at 0 (fun a' w' => ∃ (N p j : Nat) (z : Int) (lo : Option Addr) (lc : Nat) (done : List (List UInt8)),
      a' = ⟨#[v, a'.tmps.getD 1 undef, .slice lo done.length lc, .int .i64 z, .pointer (some ⟨p, 0, none⟩), a'.tmps.getD 5 undef, a'.tmps.getD 6 undef, a'.tmps.getD 7 undef, a'.tmps.getD 8 undef, a'.tmps.getD 9 undef, a'.tmps.getD 10 undef, a'.tmps.getD 11 undef, a'.tmps.getD 12 undef, a'.tmps.getD 13 undef, a'.tmps.getD 14 undef, a'.tmps.getD 15 undef, a'.tmps.getD 16 undef, a'.tmps.getD 17 undef, a'.tmps.getD 18 undef, a'.tmps.getD 19 undef, a'.tmps.getD 20 undef, a'.tmps.getD 21 undef, a'.tmps.getD 22 undef, a'.tmps.getD 23 undef], []⟩ ∧ z = (j : Int) ∧ j ≤ n ∧ 8 * done.length ≤ j ∧
      RD N w' p (l.drop j, 0) ∧ w.heap.size ≤ p ∧ p < N ∧ N ≤ w'.heap.size ∧ RowsW w' N (.slice lo done.length lc) done ∧ Below w.heap.size w w' ∧ recs l = (done ++ (recs (l.drop j)).1, j + (recs (l.drop j)).2))
    (fun a' _ => n - (intOf (a'.tmps.getD 3 undef)).toNat) rfl ?pass ?first
  case first =>
    intro hy
    have HY := hid hy
    clear hy
    go_wp2_with fail
    refine (New_any v l _ HV.out (by rw [HLN.out]; omega)).mono ?_
    rintro _ w1 ⟨p, rfl, hp, hR1, hb1⟩
    have HR1 := hid hR1
    have Hb1 := hid hb1
    have HP := hid hp
    clear hR1 hb1 hp
    go_wp2_with fail
    rename_i hK
    exact wp_label (hK _ _ (HY.out _ _ ⟨w1.heap.size, p, 0, 0, none, 0, [], rfl, rfl, Nat.zero_le _, Nat.le_refl _, HR1.out, HP.out, HR1.out.lt, Nat.le_refl _, RowsW.nil _ _, Hb1.out, by simp⟩))
  case pass =>
    rintro a' w' ⟨N, p, j, z, lo, lc, done, ha, hz, hj, hdj, hR, hp, hpN, hN, hW, hb, hrec⟩
    obtain ⟨f, ha2⟩ : ∃ f : Nat → Value, a' = ⟨#[v, f 1, .slice lo done.length lc, .int .i64 z, .pointer (some ⟨p, 0, none⟩), f 5, f 6, f 7, f 8, f 9, f 10, f 11, f 12, f 13, f 14, f 15, f 16, f 17, f 18, f 19, f 20, f 21, f 22, f 23], []⟩ := ⟨fun i => a'.tmps.getD i undef, ha⟩
    clear ha
    subst ha2 hz
    have HR := hid hR
    have HP := hid hp
    have HPN := hid hpN
    have HN := hid hN
    have HW := hid hW
    have Hb := hid hb
    have HRC := hid hrec
    have HDL := hid (show (l.drop j).length = n - j by rw [List.length_drop, HLN.out])
    clear hR hp hpN hN hW hb hrec
    go_wp2_with fail
    refine (one_any p (l.drop j) _ HR.out HN.out (by rw [HDL.out]; unfold maxLen; omega)).mono ?_
    rintro _ w2 ⟨v1, rfl, hR2, hg2, hwh⟩
    have HR2 := hid hR2
    have HG2 := hid hg2
    have HWH := hid hwh
    have Hb2 := hid (Hb.out.grown hg2 Hb.out.size (fun k hk => by cases hk; exact HP.out))
    have HW2 := hid (show RowsW w2 N (.slice lo done.length lc) done from HW.out.keptAt fun k h1 h2 => hg2.block k h2 (by have := HPN.out; simp; omega))
    clear hR2 hg2 hwh
    by_cases he : Ends (l.drop j)
    · have HFIN := hid (recs_fin HRC.out he)
      have h2 := one_ends he
      obtain ⟨st, hst⟩ : ∃ st, oneS (l.drop j) = st := ⟨_, rfl⟩
      rw [hst] at HR2 h2
      have HML := hid (show st.1.length ≤ maxLen by
        have := one_rest (l.drop j)
        rw [hst, HDL.out] at this
        unfold maxLen; omega)
      have hE : endS st = st.2 := by unfold endS; rw [if_neg (by omega)]
      have hF : decide (endS st ≠ 0 ∧ endS st ≠ 9) = true := by rw [hE]; simp; omega
      have HF := hid hF
      clear hE hF hst he h2
      go_wp2_with fail
      refine (End_any p st _ HR2.out HML.out).mono ?_
      rintro _ w3 ⟨rfl, rfl⟩
      go_wp2_with fail
      refine (failed_any (endS st) _).mono ?_
      rintro _ w4 ⟨rfl, rfl⟩
      rw [HF.out]
      go_wp2_with fail
      simp only [Exit.jump]
      go_ret2
      exact ⟨_, _, rfl, by rw [HFIN.out], by rw [HFIN.out]; exact HW2.out.mono (Nat.le_trans HP.out (Nat.le_of_lt HPN.out)), Hb2.out⟩
    · obtain ⟨m, hm, hm2, hjm, hst⟩ := recs_go HRC.out he HLN.out hj
      have HST := hid hst
      obtain ⟨m', h1, h2, h3, h4, h5, _⟩ := one_whole he
      have hmm : m' = m := by rw [hm] at h1; omega
      subst hmm
      obtain ⟨g, m2, rfl, h6, h7, h8⟩ := HWH.out he
      have hmm2 : m2 = m' := by rw [hm] at h6; omega
      subst hmm2
      obtain ⟨rec, hrec⟩ : ∃ rec, (l.drop (j + 8)).take m2 = rec := ⟨_, rfl⟩
      rw [List.drop_drop, hrec] at h8
      rw [hrec] at HST
      have HRL := hid (show rec.length = m2 by rw [← hrec, List.length_take, List.length_drop, HLN.out]; omega)
      rw [h5, List.drop_drop, show j + (8 + m2) = j + 8 + m2 by omega] at HR2
      have HB2 := hid h8
      have HGE := hid h7
      obtain ⟨q, hq⟩ : ∃ q, endS (l.drop (j + 8 + m2), 0) = q := ⟨_, rfl⟩
      have hF : decide (q ≠ 0 ∧ q ≠ 9) = false := by
        rw [← hq]
        unfold endS
        split <;> simp
      have HF := hid hF
      have HQ := hid hq
      have HHW := hid (show Has (w2.alloc (.cells #[.slice (some ⟨g, 0, none⟩) m2 m2] 31)) 5 N (.slice (some ⟨g, 0, none⟩) m2 m2) m2 (B rec) from
        .inr ⟨g, m2, rfl, Nat.le_trans HN.out HGE.out, (HB2.out.ownsB HRL.out (by unfold maxLen; omega)).alloc _⟩)
      have HR4 := hid (HW2.out.later ((Below.refl w2.heap.size w2).alloc (Nat.le_refl _) (.cells #[.slice (some ⟨g, 0, none⟩) m2 m2] 31)))
      have HN4 := hid (Blk.new w2 31 [.slice (some ⟨g, 0, none⟩) m2 m2])
      have HNS := hid (show N ≤ (w2.alloc (.cells #[.slice (some ⟨g, 0, none⟩) m2 m2] 31)).heap.size from Nat.le_trans (Nat.le_trans HN.out HG2.out.size) (by simp))
      have HKL := hid (show g < (w2.alloc (.cells #[.slice (some ⟨g, 0, none⟩) m2 m2] 31)).heap.size from Nat.lt_of_lt_of_le HB2.out.lt (by simp))
      have HLO := hid (show lo ≠ some ⟨g, 0, none⟩ from fun e => by have := HW.out.headLt e; have := HGE.out; omega)
      have HBA := hid (HB2.out.alloc (.cells #[.slice (some ⟨g, 0, none⟩) m2 m2] 31))
      have HRA := hid (HR2.out.belowN (((Below.refl w2.heap.size w2).alloc (Nat.le_refl _) (.cells #[.slice (some ⟨g, 0, none⟩) m2 m2] 31)).mono (Nat.le_trans HN.out HG2.out.size)) HPN.out)
      have HbA := hid (Hb2.out.alloc Hb2.out.size (.cells #[.slice (some ⟨g, 0, none⟩) m2 m2] 31))
      have HML := hid (show (l.drop (j + 8 + m2)).length ≤ maxLen by rw [List.length_drop, HLN.out]; unfold maxLen; omega)
      have hm3 : m2 ≤ 16384 := hm2
      clear hm h1 h2 h3 h4 h5 h6 h7 h8 hst hrec hq hF he hm2
      go_wp2_with fail
      refine (End_any p (l.drop (j + 8 + m2), 0) _ HR2.out HML.out).mono ?_
      rintro _ w3 ⟨rfl, rfl⟩
      rw [HQ.out]
      go_wp2_with fail
      refine (failed_any q _).mono ?_
      rintro _ w4 ⟨rfl, rfl⟩
      rw [HF.out]
      go_wp2_with (at_builtin; show wpList _ _ _ (⟨some 18, _, _, _, _, _⟩ :: _) _ _; go_must (obtain ⟨xs, hx1, hx2⟩ := HR4.out); go_must (refine wpList_append_one rfl _ _ 22 22 rfl 31 i1 (.slice none 0 0) Try.underlying22 hj1 hy0 hy1 rfl N lo done.length lc xs rfl hx1 HNS.out _ (.slice (some ⟨g, 0, none⟩) m2 m2) rfl (Src.ofSlice _ Try.underlying22 ⟨w4.heap.size, 0, none⟩ 1 1 [.slice (some ⟨g, 0, none⟩) m2 m2] (by simp) (fun j' u' hj' => by rw [Addr.add_lit, Nat.zero_add]; exact HN4.out.cell hj') (by simp [Value.oneCell'])) (by rw [hy2]; omega) (by omega) ?_); go_must (intro v6 w6 hH6 hb6 hz6 hk6 _; have HS6 := hid (RowsW.snoc hx2 hx1.len hx1 hk6 HRL.out (by unfold maxLen; omega) HHW.out hH6); obtain ⟨a6, k6, rfl⟩ := hH6.form; have HB6 := hid (HBA.out.kept (hk6 g HKL.out HLO.out)); have HR6 := hid (HRA.out.belowN hb6 HPN.out); have Hb6 := hid (HbA.out.trans (hb6.mono (Nat.le_trans HP.out (Nat.le_of_lt HPN.out)))); have HZ6 := hid (Nat.le_trans HNS.out hz6); clear hH6 hb6 hz6 hk6 hx1 hx2))
      refine (stored_any (.slice (some ⟨g, 0, none⟩) m2 m2) rec m2 HRL.out _ (HB6.out.ownsB HRL.out (by unfold maxLen; omega)).reads (by omega)).mono ?_
      rintro _ w7 ⟨ao7, c7, rfl, _, hb7⟩
      have Hb7 := hid hb7
      clear hb7
      go_wp2_with fail
      refine wp_goto ?_
      refine ⟨rfl, ⟨N, p, j + 8 + m2, _, a6, k6, done ++ [rec], by rw [List.length_append]; rfl, by simp; omega, hjm, by rw [List.length_append]; simp; omega, HR6.out.belowN (Hb7.out.mono HZ6.out) HPN.out, HP.out, HPN.out, Nat.le_trans HZ6.out Hb7.out.size, by rw [List.length_append]; exact HS6.out.later Hb7.out, below_seq Hb6.out Hb7.out, HST.out⟩, by simp [intOf]; omega⟩
end Go.Proofs.Ytifdoneffnfogab

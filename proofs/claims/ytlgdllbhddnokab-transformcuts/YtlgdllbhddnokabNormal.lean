/- The contract of Normal. -/
import Derived.Test.YtlgdllbhddnokabNorm
namespace Go.Proofs.Ytlgdllbhddnokab
open Go.RowKit
set_option linter.unusedSimpArgs false
set_option linter.unusedVariables false

theorem norm_round (o : List Cp) (q m n : Nat) (hg : Good o) (h1 : Runs o false q m) (h2 : Runs o true (q + m) n) :
    normS (o.drop q) = changedS ((o.drop q).take m) ++ (keptS ((o.drop (q + m)).take n) ++ normS (o.drop (q + m + n))) := by
  have e1 : o.drop q = (o.drop q).take m ++ ((o.drop (q + m)).take n ++ o.drop (q + m + n)) := by
    rw [← List.drop_drop (i := n), List.take_append_drop, ← List.drop_drop (i := m), List.take_append_drop]
  have hr : NoK (o.drop (q + m + n)) := by
    intro d hd
    rw [List.head?_drop] at hd
    have := h2.2.2 d hd
    simpa using this
  have hm : ∀ c ∈ (o.drop (q + m)).take n, c.k = 1 := fun c hc => by have := h2.2.1 c hc; simpa using this
  have hl : ∀ c ∈ (o.drop q).take m, c.k ≠ 1 := fun c hc => by have := h1.2.1 c hc; simpa using this
  have e2 : normS ((o.drop (q + m)).take n ++ o.drop (q + m + n)) = keptS ((o.drop (q + m)).take n) ++ normS (o.drop (q + m + n)) := by
    rw [norm_append, kept_norm _ _ hm (NoK_norm (hg.drop _) hr)]
  have hk : IsK (keptS ((o.drop (q + m)).take n) ++ normS (o.drop (q + m + n))) := by
    by_cases h0 : (o.drop (q + m)).take n = []
    · have hn : n = 0 ∨ o.length ≤ q + m := by
        have := congrArg List.length h0
        rw [List.length_take, List.length_drop, List.length_nil] at this
        omega
      have he : o.drop (q + m + n) = [] := by
        by_cases hle : o.length ≤ q + m
        · exact List.drop_of_length_le (by omega)
        · have hn0 : n = 0 := by omega
          subst hn0
          obtain ⟨c, hc⟩ : ∃ c, o[q + m]? = some c := ⟨_, List.getElem?_eq_getElem (by omega)⟩
          have a1 := h1.2.2 c hc
          have a2 := h2.2.2 c hc
          rw [a1] at a2
          cases a2
      rw [h0, he]
      intro d hd
      simp [keptS, normS] at hd
    · rw [keptS, if_neg h0]
      intro d hd
      simp only [List.cons_append, List.head?_cons, Option.mem_some_iff] at hd
      subst hd
      rfl
  rw [e1, norm_append, e2, changed_norm _ _ ((hg.drop q).take m) hl hk]
  have e3 : (o.drop q).take m ++ ((o.drop (q + m)).take n ++ o.drop (q + m + n)) = o.drop q := e1.symm
  rw [e3]

theorem changed_len (l : List Cp) : (changedS l).length ≤ 2 * l.length := by
  cases l with
  | nil => simp [changedS, putsL, inS]
  | cons c l =>
    unfold changedS
    rw [List.length_append, List.length_cons]
    split <;> split <;> simp <;> omega
theorem kept_len (l : List Cp) : (keptS l).length ≤ l.length := by
  cases l with
  | nil => simp [keptS]
  | cons c l => simp [keptS]

/-- The place behind a stretch, read off its bits (for a measure). -/
def stE : Value → Nat
  | .complex _ a b => ((FloatKind.f64.decode a).toInt .zero).elim 0 Int.toNat + ((FloatKind.f64.decode b).toInt .zero).elim 0 Int.toNat
  | _ => 0
theorem stE_st (q m : Nat) (hq : q < 2 ^ 53) (h : m < 2 ^ 53) : stE (st q m) = q + m := by
  have e1 := stN_st m q hq
  have e2 := stN_st q m h
  unfold stN st at e1 e2
  unfold stE st
  simp only at e1 e2 ⊢
  rw [e1, e2]

set_option maxRecDepth 100000 in
set_option maxHeartbeats 2000000 in
theorem Normal_any (v : Value) (o : List Cp) (w : World) (hv : RC w v o) (hf : Fit o) (hg : Good o) (hO : outS o ≤ 1099511627776) :
    Calls Try.prog 21 #[v] w fun e w' => ∃ v', e = .returned v' ∧ HasC w' w.heap.size v' (normS o) ∧ Below w.heap.size w w' := by
  obtain ⟨ao, cap, rfl⟩ := hv.form
  have HV := hid hv
  have HF := hid hf
  have HG := hid hg
  have HU := hid hO
  have hlen := hf.1
  clear hv hf hg hO
  go_enter Try.func21, Try.ntmps21
  go_wp2_with fail
  refine wp_scope_at 0 (fun a' w' => ∃ (p n : Nat) (vo : Value) (l : List Cp), a' = ⟨#[.slice ao o.length cap, a'.tmps.getD 1 undef, a'.tmps.getD 2 undef, vo, st p n, a'.tmps.getD 5 undef, a'.tmps.getD 6 undef, a'.tmps.getD 7 undef, a'.tmps.getD 8 undef, a'.tmps.getD 9 undef, a'.tmps.getD 10 undef, a'.tmps.getD 11 undef, a'.tmps.getD 12 undef, a'.tmps.getD 13 undef, a'.tmps.getD 14 undef, a'.tmps.getD 15 undef, a'.tmps.getD 16 undef, a'.tmps.getD 17 undef, a'.tmps.getD 18 undef, a'.tmps.getD 19 undef, a'.tmps.getD 20 undef, a'.tmps.getD 21 undef, a'.tmps.getD 22 undef, a'.tmps.getD 23 undef, a'.tmps.getD 24 undef, a'.tmps.getD 25 undef, a'.tmps.getD 26 undef, a'.tmps.getD 27 undef, a'.tmps.getD 28 undef, a'.tmps.getD 29 undef, a'.tmps.getD 30 undef, a'.tmps.getD 31 undef, a'.tmps.getD 32 undef, a'.tmps.getD 33 undef, a'.tmps.getD 34 undef], []⟩ ∧ p + n ≤ o.length ∧ HasC w' w.heap.size vo l ∧ l.length ≤ 2 * (p + n) ∧ l ++ normS (o.drop (p + n)) = normS o ∧ Below w.heap.size w w')
    (fun a' _ => o.length - stE (a'.tmps.getD 4 undef)) rfl ?pass ?first
  case first =>
    intro hy
    have HY := hid hy
    clear hy
    go_wp2_with fail
    rename_i hK
    exact wp_label (hK _ _ (HY.out _ _ ⟨0, 0, _, [], rfl, Nat.zero_le _, HasC.nil _ _, by simp, rfl, Below.refl _ _⟩))
  case pass =>
    rintro a' w' ⟨p, n, vo, l, ha, hpn, hO, hll, hx, hb⟩
    obtain ⟨f, ha2⟩ : ∃ f : Nat → Value, a' = ⟨#[.slice ao o.length cap, f 1, f 2, vo, st p n, f 5, f 6, f 7, f 8, f 9, f 10, f 11, f 12, f 13, f 14, f 15, f 16, f 17, f 18, f 19, f 20, f 21, f 22, f 23, f 24, f 25, f 26, f 27, f 28, f 29, f 30, f 31, f 32, f 33, f 34], []⟩ := ⟨fun j => a'.tmps.getD j undef, ha⟩
    clear ha
    subst ha2
    obtain ⟨oo, oc, rfl⟩ := hO.form
    have HO := hid hO
    have HX := hid hx
    have Hb := hid hb
    clear hO hx hb
    go_wp2_with fail
    refine (run_any _ o p n false _ (HV.out.later Hb.out) hlen hpn).mono ?_
    rintro _ w2 ⟨m, rfl, hR1, rfl⟩
    have hq1 := hR1.1
    have HR1 := hid hR1
    clear hR1
    obtain ⟨ac, cc, hcut, hrc⟩ := cut_c (HV.out.later Hb.out) (p + n) m hq1
    simp only [Int.natCast_add] at hcut
    have HC := hid hrc
    clear hrc
    go_wp2_with fail
    refine (from_any (p + n) m (by omega) _).mono ?_
    rintro _ w3 ⟨rfl, rfl⟩
    go_wp2_with fail
    refine (end_any (p + n) m (by omega) _).mono ?_
    rintro _ w4 ⟨rfl, rfl⟩
    simp only [Int.natCast_add]
    go_wp2_with fail
    refine (changed_any _ ((o.drop (p + n)).take m) _ HC.out ((HF.out.drop _).take _) ((HG.out.drop _).take _) ?hou).mono ?_
    case hou =>
      have h1 := outS_split o (p + n)
      have h2 := outS_split (o.drop (p + n)) m
      have h3 := (outS_le _ (HF.out.take (p + n)).2).1
      have h4 := (outS_le _ ((HF.out.drop (p + n)).drop m).2).1
      have := HU.out
      omega
    rintro _ w5 ⟨v5, rfl, hH5, hb5⟩
    have H5 := hid hH5
    have Hb5 := hid hb5
    obtain ⟨a5, c5, rfl⟩ := hH5.form
    have hl5 := changed_len ((o.drop (p + n)).take m)
    have hl6 : ((o.drop (p + n)).take m).length = m := by rw [List.length_take, List.length_drop]; omega
    rw [hl6] at hl5
    clear hH5 hb5 hcut
    go_wp2_with (at_builtin; go_must (refine wpList_append_c rfl _ _ rfl w.heap.size _ l rfl (HO.out.later Hb5.out) ?hs _ _ rfl H5.out.reads ?hb ?_))
    case hs => have := Hb5.out.size; have := Hb.out.size; omega
    case hb => omega
    intro v7 w7 hH7 hb7
    obtain ⟨l7, hl7⟩ : ∃ l7, l ++ changedS ((o.drop (p + n)).take m) = l7 := ⟨_, rfl⟩
    have hn7 : l7.length ≤ 2 * (p + n + m) := by rw [← hl7, List.length_append]; omega
    rw [hl7] at hH7
    have HL7 := hid hl7
    clear hl7
    have H7 := hid hH7
    have Hb7 := hid (show Below w.heap.size w w7 from (below_seq Hb.out Hb5.out).trans hb7)
    obtain ⟨a7, c7, rfl⟩ := hH7.form
    clear hH7 hb7
    go_wp2_with fail
    refine (run_any _ o (p + n) m true _ (HV.out.later Hb7.out) hlen (by omega)).mono ?_
    rintro _ w8 ⟨k, rfl, hR2, rfl⟩
    have hq2 := hR2.1
    have HR2 := hid hR2
    clear hR2
    obtain ⟨ac2, cc2, hcut2, hrc2⟩ := cut_c (HV.out.later Hb7.out) (p + n + m) k hq2
    simp only [Int.natCast_add] at hcut2
    have HC2 := hid hrc2
    clear hrc2
    go_wp2_with fail
    refine (from_any (p + n + m) k (by omega) _).mono ?_
    rintro _ w9 ⟨rfl, rfl⟩
    go_wp2_with fail
    refine (end_any (p + n + m) k (by omega) _).mono ?_
    rintro _ w10 ⟨rfl, rfl⟩
    simp only [Int.natCast_add]
    go_wp2_with fail
    refine (kept_any _ ((o.drop (p + n + m)).take k) _ HC2.out ((HF.out.drop _).take _)).mono ?_
    rintro _ w11 ⟨v11, rfl, hH11, hb11⟩
    have H11 := hid hH11
    have Hb11 := hid hb11
    obtain ⟨a11, c11, rfl⟩ := hH11.form
    have hl11 := kept_len ((o.drop (p + n + m)).take k)
    have hl12 : ((o.drop (p + n + m)).take k).length = k := by rw [List.length_take, List.length_drop]; omega
    rw [hl12] at hl11
    clear hH11 hb11 hcut2
    go_wp2_with (at_builtin; go_must (refine wpList_append_c rfl _ _ rfl w.heap.size _ _ rfl (H7.out.later Hb11.out) ?hs2 _ _ rfl H11.out.reads ?hb2 ?_))
    case hs2 => have := Hb11.out.size; have := Hb7.out.size; omega
    case hb2 => omega
    intro v13 w13 hH13 hb13
    obtain ⟨l13, hl13⟩ : ∃ l13, l7 ++ keptS ((o.drop (p + n + m)).take k) = l13 := ⟨_, rfl⟩
    have hn13 : l13.length ≤ 2 * (p + n + m + k) := by rw [← hl13, List.length_append]; omega
    rw [hl13] at hH13
    have HL13 := hid hl13
    clear hl13
    have H13 := hid hH13
    have Hb13 := hid (show Below w.heap.size w w13 from (below_seq Hb7.out Hb11.out).trans hb13)
    obtain ⟨a13, c13, rfl⟩ := hH13.form
    clear hH13 hb13
    have HN := hid (show l13 ++ normS (o.drop (p + n + m + k)) = normS o by
      rw [← HL13.out, ← HL7.out, List.append_assoc, List.append_assoc, ← norm_round o (p + n) m k HG.out HR1.out HR2.out]; exact HX.out)
    go_wp2_with fail
    refine (end_any (p + n + m) k (by omega) _).mono ?_
    rintro _ w14 ⟨rfl, rfl⟩
    by_cases hlt : p + n + m + k < o.length
    · have hlt' : ((p + n + m + k : Nat) : Int) < (o.length : Int) := by omega
      have HM := hid (show p + n < p + n + m + k by
        by_cases h0 : m = 0
        · by_cases h1 : k = 0
          · subst h0 h1
            obtain ⟨c, hc⟩ : ∃ c, o[p + n]? = some c := ⟨_, List.getElem?_eq_getElem (by omega)⟩
            have a1 := HR1.out.2.2 c hc
            have a2 := HR2.out.2.2 c hc
            rw [a1] at a2
            cases a2
          · omega
        · omega)
      go_wp2_with fail
      go_step3
      refine ⟨rfl, ⟨p + n + m, k, _, _, rfl, by omega, H13.out, hn13, HN.out, Hb13.out⟩, ?_⟩
      have e1 := stE_st p n (by omega) (by omega)
      have e2 := stE_st (p + n + m) k (by omega) (by omega)
      have := HM.out
      simp [e1, e2]
      omega
    · have hge : ((p + n + m + k : Nat) : Int) = (o.length : Int) := by omega
      have hge2 : p + n + m + k = o.length := by omega
      have HN2 := hid (show l13 = normS o by
        have := HN.out
        rwa [hge2, List.drop_length, normS, List.append_nil] at this)
      rw [hge]
      clear hge hge2
      go_wp2_with fail
      simp only [Exit.jump]
      go_ret
      exact ⟨_, rfl, by rw [← HN2.out]; exact H13.out, Hb13.out⟩
end Go.Proofs.Ytlgdllbhddnokab

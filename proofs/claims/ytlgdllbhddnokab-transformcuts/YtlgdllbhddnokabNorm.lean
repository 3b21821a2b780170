/- The contracts of kept, changed and Normal. -/
import Derived.Test.YtlgdllbhddnokabRun
import Derived.Test.YtlgdllbhddnokabBld
import Derived.Test.YtlgdllbhddnokabNormS
namespace Go.Proofs.Ytlgdllbhddnokab
open Go.RowKit
set_option linter.unusedSimpArgs false
set_option linter.unusedVariables false

/-- One part, as it is built for an append. -/
theorem one_new (w : World) (c : Cp) (Bd : Nat) (hB : Bd ≤ w.heap.size) : HasC (w.alloc (.cells c.vals.toArray 42)) Bd (.slice (some ⟨w.heap.size, 0, none⟩) 1 1) [c] :=
  HasK.built (by rw [show C [c] = c.vals by simp [C]]; exact heap_alloc_new w _) (by rw [C_length]; rfl) hB

set_option maxRecDepth 100000 in
set_option maxHeartbeats 1000000 in
theorem kept_any (v : Value) (o : List Cp) (w : World) (hv : RC w v o) (hf : Fit o) :
    Calls Try.prog 34 #[v] w fun e w' => ∃ v', e = .returned v' ∧ HasC w' w.heap.size v' (keptS o) ∧ Below w.heap.size w w' := by
  obtain ⟨ao, cap, rfl⟩ := hv.form
  have HV := hid hv
  have HF := hid hf
  have hlen := hf.1
  clear hv hf
  by_cases h0 : o = []
  · subst h0
    go_enter Try.func34, Try.ntmps34
    go_wp2
    go_ret
    exact ⟨_, rfl, HasC.nil _ _, Below.refl _ _⟩
  · have hl0 : 0 < o.length := List.length_pos_iff.2 h0
    have hne : ((o.length : Int) == 0) = false := by simp; exact h0
    go_enter Try.func34, Try.ntmps34
    go_wp2_with fail
    refine (In_any _ o _ HV.out HF.out).mono ?_
    rintro _ w1 ⟨rfl, hb1⟩
    have HK := hid (show keptS o = [pK (inS o)] by rw [keptS, if_neg h0])
    have Hb1 := hid hb1
    generalize inS o = n0 at *
    clear hb1 h0 hne
    go_wp2
    go_ret
    refine ⟨_, rfl, ?_, ?_⟩
    · rw [HK.out]; exact one_new w1 (pK n0) _ Hb1.out.size
    · exact Hb1.out.alloc Hb1.out.size _
-- MORE
theorem putsL_le : ∀ (l : List Cp), (∀ c ∈ l, 0 ≤ c.n) → ((putsL l).length : Int) ≤ outS l
  | [], _ => by simp [putsL, outS]
  | c :: l, h => by
    have ih := putsL_le l (fun d hd => h d (by simp [hd]))
    have h0 := h c (by simp)
    have e : putsL (c :: l) = (if c.k = 2 then c.s.data.toList else []) ++ putsL l := rfl
    rw [e, List.length_append, outS, Cp.outl]
    by_cases hk : c.k = 2
    · rw [if_pos hk, if_neg (by omega), ← size_list]; omega
    · rw [if_neg hk]; simp only [List.length_nil]; split <;> omega
theorem putsL_take_succ (o : List Cp) (j : Nat) (c : Cp) (h : o[j]? = some c) : putsL (o.take (j + 1)) = putsL (o.take j) ++ (if c.k = 2 then c.s.data.toList else []) := by
  rw [take_succ' o j c h]; simp [putsL]

set_option maxRecDepth 100000 in
set_option maxHeartbeats 2000000 in
theorem changed_any (v : Value) (o : List Cp) (w : World) (hv : RC w v o) (hf : Fit o) (hg : Good o) (hO : outS o ≤ 1099511627776) :
    Calls Try.prog 31 #[v] w fun e w' => ∃ v', e = .returned v' ∧ HasC w' w.heap.size v' (changedS o) ∧ Below w.heap.size w w' := by
  obtain ⟨ao, cap, rfl⟩ := hv.form
  have HV := hid hv
  have HF := hid hf
  have HG := hid hg
  have HU := hid hO
  have hlen := hf.1
  clear hv hf hg hO
  go_enter Try.func31, Try.ntmps31
  go_wp2_with fail
  have hBD : BD (w.alloc (.cells #[.pointer none, .slice none 0 0] 68)) w.heap.size (.pointer none) [] := ⟨_, Blk.new w 68 [.pointer none, .slice none 0 0], Has.nil _ _ _⟩
  have Hb0 := hid (show Below w.heap.size w (w.alloc (.cells #[.pointer none, .slice none 0 0] 68)) from (Below.refl _ _).alloc (Nat.le_refl _) _)
  have HB0 := hid hBD
  clear hBD
  generalize w.alloc (.cells #[.pointer none, .slice none 0 0] 68) = w0 at *
  go_loopw [10] (fun i wr => ∃ (j : Nat) (p : Value), j ≤ o.length ∧ i = .int .i64 j ∧ (p = .pointer none ∨ p = me w.heap.size) ∧ BD wr w.heap.size p (putsL (o.take j)) ∧ Below w.heap.size w wr) (fun i _ => o.length - (intOf i).toNat)
  case atStart => exact ⟨0, _, Nat.zero_le _, rfl, .inl rfl, HB0.out, Hb0.out⟩
  case round =>
    obtain ⟨j, p, hj, rfl, hp, hB, hb⟩ := hrel
    have Hb := hid hb
    have HB := hid hB
    have HP := hid hp
    clear hb hB hp
    by_cases hlt : j < o.length
    · have hlt' : (j : Int) < (o.length : Int) := by omega
      obtain ⟨c, hc⟩ : ∃ c, o[j]? = some c := ⟨_, List.getElem?_eq_getElem hlt⟩
      obtain ⟨g, off, cap', e, hcap, hr, hgs⟩ := HV.out.place (by omega)
      injection e with e1 e2 e3
      subst e1 e3
      obtain ⟨c0, c1, c2⟩ := RC.cells hr hc
      replace c0 := cell_later Hb.out c0
      replace c1 := cell_later Hb.out c1
      replace c2 := cell_later Hb.out c2
      have hok := HG.out.at hc
      have HS := hid (putsL_take_succ o j c hc)
      have hA := HF.out.at hc
      have hbd : ((putsL (o.take (j + 1))).length : Int) ≤ 1099511627776 := by
        have h1 := putsL_le (o.take (j + 1)) (fun d hd => ((HF.out.take (j + 1)).2 d hd).1)
        have h2 := outS_split o (j + 1)
        have h3 := (outS_le _ (HF.out.drop (j + 1)).2).1
        have := HU.out
        omega
      clear hr hc e2
      by_cases h2 : c.k = 2
      · have hs1 : 0 < c.s.size := by rcases hok with ⟨hk, _⟩ | ⟨_, _, hk⟩ <;> omega
        have HS2 := hid (show putsL (o.take (j + 1)) = putsL (o.take j) ++ c.s.data.toList by rw [HS.out, if_pos h2])
        have HL := hid (show (putsL (o.take j)).length + c.s.size ≤ 1099511627776 by rw [HS2.out, List.length_append, ← size_list] at hbd; omega)
        rw [h2] at c0
        clear hbd hok HS
        go_wp2_with fail
        refine (Write_any w.heap.size p HP.out _ c.s hs1 (by have := HL.out; omega) _ (HB.out.later ((Below.refl _ _).alloc (Nat.le_refl _) _))).mono ?_
        rintro _ w2 ⟨rfl, hB2, hb2⟩
        have HB2 := hid hB2
        have Hb2 := hid hb2
        clear hB2 hb2
        go_wp2_with fail
        go_roundw
        case rel => exact ⟨j + 1, me w.heap.size, by omega, by go_num, .inr rfl, by rw [HS2.out]; exact HB2.out, (Hb.out.alloc Hb.out.size _).trans Hb2.out⟩
        case measure => simp [intOf]; omega
      · have HS2 := hid (show putsL (o.take (j + 1)) = putsL (o.take j) by rw [HS.out, if_neg h2, List.append_nil])
        have e1 : (c.k == 2) = false := by simpa using h2
        clear hbd hok HS
        go_wp2_with fail
        go_roundw
        case rel => exact ⟨j + 1, p, by omega, by go_num, HP.out, by rw [HS2.out]; exact HB.out.later ((Below.refl _ _).alloc (Nat.le_refl _) _), Hb.out.alloc Hb.out.size _⟩
        case measure => simp [intOf]; omega
    · have hj2 : j = o.length := by omega
      subst hj2
      rw [take_all'] at HB
      have hpl := putsL_le o (fun d hd => (HF.out.2 d hd).1)
      have hul := HU.out
      go_wp2_with fail
      refine (Len_any w.heap.size p _ _ HB.out).mono ?_
      rintro _ w2 ⟨rfl, rfl⟩
      by_cases hz : putsL o = []
      · have HC := hid (show changedS o = (if inS o = 0 then [] else [pX (inS o)]) by rw [changedS, if_pos hz, List.nil_append])
        rw [hz]
        clear hpl hul hz
        go_wp2_with fail
        refine (In_any _ o _ (HV.out.later Hb.out) HF.out).mono ?_
        rintro _ w3 ⟨rfl, hb3⟩
        have Hb3 := hid (below_seq Hb.out hb3)
        clear hb3
        generalize inS o = n0 at *
        by_cases hn : n0 = 0
        · subst hn
          rw [if_pos rfl] at HC
          go_wp2_with fail
          go_ret
          exact ⟨_, rfl, by rw [HC.out]; exact HasC.nil _ _, Hb3.out⟩
        · rw [if_neg hn] at HC
          have hne : (n0 == 0) = false := by simpa using hn
          clear hn
          go_wp2_with (at_builtin; go_must (refine wpList_append_c rfl _ _ rfl w.heap.size _ [] rfl (HasC.nil _ _) ?hs _ [pX n0] rfl (one_new w3 (pX n0) w.heap.size Hb3.out.size).reads ?hb ?_))
          case hs => have := Hb3.out.size; simp; omega
          case hb => simp
          intro v4 w4 hH4 hb4
          obtain ⟨ao4, cap4, rfl⟩ := hH4.form
          have H4 := hid hH4
          have Hb4 := hid ((Hb3.out.alloc Hb3.out.size _).trans hb4)
          clear hH4 hb4
          go_wp2_with fail
          go_ret
          exact ⟨_, rfl, by rw [HC.out]; exact H4.out, Hb4.out⟩
      · have HC := hid (show changedS o = [pP ⟨(putsL o).toArray⟩] ++ (if inS o = 0 then [] else [pX (inS o)]) by rw [changedS, if_neg hz])
        have HZ := hid hz
        have hpos : (0 : Int) < ((putsL o).length : Int) := by have := List.length_pos_iff.2 hz; omega
        obtain ⟨pl, hpe⟩ : ∃ pl, (⟨(putsL o).toArray⟩ : ByteArray) = pl := ⟨_, rfl⟩
        rw [hpe] at HC
        obtain ⟨pn, hpn⟩ : ∃ pn, (putsL o).length = pn := ⟨_, rfl⟩
        rw [hpn] at hpos ⊢
        clear hpl hul hz hpn
        go_wp2_with fail
        refine (String_any w.heap.size p _ HZ.out _ HB.out).mono ?_
        rintro _ w3 ⟨rfl, hb3⟩
        rw [hpe]
        have Hb3 := hid (Hb.out.trans hb3)
        clear hb3 hpe HB
        go_wp2_with (at_builtin; go_must (refine wpList_append_c rfl _ _ rfl w.heap.size _ [] rfl (HasC.nil _ _) ?hs _ [pP pl] rfl (one_new w3 (pP pl) w.heap.size Hb3.out.size).reads ?hb ?_))
        case hs => have := Hb3.out.size; simp; omega
        case hb => simp
        intro v4 w4 hH4 hb4
        obtain ⟨ao4, cap4, rfl⟩ := hH4.form
        have H4 := hid hH4
        have Hb4 := hid ((Hb3.out.alloc Hb3.out.size _).trans hb4)
        clear hH4 hb4
        go_wp2_with fail
        refine (In_any _ o _ (HV.out.later Hb4.out) HF.out).mono ?_
        rintro _ w5 ⟨rfl, hb5⟩
        have Hb5 := hid (below_seq Hb4.out hb5)
        have H5 := hid (H4.out.later hb5)
        clear hb5
        generalize inS o = n0 at *
        by_cases hn : n0 = 0
        · subst hn
          rw [if_pos rfl] at HC
          go_wp2_with fail
          go_ret
          exact ⟨_, rfl, by rw [HC.out]; exact H5.out, Hb5.out⟩
        · rw [if_neg hn] at HC
          have hne : (n0 == 0) = false := by simpa using hn
          clear hn
          go_wp2_with (at_builtin; go_must (refine wpList_append_c rfl _ _ rfl w.heap.size _ ([] ++ [pP pl]) rfl (H5.out.later ((Below.refl _ _).alloc (Nat.le_refl _) _)) ?hs _ [pX n0] rfl (one_new w5 (pX n0) w.heap.size Hb5.out.size).reads ?hb ?_))
          case hs => have := Hb5.out.size; simp; omega
          case hb => simp
          intro v6 w6 hH6 hb6
          obtain ⟨ao6, cap6, rfl⟩ := hH6.form
          have H6 := hid hH6
          have Hb6 := hid ((Hb5.out.alloc Hb5.out.size _).trans hb6)
          clear hH6 hb6
          go_wp2_with fail
          go_ret
          exact ⟨_, rfl, by rw [HC.out]; exact H6.out, Hb6.out⟩
end Go.Proofs.Ytlgdllbhddnokab

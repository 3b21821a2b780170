/- The contract of the second say's Op of chapter 6. -/
import Derived.Test.YtlgdllbhddnokabIStep
import Derived.Test.YtlgdllbhddnokabRefNormal
import Derived.Test.YtlgdllbhddnokabRefIO
namespace Go.Proofs.Ytlgdllbhddnokab
open Go.RowKit
set_option linter.unusedSimpArgs false
set_option linter.unusedVariables false

set_option maxRecDepth 100000 in
set_option maxHeartbeats 4000000 in
theorem rOp_any (d : ByteArray) (v : Value) (o : List Cp) (w : World) (hv : RC w v o) (hf : Fit o) (hg : Good o) (hd : d.size ≤ 1099511627776) (hu : outS o ≤ 1099511627776) :
    Calls Try.prog 12 #[.string d, v] w fun e w' => (inS o ≠ d.size → e = .returned (.tuple #[.slice none 0 0, .int .i64 7])) ∧ (inS o = d.size → ∃ v', e = .returned (.tuple #[v', .int .i64 0]) ∧ HasC w' w.heap.size v' (invS d o)) ∧ Below w.heap.size w w' := by
  obtain ⟨ao, cap, rfl⟩ := hv.form
  have HV := hid hv
  have HF := hid hf
  have HG := hid hg
  have HU := hid hu
  have hlen := hf.1
  clear hv hf hg hu
  go_enter Try.func12, Try.ntmps12
  go_wp2_with fail
  refine (refIn_any _ o _ HV.out HF.out HG.out).mono ?_
  rintro _ w1 ⟨rfl, rfl⟩
  by_cases h1 : inS o = d.size
  case neg =>
    have hne : (inS o == (d.size : Int)) = false := by simpa using h1
    have HN := hid h1
    clear h1
    obtain ⟨n0, hn0⟩ : ∃ n0, inS o = n0 := ⟨_, rfl⟩
    rw [hn0] at hne ⊢
    have HN0 := hid hn0
    clear hn0
    go_wp2_with fail
    go_ret2
    exact ⟨fun _ => rfl, fun h => absurd h (by first | exact HN.out | (rw [← HN0.out]; exact HN.out)), Below.refl _ _⟩
  have HE := hid h1
  rw [h1]
  clear h1
  go_wp2_with fail
  go_loopw [6, 7, 8] (fun x q i wr => ∃ (j p : Nat) (l : List Cp), i = .int .i64 j ∧ q = .int .i64 p ∧ IP d o j p l ∧ HasC wr w1.heap.size x l ∧ Below w1.heap.size w1 wr) (fun _ _ i _ => o.length - (intOf i).toNat)
  case atStart => exact ⟨0, 0, [], rfl, rfl, IP.start d o, HasC.nil _ _, Below.refl _ _⟩
  case round =>
    obtain ⟨j, p, l, rfl, rfl, hP, hO, hb⟩ := hrel
    obtain ⟨oo, oc, rfl⟩ := hO.form
    have HO := hid hO
    have HP := hid hP
    have Hb := hid hb
    have HLL := hid hP.len
    have hjl := hP.le
    clear hO hP hb
    by_cases hlt : j < o.length
    case pos =>
      have hlt' : (j : Int) < (o.length : Int) := by omega
      obtain ⟨c, hc⟩ : ∃ c, o[j]? = some c := ⟨_, List.getElem?_eq_getElem hlt⟩
      have hok := HG.out.at hc
      obtain ⟨m, hm⟩ : ∃ m : Nat, c.over = (m : Int) := Int.eq_ofNat_of_zero_le (over_nn hok).1
      have hqm : p + m ≤ d.size := by
        have h1 := (HP.out.step hc hm).at'
        have h2 := inS_split o (j + 1)
        have h3 := (HG.out.drop (j + 1)).inS_nn
        have h4 := HE.out
        omega
      have HS := hid (HP.out.step hc hm)
      obtain ⟨g, off, cap', e, hcap, hr, hgs⟩ := HV.out.place (by omega)
      injection e with e1 e2 e3
      subst e1 e3
      have HCL := hid (RC.cells hr hc)
      have hlb : l.length + 1 ≤ 4398046511104 := by have := HLL.out; omega
      have HLB := hid hlb
      clear hc hr hgs e2 hlb
      rcases ok_cases hok with ⟨k, hk, rfl⟩ | ⟨s, hs, rfl⟩ | ⟨k, hk, rfl⟩
      case inl =>
        have hmk : k = m := by rw [over_K] at hm; omega
        subst hmk
        simp only [undC, pK, pP, pX] at HS HCL
        obtain ⟨c0, c1, c2⟩ := HCL.out
        replace c0 := cell_later Hb.out c0
        replace c1 := cell_later Hb.out c1
        replace c2 := cell_later Hb.out c2
        have c0' : ∀ ob, (wr.alloc ob).cell? ⟨g, off + j * 3, none⟩ = some _ := fun ob => cell_later ((Below.refl _ _).alloc (Nat.le_refl _) ob) c0
        have c1' : ∀ ob, (wr.alloc ob).cell? ⟨g, off + j * 3 + 1, none⟩ = some _ := fun ob => cell_later ((Below.refl _ _).alloc (Nat.le_refl _) ob) c1
        have c2' : ∀ ob, (wr.alloc ob).cell? ⟨g, off + j * 3 + 2, none⟩ = some _ := fun ob => cell_later ((Below.refl _ _).alloc (Nat.le_refl _) ob) c2
        have g1 : (p : Int) ≤ (p : Int) + (k : Int) := by omega
        have g2 : (p : Int) + (k : Int) ≤ (d.size : Int) := by omega
        clear hm
        go_wp2_with (at_builtin; go_must (refine wpList_append_c rfl _ _ rfl w1.heap.size _ l rfl (HO.out.later ((Below.refl _ _).alloc (Nat.le_refl _) _)) ?hs _ [pK k] rfl (one_new wr (pK k) w1.heap.size Hb.out.size).reads ?hb ?_))
        case hs => exact (Hb.out.alloc Hb.out.size _).size
        case hb => exact HLB.out
        intro v6 w6 hH6 hb6
        have Hb6 := hid (show Below w1.heap.size w1 w6 from (Hb.out.alloc Hb.out.size _).trans hb6)
        have HS6 := hid (show IP d o (j + 1) (p + k) (l ++ [pK k]) from HS.out)
        obtain ⟨l6, hl6⟩ : ∃ l6, l ++ [pK k] = l6 := ⟨_, rfl⟩
        rw [hl6] at hH6 HS6
        obtain ⟨a6, c6, rfl⟩ := hH6.form
        have H6 := hid hH6
        clear hl6 hH6 hb6 c0' c1' c2'
        obtain ⟨c0, c1, c2⟩ := HCL.out
        replace c0 := cell_later Hb6.out c0
        replace c1 := cell_later Hb6.out c1
        replace c2 := cell_later Hb6.out c2
        go_wp2_with fail
        go_roundw
        case rel => exact ⟨j + 1, p + k, l6, by go_num, by go_num, HS6.out, H6.out, Hb6.out⟩
        case measure => simp [intOf]; omega
      case inr.inl =>
        have hmk : 0 = m := by rw [over_P] at hm; omega
        subst hmk
        simp only [undC, pK, pP, pX] at HS HCL
        obtain ⟨c0, c1, c2⟩ := HCL.out
        replace c0 := cell_later Hb.out c0
        replace c1 := cell_later Hb.out c1
        replace c2 := cell_later Hb.out c2
        have c0' : ∀ ob, (wr.alloc ob).cell? ⟨g, off + j * 3, none⟩ = some _ := fun ob => cell_later ((Below.refl _ _).alloc (Nat.le_refl _) ob) c0
        have c1' : ∀ ob, (wr.alloc ob).cell? ⟨g, off + j * 3 + 1, none⟩ = some _ := fun ob => cell_later ((Below.refl _ _).alloc (Nat.le_refl _) ob) c1
        have c2' : ∀ ob, (wr.alloc ob).cell? ⟨g, off + j * 3 + 2, none⟩ = some _ := fun ob => cell_later ((Below.refl _ _).alloc (Nat.le_refl _) ob) c2
        clear hm
        go_wp2_with (at_builtin; go_must (refine wpList_append_c rfl _ _ rfl w1.heap.size _ l rfl (HO.out.later ((Below.refl _ _).alloc (Nat.le_refl _) _)) ?hs _ [pX s.size] rfl (one_new wr (pX s.size) w1.heap.size Hb.out.size).reads ?hb ?_))
        case hs => exact (Hb.out.alloc Hb.out.size _).size
        case hb => exact HLB.out
        intro v6 w6 hH6 hb6
        have Hb6 := hid (show Below w1.heap.size w1 w6 from (Hb.out.alloc Hb.out.size _).trans hb6)
        have HS6 := hid (show IP d o (j + 1) (p + 0) (l ++ [pX s.size]) from HS.out)
        obtain ⟨l6, hl6⟩ : ∃ l6, l ++ [pX s.size] = l6 := ⟨_, rfl⟩
        rw [hl6] at hH6 HS6
        obtain ⟨a6, c6, rfl⟩ := hH6.form
        have H6 := hid hH6
        clear hl6 hH6 hb6 c0' c1' c2'
        obtain ⟨c0, c1, c2⟩ := HCL.out
        replace c0 := cell_later Hb6.out c0
        replace c1 := cell_later Hb6.out c1
        replace c2 := cell_later Hb6.out c2
        go_wp2_with fail
        go_roundw
        case rel => exact ⟨j + 1, p + 0, l6, by go_num, rfl, HS6.out, H6.out, Hb6.out⟩
        case measure => simp [intOf]; omega
      case inr.inr =>
        have hmk : k = m := by rw [over_X] at hm; omega
        subst hmk
        simp only [undC, pK, pP, pX] at HS HCL
        obtain ⟨c0, c1, c2⟩ := HCL.out
        replace c0 := cell_later Hb.out c0
        replace c1 := cell_later Hb.out c1
        replace c2 := cell_later Hb.out c2
        have c0' : ∀ ob, (wr.alloc ob).cell? ⟨g, off + j * 3, none⟩ = some _ := fun ob => cell_later ((Below.refl _ _).alloc (Nat.le_refl _) ob) c0
        have c1' : ∀ ob, (wr.alloc ob).cell? ⟨g, off + j * 3 + 1, none⟩ = some _ := fun ob => cell_later ((Below.refl _ _).alloc (Nat.le_refl _) ob) c1
        have c2' : ∀ ob, (wr.alloc ob).cell? ⟨g, off + j * 3 + 2, none⟩ = some _ := fun ob => cell_later ((Below.refl _ _).alloc (Nat.le_refl _) ob) c2
        have g1 : (p : Int) ≤ (p : Int) + (k : Int) := by omega
        have g2 : (p : Int) + (k : Int) ≤ (d.size : Int) := by omega
        clear hm
        go_wp2_with (at_builtin; go_must (refine wpList_append_c rfl _ _ rfl w1.heap.size _ l rfl (HO.out.later ((Below.refl _ _).alloc (Nat.le_refl _) _)) ?hs _ [pP (d.extract p (p + k))] rfl (one_new wr (pP (d.extract p (p + k))) w1.heap.size Hb.out.size).reads ?hb ?_))
        case hs => exact (Hb.out.alloc Hb.out.size _).size
        case hb => exact HLB.out
        intro v6 w6 hH6 hb6
        have Hb6 := hid (show Below w1.heap.size w1 w6 from (Hb.out.alloc Hb.out.size _).trans hb6)
        have HS6 := hid (show IP d o (j + 1) (p + k) (l ++ [pP (d.extract p (p + k))]) from HS.out)
        obtain ⟨l6, hl6⟩ : ∃ l6, l ++ [pP (d.extract p (p + k))] = l6 := ⟨_, rfl⟩
        rw [hl6] at hH6 HS6
        obtain ⟨a6, c6, rfl⟩ := hH6.form
        have H6 := hid hH6
        clear hl6 hH6 hb6 c0' c1' c2'
        obtain ⟨c0, c1, c2⟩ := HCL.out
        replace c0 := cell_later Hb6.out c0
        replace c1 := cell_later Hb6.out c1
        replace c2 := cell_later Hb6.out c2
        go_wp2_with fail
        go_roundw
        case rel => exact ⟨j + 1, p + k, l6, by go_num, by go_num, HS6.out, H6.out, Hb6.out⟩
        case measure => simp [intOf]; omega
    case neg =>
      have hj2 : j = o.length := by omega
      subst hj2
      have HI := hid (und_ua o d.data.toList HG.out (by rw [HE.out]; simp))
      have HL := hid HP.out.over
      have HFl := hid (show Fit l by
        rw [HL.out]
        refine fit_of HI.out.good (by rw [und_len]; exact hlen) ?_ ?_
        · rw [HI.out.ins]; exact HU.out
        · rw [HI.out.outs, HE.out]; omega)
      clear hjl hlt
      go_wp2_with fail
      refine (refNormal_any _ l _ HO.out.reads HFl.out (by rw [HL.out]; exact HI.out.good)).mono ?_
      rintro _ w2 ⟨v2, rfl, hH2, hb2⟩
      have H2 := hid (show HasC w2 w1.heap.size v2 (invS d o) by rw [invS, ← HL.out]; exact hH2.mono Hb.out.size)
      have Hb2 := hid (below_seq Hb.out hb2)
      clear hH2 hb2
      go_wp2_with fail
      go_ret2
      exact ⟨fun h => absurd HE.out h, fun _ => ⟨_, rfl, H2.out⟩, Hb2.out⟩
end Go.Proofs.Ytlgdllbhddnokab

/- The contracts of the second say's Check (chapter 4). -/
import Derived.Test.YtajkjbhfkeakhaaChk
namespace Go.Proofs.Ytajkjbhfkeakhaa
open Go.RowKit
set_option linter.unusedSimpArgs false
set_option linter.unusedVariables false

set_option maxHeartbeats 1000000 in
theorem refPart_any (c : Cp) (w : World) (hsz : c.s.size ≤ 1099511627776) :
    Calls Try.prog 69 #[.agg c.vals.toArray] w fun e w' => e = .returned (.int .i64 (chkP c)) ∧ Below w.heap.size w w' := by
  obtain ⟨k, n, s⟩ := c
  simp only [Cp.vals]
  simp only at hsz
  have HB := hid (show ∀ ob, Below w.heap.size w (w.alloc ob) from fun ob => (Below.refl _ _).alloc (Nat.le_refl _) ob)
  by_cases h13 : k = 1 ∨ k = 3
  · by_cases h1 : n < 1
    · have HR := hid (show chkP ⟨k, n, s⟩ = 1 by rw [chkP, if_pos h13, if_pos (.inl h1)])
      rcases h13 with rfl | rfl
      all_goals
        go_enter Try.func69, Try.ntmps69
        go_wp2
        go_ret
        exact ⟨by rw [HR.out]; rfl, HB.out _⟩
    by_cases h2 : 120 < n
    · have HR := hid (show chkP ⟨k, n, s⟩ = 1 by rw [chkP, if_pos h13, if_pos (.inr (.inl h2))])
      rcases h13 with rfl | rfl
      all_goals
        go_enter Try.func69, Try.ntmps69
        go_wp2
        go_ret
        exact ⟨by rw [HR.out]; rfl, HB.out _⟩
    by_cases h3 : s.size = 0
    · have HR := hid (show chkP ⟨k, n, s⟩ = 0 by rw [chkP, if_pos h13, if_neg (by simp only; omega)])
      have hs := em0 h3
      subst hs
      rcases h13 with rfl | rfl
      all_goals
        go_enter Try.func69, Try.ntmps69
        go_wp2
        go_ret
        exact ⟨by rw [HR.out]; rfl, HB.out _⟩
    · have HR := hid (show chkP ⟨k, n, s⟩ = 1 by rw [chkP, if_pos h13, if_pos (.inr (.inr h3))])
      have hs := ne0 h3
      rcases h13 with rfl | rfl
      all_goals
        go_enter Try.func69, Try.ntmps69
        go_wp2
        go_ret
        exact ⟨by rw [HR.out]; rfl, HB.out _⟩
  have e1 : (k == 1) = false := by simp; omega
  have e3 : (k == 3) = false := by simp; omega
  by_cases h2 : k = 2
  · subst h2
    by_cases hn : n = 0
    · subst hn
      by_cases h3 : s.size = 0
      · have HR := hid (show chkP ⟨2, 0, s⟩ = 1 by rw [chkP, if_neg h13, if_pos rfl, if_pos (.inr h3)])
        have hs := em0 h3
        subst hs
        go_enter Try.func69, Try.ntmps69
        go_wp2
        go_ret
        exact ⟨by rw [HR.out]; rfl, HB.out _⟩
      have hs := ne0 h3
      by_cases h4 : 120 < s.size
      · have HR := hid (show chkP ⟨2, 0, s⟩ = 5 by rw [chkP, if_neg h13, if_pos rfl, if_neg (by simp only; omega), if_pos h4])
        go_enter Try.func69, Try.ntmps69
        go_wp2
        go_ret
        exact ⟨by rw [HR.out]; rfl, HB.out _⟩
      · have HR := hid (show chkP ⟨2, 0, s⟩ = 0 by rw [chkP, if_neg h13, if_pos rfl, if_neg (by simp only; omega), if_neg h4])
        go_enter Try.func69, Try.ntmps69
        go_wp2
        go_ret
        exact ⟨by rw [HR.out]; rfl, HB.out _⟩
    · have HR := hid (show chkP ⟨2, n, s⟩ = 1 by rw [chkP, if_neg h13, if_pos rfl, if_pos (.inl hn)])
      have hne : (n == 0) = false := by simpa using hn
      go_enter Try.func69, Try.ntmps69
      go_wp2
      go_ret
      exact ⟨by rw [HR.out]; rfl, HB.out _⟩
  · have HR := hid (show chkP ⟨k, n, s⟩ = 3 by rw [chkP, if_neg h13, if_neg h2])
    have e2 : (k == 2) = false := by simp; omega
    go_enter Try.func69, Try.ntmps69
    go_wp2
    go_ret
    exact ⟨by rw [HR.out]; rfl, HB.out _⟩

set_option maxRecDepth 100000 in
set_option maxHeartbeats 1000000 in
theorem refCheck_any (v : Value) (o : List Cp) (w : World) (hv : RC w v o) (hs : ∀ c ∈ o, c.s.size ≤ 1099511627776) (hln : o.length ≤ 1099511627776) :
    Calls Try.prog 48 #[v] w fun e w' => e = .returned (.int .i64 (chkS o)) ∧ Below w.heap.size w w' := by
  obtain ⟨ao, cap, rfl⟩ := hv.form
  have HV := hid hv
  have HS := hid hs
  clear hv hs
  by_cases h40 : 40 < o.length
  · have HR := hid (show chkS o = 4 by rw [chkS, if_pos h40])
    go_enter Try.func48, Try.ntmps48
    go_wp2
    go_ret
    exact ⟨by rw [HR.out]; rfl, Below.refl _ _⟩
  have HR := hid (show chkS o = chkL o by rw [chkS, if_neg h40])
  go_enter Try.func48, Try.ntmps48
  go_wp2
  go_loopw [3] (fun i wr => ∃ j : Nat, j ≤ o.length ∧ i = .int .i64 j ∧ chkL (o.drop j) = chkL o ∧ Below w.heap.size w wr) (fun i _ => o.length - (intOf i).toNat)
  case atStart => exact ⟨0, Nat.zero_le _, rfl, rfl, Below.refl _ _⟩
  case round =>
    obtain ⟨j, hj, rfl, hx, hb⟩ := hrel
    have Hb := hid hb
    have HX := hid hx
    clear hb hx
    by_cases hlt : j < o.length
    · have hlt' : (j : Int) < (o.length : Int) := by omega
      obtain ⟨c, hc⟩ : ∃ c, o[j]? = some c := ⟨_, List.getElem?_eq_getElem hlt⟩
      obtain ⟨g, off, cap', e, hcap, hr, hg⟩ := HV.out.place (by omega)
      injection e with e1 e2 e3
      subst e1 e3
      obtain ⟨c0, c1, c2⟩ := RC.cells hr hc
      replace c0 := cell_later Hb.out c0
      replace c1 := cell_later Hb.out c1
      replace c2 := cell_later Hb.out c2
      have hsz := HS.out c (List.mem_of_getElem? hc)
      have HD := hid (show chkL (o.drop j) = if chkP c ≠ 0 then chkP c else chkL (o.drop (j + 1)) by rw [drop_cons' o j c hc]; rfl)
      clear hr hc e2
      go_wp2_with fail
      refine (refPart_any c _ hsz).mono ?_
      rintro _ w2 ⟨rfl, hb2⟩
      have Hb2 := hid (show Below w.heap.size w w2 from below_seq Hb.out hb2)
      clear hb2
      obtain ⟨r, hr⟩ : ∃ r, chkP c = r := ⟨_, rfl⟩
      rw [hr] at HD ⊢
      by_cases h0 : r = 0
      · subst h0
        have HN := hid (show chkL (o.drop (j + 1)) = chkL o by rw [← HX.out, HD.out]; simp)
        go_wp2_with fail
        go_roundw
        case rel => exact ⟨j + 1, by omega, by go_num, HN.out, Hb2.out⟩
        case measure => simp [intOf]; omega
      · have HN := hid (show chkL o = r by rw [← HX.out, HD.out, if_pos h0])
        have hne : (r == 0) = false := by simpa using h0
        go_wp2_with fail
        go_ret
        exact ⟨by rw [HR.out, HN.out]; rfl, Hb2.out⟩
    · have hj2 : j = o.length := by omega
      subst hj2
      have HN := hid (show chkL o = 0 by rw [← HX.out, List.drop_length]; rfl)
      go_wp2
      go_ret
      exact ⟨by rw [HR.out, HN.out]; rfl, Hb.out⟩
end Go.Proofs.Ytajkjbhfkeakhaa

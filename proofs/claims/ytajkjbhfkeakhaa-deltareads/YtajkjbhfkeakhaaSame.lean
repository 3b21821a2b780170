/- The contract of Same. -/
import Derived.Test.YtajkjbhfkeakhaaNeqC
namespace Go.Proofs.Ytajkjbhfkeakhaa
open Go.RowKit
set_option linter.unusedSimpArgs false
set_option linter.unusedVariables false

set_option maxRecDepth 100000 in
set_option maxHeartbeats 2000000 in
theorem Equal_any (va vb : Value) (a b : List Cp) (w : World) (ha : RC w va a) (hb : RC w vb b) (hla : a.length ≤ 1048576) (hlb : b.length ≤ 1048576) :
    Calls Try.prog 63 #[va, vb] w fun e w' => e = .returned (.bool (sameL a b)) ∧ Below w.heap.size w w' := by
  obtain ⟨aa, ca, rfl⟩ := ha.form
  obtain ⟨ab, cb, rfl⟩ := hb.form
  have HA := hid ha
  have HB := hid hb
  clear ha hb
  by_cases hl : a.length = b.length
  case neg =>
    have HS := hid (sameL_len hl)
    have hne : ((a.length : Int) == (b.length : Int)) = false := by simp; omega
    go_enter Try.func63, Try.ntmps63
    go_wp2
    go_ret
    exact ⟨by rw [HS.out]; rfl, Below.refl _ _⟩
  have HL := hid hl
  have heq : ((b.length : Int) == (b.length : Int)) = true := by simp
  rw [hl] at HA ⊢
  clear hl
  obtain ⟨n, hn⟩ : ∃ n, b.length = n := ⟨_, rfl⟩
  rw [hn] at HA HB hlb heq ⊢
  have HN := hid hn
  clear hn hla
  go_enter Try.func63, Try.ntmps63
  go_wp2
  go_loopw [13, 5] (fun i _ wr => ∃ j : Nat, j ≤ n ∧ i = .int .i64 j ∧ sameL (a.drop j) (b.drop j) = sameL a b ∧ Below w.heap.size w wr) (fun i _ _ => n - (intOf i).toNat)
  case atStart => exact ⟨0, Nat.zero_le _, rfl, rfl, Below.refl _ _⟩
  case round =>
    obtain ⟨j, hj, rfl, hx, hb⟩ := hrel
    have Hb := hid hb
    have HX := hid hx
    clear hb hx
    by_cases hlt : j < n
    · have hlt' : (j : Int) < (n : Int) := by omega
      obtain ⟨x, hxa⟩ : ∃ c, a[j]? = some c := ⟨_, List.getElem?_eq_getElem (by have := HL.out; have := HN.out; omega)⟩
      obtain ⟨y, hyb⟩ : ∃ c, b[j]? = some c := ⟨_, List.getElem?_eq_getElem (by have := HN.out; omega)⟩
      obtain ⟨ga, oa, ca', e, hcapa, hra, hga⟩ := HA.out.place (by have := HL.out; have := HN.out; omega)
      injection e with e1 e2 e3
      subst e1 e3
      obtain ⟨gb, ob, cb', e, hcapb, hrb, hgb⟩ := HB.out.place (by have := HN.out; omega)
      injection e with e1 e4 e3
      subst e1 e3
      obtain ⟨x0, x1, x2⟩ := RC.cells hra hxa
      obtain ⟨y0, y1, y2⟩ := RC.cells hrb hyb
      replace x0 := cell_later Hb.out x0
      replace x1 := cell_later Hb.out x1
      replace x2 := cell_later Hb.out x2
      replace y0 := cell_later Hb.out y0
      replace y1 := cell_later Hb.out y1
      replace y2 := cell_later Hb.out y2
      have HD := hid (show sameL (a.drop j) (b.drop j) = (sameC x y && sameL (a.drop (j + 1)) (b.drop (j + 1))) by rw [drop_cons' a j x hxa, drop_cons' b j y hyb]; rfl)
      have hneq := fun wx => neq_c wx x y
      clear hra hrb hxa hyb e2 e4 hcapa hcapb
      by_cases hs : sameC x y = true
      · rw [hs] at hneq
        have HR := hid (show sameL (a.drop (j + 1)) (b.drop (j + 1)) = sameL a b by rw [← HX.out, HD.out, hs]; rfl)
        clear hs
        go_wp2_with fail
        go_region
        all_goals
          go_wp2_with fail
          go_roundw
          case rel => exact ⟨j + 1, by omega, by go_num, HR.out, Hb.out.drew⟩
          case measure => simp [intOf]; omega
      · have hs2 : sameC x y = false := by simpa using hs
        rw [hs2] at hneq
        have HR := hid (show sameL a b = false by rw [← HX.out, HD.out, hs2]; rfl)
        clear hs hs2
        go_wp2_with fail
        go_region
        all_goals
          go_wp2_with fail
          go_ret
          exact ⟨by rw [HR.out]; rfl, Hb.out.drew⟩
    · have hj2 : j = n := by omega
      subst hj2
      have HR := hid (show sameL a b = true by rw [← HX.out, List.drop_of_length_le (by have := HL.out; have := HN.out; omega), List.drop_of_length_le (by have := HN.out; omega)]; rfl)
      go_wp2
      go_ret
      exact ⟨by rw [HR.out]; rfl, Hb.out⟩

theorem Same_any (va vb : Value) (a b : List Cp) (w : World) (ha : RC w va a) (hb : RC w vb b) (hla : a.length ≤ 1048576) (hlb : b.length ≤ 1048576) :
    Calls Try.prog 33 #[va, vb] w fun e w' => e = .returned (.bool (sameL a b)) ∧ Below w.heap.size w w' := by
  generalize hr : sameL a b = r
  go_enter Try.func33, Try.ntmps33
  go_wp2_with fail
  refine (Equal_any va vb a b _ ha hb hla hlb).mono ?_
  rintro _ w1 ⟨rfl, hb1⟩
  rw [hr]
  go_wp2_with fail
  go_ret
  exact ⟨rfl, hb1⟩
end Go.Proofs.Ytajkjbhfkeakhaa

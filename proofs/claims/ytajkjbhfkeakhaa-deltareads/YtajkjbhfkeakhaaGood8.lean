/- The contracts of the laws' own Few (chapters 4 and 8). -/
import Derived.Test.YtajkjbhfkeakhaaKnown8
import Derived.Test.YtajkjbhfkeakhaaBytesS
import Derived.Test.YtajkjbhfkeakhaaOpen8
namespace Go.Proofs.Ytajkjbhfkeakhaa
open Go.RowKit
set_option linter.unusedSimpArgs false
set_option linter.unusedVariables false

def fewL : List Cp → Bool
  | [] => true
  | c :: o => decide (c.s.size ≤ 150) && fewL o
def few4S (o : List Cp) : Bool := fewL o && decide (o.length ≤ 50)
theorem fewL_iff : ∀ (o : List Cp), fewL o = true ↔ ∀ c ∈ o, c.s.size ≤ 150
  | [] => by simp [fewL]
  | c :: o => by simp [fewL, fewL_iff o]
theorem few4_iff (o : List Cp) : few4S o = true ↔ FewS o := by
  simp only [few4S, Bool.and_eq_true, fewL_iff, decide_eq_true_eq, FewS]
  exact And.comm

set_option maxRecDepth 100000 in
set_option maxHeartbeats 1000000 in
theorem few4_any (v : Value) (o : List Cp) (w : World) (hv : InOp w v o) :
    Calls Try.prog 21 #[v] w fun e w' => e = .returned (.bool (few4S o)) ∧ w' = w := by
  obtain ⟨ao, cap, rfl⟩ := hv.1.form
  have HV := hid hv.1
  have HS := hid (show ∀ c ∈ o, c.s.size ≤ 9223372036854775807 from fun c hc => ba_of (hv.2.1 c hc).1)
  have hln : o.length ≤ 9223372036854775807 := by have := hv.2.2; unfold maxLen at this; omega
  clear hv
  go_enter Try.func21, Try.ntmps21
  go_wp2_with fail
  go_loopw [3] (fun i wr => ∃ j : Nat, j ≤ o.length ∧ i = .int .i64 j ∧ fewL (o.drop j) = fewL o ∧ wr = w) (fun i _ => o.length - (intOf i).toNat)
  case atStart => exact ⟨0, Nat.zero_le _, rfl, rfl, rfl⟩
  case round =>
    obtain ⟨j, hj, rfl, hx, hw⟩ := hrel
    subst wr
    have HX := hid hx
    clear hx
    by_cases hlt : j < o.length
    · have hlt' : (j : Int) < (o.length : Int) := by omega
      obtain ⟨c, hc⟩ : ∃ c, o[j]? = some c := ⟨_, List.getElem?_eq_getElem hlt⟩
      obtain ⟨g, off, cap', e, hcap, hr, hg⟩ := HV.out.place (by omega)
      injection e with e1 e2 e3
      subst e1 e3
      obtain ⟨c0, c1, c2⟩ := RC.cells hr hc
      have hsz := HS.out c (List.mem_of_getElem? hc)
      have HD := hid (show fewL (o.drop j) = (decide (c.s.size ≤ 150) && fewL (o.drop (j + 1))) by rw [drop_cons' o j c hc]; rfl)
      clear hr hc e2 c0 c1
      by_cases h150 : 150 < c.s.size
      · have HR := hid (show few4S o = false by rw [few4S, ← HX.out, HD.out, decide_eq_false (by omega)]; rfl)
        have h150' : (150 : Int) < (c.s.size : Int) := by omega
        go_wp2_with fail
        go_ret
        exact ⟨by rw [HR.out]; rfl, rfl⟩
      · have HN := hid (show fewL (o.drop (j + 1)) = fewL o by rw [← HX.out, HD.out, decide_eq_true (by omega)]; rfl)
        have h150' : ¬ (150 : Int) < (c.s.size : Int) := by omega
        go_wp2_with fail
        go_roundw
        case rel => exact ⟨j + 1, by omega, by go_num, HN.out, trivial⟩
        case measure => simp [intOf]; omega
    · have hj2 : j = o.length := by omega
      subst hj2
      have HR := hid (show few4S o = decide (o.length ≤ 50) by rw [few4S, ← HX.out, List.drop_length]; rfl)
      by_cases h50 : o.length ≤ 50
      · have h50' : (o.length : Int) ≤ 50 := by omega
        have HR2 := hid (show few4S o = true by rw [HR.out, decide_eq_true h50])
        go_wp2_with fail
        go_ret
        exact ⟨by rw [HR2.out]; rfl, rfl⟩
      · have h50' : ¬ (o.length : Int) ≤ 50 := by omega
        have HR2 := hid (show few4S o = false by rw [HR.out, decide_eq_false h50])
        go_wp2_with fail
        go_ret
        exact ⟨by rw [HR2.out]; rfl, rfl⟩

theorem InOp.later {w w' : World} {v : Value} {o : List Cp} (h : InOp w v o) (hb : Below w.heap.size w w') : InOp w' v o := ⟨h.1.later hb, h.2⟩

set_option maxRecDepth 100000 in
set_option maxHeartbeats 1000000 in
theorem few8_any (d : Dl) (hd : d.h.length = 32) (v : Value) (o : List Cp) (w : World) (hv : InOp w v o) :
    Calls Try.prog 10 #[.agg (d.cells v).toArray] w fun e w' => e = .returned (.bool (few4S o)) ∧ Below w.heap.size w w' := by
  obtain ⟨ao, cap, rfl⟩ := hv.1.form
  obtain ⟨cs, hcs⟩ : ∃ cs, d.cells (.slice ao o.length cap) = cs := ⟨_, rfl⟩
  rw [hcs]
  have HCS := hid hcs
  have HV := hid hv
  have HD := hid hd
  obtain ⟨L, hL⟩ : ∃ L, w.heap.size = L := ⟨_, rfl⟩
  clear hcs hv hd
  go_enter Try.func10, Try.ntmps10
  go_wp2_with ((show wpList _ _ _ (⟨some 1, Op.box _ _, _, _, _, _⟩ :: _) _ _; go_must (refine wpList_box_blk rfl 29 _ rfl cs rfl L hL ?_); intro w1 hB1 hb1 hs1; rw [← HCS.out] at hB1; have HW := hid (DW.mk HD.out hB1); obtain ⟨c0, c1, c2, c3, c36, c37, c38, c39⟩ := HW.out.cells; clear c0 c1 c2 c3 c36 c38 c39 hB1; replace hb1 := hid hb1))
  subst hL
  refine (few4_any _ o _ (HV.out.later hb1.out)).mono ?_
  rintro _ w2 ⟨rfl, hw2⟩
  rw [hw2]
  clear hw2
  obtain ⟨r, hr⟩ : ∃ r, few4S o = r := ⟨_, rfl⟩
  rw [hr]
  have HR := hid hr
  clear hr
  go_wp2_with fail
  go_ret
  exact ⟨by rw [HR.out]; rfl, hb1.out⟩
end Go.Proofs.Ytajkjbhfkeakhaa

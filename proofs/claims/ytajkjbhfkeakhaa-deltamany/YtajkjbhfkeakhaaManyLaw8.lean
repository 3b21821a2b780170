/- The law DeltaMany: forty parts may be read, more may not. -/
import Derived.Test.YtajkjbhfkeakhaaKnown8
import Derived.Test.YtajkjbhfkeakhaaReadB8
import Derived.Test.YtajkjbhfkeakhaaRBytes
import Derived.Test.YtajkjbhfkeakhaaDRead2
import Derived.Test.YtajkjbhfkeakhaaChkV
import Derived.Test.YtajkjbhfkeakhaaGood8
namespace Go.Proofs.Ytajkjbhfkeakhaa
open Go.RowKit
set_option linter.unusedSimpArgs false
set_option linter.unusedVariables false

def rp (n : Nat) : List Cp := List.replicate n (pK 1)
theorem rp_len (n : Nat) : (rp n).length = n := by simp [rp]
theorem rp_mem {n : Nat} {c : Cp} (h : c ∈ rp n) : c = pK 1 := (List.mem_replicate.1 h).2
theorem rp_chk (n : Nat) (h : n ≤ 40) : chkS (rp n) = 0 := by
  refine chkS_val (fun c hc => ?_) (by simpa [rp] using h)
  rw [rp_mem hc]
  exact .inl ⟨.inl rfl, by decide, by decide, rfl⟩
theorem rp_few (n : Nat) (h : n ≤ 50) : FewS (rp n) := ⟨by rw [rp_len]; exact h, fun c hc => by rw [rp_mem hc]; decide⟩
theorem rp_fits {n : Nat} {c : Cp} (h : c ∈ rp n) : c.Fits := by rw [rp_mem h]; exact ⟨by decide, by decide, by decide, by decide, by decide⟩
theorem rp_snoc (n : Nat) : rp n ++ [pK 1] = rp (n + 1) := by rw [rp, rp, List.replicate_succ']

set_option maxRecDepth 100000 in
set_option maxHeartbeats 4000000 in
theorem many8_any (a : Int) (wa : (Lit.int .i64 a).wf = true) (w : World) :
    Calls Try.prog 7 #[.int .i64 a] w fun e w' => e = .returned (.bool true) ∧ Below w.heap.size w w' := by
  clear wa
  go_enter Try.func7, Try.ntmps7
  go_wp2_with fail
  refine (known8_any _).mono ?_
  rintro _ w1 ⟨rfl, hb⟩
  have Hb1 := hid hb
  clear hb
  go_wp2_with fail
  refine (within8_any a 7 (by omega) (by omega) _).mono ?_
  rintro _ wx ⟨rfl, hwx⟩
  obtain ⟨r, hr⟩ : ∃ r : Nat, a % 7 = r := ⟨(a % 7).toNat, by omega⟩
  have hr7 : r < 7 := by omega
  rw [hr, hwx]
  clear hr hwx
  go_wp2_with fail
  go_loopw [3, 4] (fun v i wr => ∃ j : Nat, j ≤ 37 + r ∧ i = .int .i64 j ∧ HasC wr w1.heap.size v (rp j) ∧ Below w1.heap.size w1 wr) (fun v i _ => 37 + r - (intOf i).toNat)
  case atStart => exact ⟨0, Nat.zero_le _, rfl, HasC.nil _ _, Below.refl _ _⟩
  case round =>
    obtain ⟨j, hj, rfl, hH, hbr⟩ := hrel
    obtain ⟨av, cv, rfl⟩ := hH.form
    have HH := hid hH
    have Hbr := hid hbr
    clear hH hbr
    by_cases hlt : j < 37 + r
    · have hlt' : (j : Int) < 37 + (r : Int) := by omega
      have HA := hid (show HasC (wr.alloc (.cells #[.int .i64 1, .int .i64 1, .string ⟨#[]⟩] 55)) w1.heap.size (.slice av (rp j).length cv) (rp j) from HH.out.later ((Below.refl _ _).alloc (Nat.le_refl _) _))
      have HO := hid (show RC (wr.alloc (.cells #[.int .i64 1, .int .i64 1, .string ⟨#[]⟩] 55)) (.slice (some ⟨wr.heap.size, 0, none⟩) 1 1) [pK 1] from (parts_new wr [pK 1] 1 rfl).reads)
      have HbA := hid (show Below w1.heap.size w1 (wr.alloc (.cells #[.int .i64 1, .int .i64 1, .string ⟨#[]⟩] 55)) from Hbr.out.alloc Hbr.out.size _)
      have hsA : w1.heap.size ≤ (wr.alloc (.cells #[.int .i64 1, .int .i64 1, .string ⟨#[]⟩] 55)).heap.size := HbA.out.size
      have HL := hid (rp_len j)
      clear HH Hbr
      go_wp2_with (at_builtin; go_must (refine wpList_append_c rfl _ _ rfl w1.heap.size _ (rp j) rfl HA.out hsA _ [pK 1] rfl HO.out (by rw [HL.out]; simp; omega) ?_); intro v3 w3 hH3 hb3)
      rw [rp_snoc] at hH3
      have HH3 := hid hH3
      have Hb3 := hid (show Below w1.heap.size w1 w3 from HbA.out.trans hb3)
      clear hH3 hb3
      go_roundw
      case rel => exact ⟨j + 1, by omega, by go_num, HH3.out, Hb3.out⟩
      case measure => simp [intOf]; omega
    · have hj2 : j = 37 + r := by omega
      subst hj2
      have Hbw := hid (show Below w.heap.size w wr from below_seq Hb1.out Hbr.out)
      clear Hbr
      go_wp2_with fail
      refine (rOpBytes_any _ (rp (37 + r)) _ HH.out.reads (rp_few _ (by omega))).mono ?_
      rintro _ w4 ⟨g, cap, rfl, hg, hO, hb4⟩
      have HO := hid hO.reads
      have Hb4 := hid (below_seq Hbw.out hb4)
      have hlen : (opB (rp (37 + r))).length ≤ 140737488355328 := by
        have h1 := hO.1
        rw [B_length] at h1
        have h2 := (rp_few (37 + r) (by omega)).le
        omega
      clear hO hb4 HH Hbw
      go_wp2_with fail
      refine (dOpParse_any _ (opB (rp (37 + r))) _ HO.out hlen).mono ?_
      rintro _ w5 ⟨v5, rfl, hH5, hb5⟩
      have Hb5 := hid (below_seq Hb4.out hb5)
      clear hb5 hlen Hb4
      by_cases h40 : 40 < 37 + r
      · have h40' : (40 : Int) < 37 + (r : Int) := by omega
        rw [opP_many (rp (37 + r)) (by rw [rp_len]; exact h40) (by rw [rp_len]; omega)] at hH5 ⊢
        obtain ⟨a5, c5, rfl⟩ := hH5.form
        clear hH5
        go_wp2_with fail
        go_ret
        exact ⟨rfl, Hb5.out⟩
      · have h40' : ¬ (40 : Int) < 37 + (r : Int) := by omega
        rw [opP_opB (rp (37 + r)) (by rw [rp_len]; omega) (fun c hc => rp_fits hc), rp_chk _ (by omega), if_neg (fun h => h rfl)] at hH5 ⊢
        obtain ⟨a5, c5, rfl⟩ := hH5.form
        have HH5 := hid hH5
        have HL := hid (rp_len (37 + r))
        clear hH5
        rw [HL.out] at HH5 ⊢
        go_wp2_with fail
        refine (few4_any _ (rp (37 + r)) _ ⟨HH5.out.reads, fun c hc => by rw [rp_mem hc]; decide, by rw [rp_len]; unfold maxLen; omega⟩).mono ?_
        rintro _ w6 ⟨rfl, hw6⟩
        rw [(few4_iff _).2 (rp_few _ (by omega)), hw6]
        clear hw6
        go_wp2_with fail
        go_ret
        exact ⟨rfl, Hb5.out⟩
end Go.Proofs.Ytajkjbhfkeakhaa

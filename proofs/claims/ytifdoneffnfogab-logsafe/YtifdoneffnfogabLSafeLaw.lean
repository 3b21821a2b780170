/- The law LogSafe: safe are the records that were there when it was synced; at a sync that the power ends, none more. -/
import Derived.Test.YtifdoneffnfogabKnown11
import Derived.Test.YtifdoneffnfogabWithin11
import Derived.Test.YtifdoneffnfogabOpenK
import Derived.Test.YtifdoneffnfogabKAt2
import Derived.BigQuiet
import Derived.Deep.DeepCutAuto
namespace Go.Proofs.Ytifdoneffnfogab
open Go.RowKit
set_option linter.unusedSimpArgs false
set_option linter.unusedVariables false

theorem min15 (n : Nat) : ∃ k : Nat, (if (15 : Int) < (n : Int) then (15 : Int) else (n : Int)) = (k : Int) ∧ k ≤ n ∧ k ≤ 15 := by
  by_cases h : 15 < n
  · exact ⟨15, by rw [if_pos (by omega)]; rfl, by omega, by omega⟩
  · exact ⟨n, by rw [if_neg (by omega)], by omega, by omega⟩
theorem on_stop (ls : List (List UInt8)) (K Z n k : Nat) : syncL ⟨encs ls, K, Z, 1, false⟩ n k = (18, k, ⟨encs ls, K, Z, 0, true⟩) := by
  have hs : (⟨encs ls, K, Z, 1, false⟩ : Dk).sync = (18, ⟨encs ls, K, Z, 0, true⟩) := by
    rw [Dk.sync, Dk.cut, if_neg (by simp), if_neg (by simp only; omega), if_pos rfl]
  rw [syncL, hs, if_neg (by simp)]

set_option maxRecDepth 100000 in
set_option maxHeartbeats 16000000 in
theorem lsafe_any (ao : Option Addr) (len cap : Nat) (a : Int) (stop : Bool) (w : World) (hl : InBytes w ao len cap) :
    Calls Try.prog 3 #[.slice ao len cap, .int .i64 a, .bool stop] w fun e w' => e = .returned (.bool true) ∧ Below w.heap.size w w' := by
  obtain ⟨L, hL⟩ : ∃ L, w.heap.size = L := ⟨_, rfl⟩
  have HL := hid hL
  rw [hL]
  clear hL
  have HN := hid hl
  have hn2 : len ≤ 9223372036854775807 := by have h1 := hl.le; have h2 := hl.cap; unfold maxLen at h2; omega
  have hle := hl.le
  have hcm := hl.cap
  obtain ⟨n, hif, hnl, hn15⟩ := min15 len
  clear hl
  go_enter Try.func3, Try.ntmps3
  go_wp2_with fail
  refine (known11_any _).mono ?_
  rintro _ w1 ⟨rfl, hb1⟩
  have Hb1 := hid (show Below L w w1 by rw [← HL.out]; exact hb1)
  have HL1 := hid (show L ≤ w1.heap.size by rw [← HL.out]; exact hb1.size)
  clear hb1
  go_wp2_with fail
  refine (kNew_at 6000 Hb1.out HL1.out).mono ?_
  rintro _ w2 ⟨d, r, rfl, hK, _, _, _⟩
  rw [show Dk.new 6000 = onD [] 0 6000 from on_new 6000 (by omega)] at hK
  have HK := hid hK
  clear hK Hb1 HL1
  go_wp2_with fail
  refine (lgOpen_at HK.out [] _ 0 (on_open [] (by simp) 0 6000) rfl).mono ?_
  rintro _ w3 ⟨q0, ro0, rc0, rfl, hD, _, _, _⟩
  have HD0 := hid hD
  clear hD HK
  go_wp2_with fail
  refine (within11_any a ((n : Int) + 1) (by omega) (by omega) _).mono ?_
  rintro _ wx ⟨rfl, hwx⟩
  rw [hwx]
  clear hwx wx
  obtain ⟨t, ht⟩ : ∃ t : Nat, a % ((n : Int) + 1) = (t : Int) := ⟨(a % ((n : Int) + 1)).toNat, by have := Int.emod_nonneg a (b := (n : Int) + 1) (by omega); omega⟩
  have htn : t ≤ n := by have := Int.emod_lt_of_pos a (b := (n : Int) + 1) (by omega); omega
  rw [ht]
  clear ht hif
  go_wp2_with fail
  go_loopw [13] (fun i wr => ∃ (j K kk : Nat) (ls : List (List UInt8)), j ≤ n ∧ i = .int .i64 j ∧ ls.length = j ∧ (∀ x ∈ ls, x.length ≤ 60) ∧ (t < j → kk = t) ∧ (j ≤ t → kk = 0) ∧ LD L w wr d r q0 (onD ls K 6000) j kk) (fun i _ => n - (intOf i).toNat)
  case atStart => exact ⟨0, _, 0, [], Nat.zero_le _, rfl, rfl, by simp, fun h => absurd h (Nat.not_lt_zero _), fun _ => rfl, HD0.out⟩
  case round =>
    clear HD0
    obtain ⟨j, K, kk, ls, hj, rfl, hll, hal, hk1, hk2, hD⟩ := hrel
    have HD := hid hD
    have HAL := hid hal
    have HLL := hid hll
    have HK1 := hid hk1
    have HK2 := hid hk2
    have HSZ := hid (show (encs ls).length ≤ 1020 by have := encs_le 60 ls hal; rw [hll] at this; omega)
    clear hll hal hD hk1 hk2
    by_cases h1 : ¬ (j : Int) < (n : Int)
    · have hjn : j = n := by omega
      subst hjn
      by_cases htj : t = j
      · subst htj
        go_wp2_with fail
        refine (lgSync_at HD.out 0 t _ (on_sync ls K 6000 t kk)).mono ?_
        rintro _ wt ⟨rfl, hD⟩
        have HDt := hid hD
        clear hD HD
        cases stop with
        | false =>
          go_wp2_with fail
          refine (lgSafe_any q0 d t t _ HDt.out.lb).mono ?_
          rintro _ wx ⟨rfl, hwx⟩
          rw [hwx]
          clear hwx wx
          go_wp2_with fail
          refine (lgCount_any q0 d t t _ HDt.out.lb).mono ?_
          rintro _ wx ⟨rfl, hwx⟩
          rw [hwx]
          clear hwx wx
          go_wp2_with fail
          go_ret
          exact ⟨rfl, HDt.out.kd.bel⟩
        | true =>
          go_wp2_with fail
          refine (kStop_at HDt.out.kd 1 (by omega) ⟨encs ls, (encs ls).length, 6000, 1, false⟩ rfl).mono ?_
          rintro _ wu ⟨rfl, hK, ho⟩
          have HDu := hid (HDt.out.only hK ho)
          clear hK ho
          go_wp2_with fail
          refine (lgSync_at HDu.out 18 t _ (on_stop ls (encs ls).length 6000 t t)).mono ?_
          rintro _ wv ⟨rfl, hD⟩
          have HDv := hid hD
          clear hD HDu HDt
          go_wp2_with fail
          refine (lgSafe_any q0 d t t _ HDv.out.lb).mono ?_
          rintro _ wx ⟨rfl, hwx⟩
          rw [hwx]
          clear hwx wx
          go_wp2_with fail
          refine (lgCount_any q0 d t t _ HDv.out.lb).mono ?_
          rintro _ wx ⟨rfl, hwx⟩
          rw [hwx]
          clear hwx wx
          go_wp2_with fail
          go_ret
          exact ⟨rfl, HDv.out.kd.bel⟩
      · have ht1 : ((t : Int) == (j : Int)) = false := beq_eq_false_iff_ne.2 (by omega)
        have HDt := hid (show LD L w wr d r q0 (onD ls K 6000) j t by have := HK1.out (by omega); rw [this] at HD; exact HD.out)
        clear HD
        cases stop with
        | false =>
          go_wp2_with fail
          refine (lgSafe_any q0 d j t _ HDt.out.lb).mono ?_
          rintro _ wx ⟨rfl, hwx⟩
          rw [hwx]
          clear hwx wx
          go_wp2_with fail
          refine (lgCount_any q0 d j t _ HDt.out.lb).mono ?_
          rintro _ wx ⟨rfl, hwx⟩
          rw [hwx]
          clear hwx wx
          go_wp2_with fail
          go_ret
          exact ⟨rfl, HDt.out.kd.bel⟩
        | true =>
          go_wp2_with fail
          refine (kStop_at HDt.out.kd 1 (by omega) ⟨encs ls, K, 6000, 1, false⟩ rfl).mono ?_
          rintro _ wu ⟨rfl, hK, ho⟩
          have HDu := hid (HDt.out.only hK ho)
          clear hK ho
          go_wp2_with fail
          refine (lgSync_at HDu.out 18 t _ (on_stop ls K 6000 j t)).mono ?_
          rintro _ wv ⟨rfl, hD⟩
          have HDv := hid hD
          clear hD HDu HDt
          go_wp2_with fail
          refine (lgSafe_any q0 d j t _ HDv.out.lb).mono ?_
          rintro _ wx ⟨rfl, hwx⟩
          rw [hwx]
          clear hwx wx
          go_wp2_with fail
          refine (lgCount_any q0 d j t _ HDv.out.lb).mono ?_
          rintro _ wx ⟨rfl, hwx⟩
          rw [hwx]
          clear hwx wx
          go_wp2_with fail
          go_ret
          exact ⟨rfl, HDv.out.kd.bel⟩
    have h1 : (j : Int) < (n : Int) := by omega
    obtain ⟨kb, ko, so, sc, l, rfl, hc0, hrd0, hsc⟩ := HN.out.at_ j (by omega)
    obtain ⟨m, hm⟩ : ∃ m, l.length = m := ⟨_, rfl⟩
    have HLM := hid hm
    have hmc : m ≤ sc := by
      obtain ⟨x1, x2, e, h3, _⟩ := hrd0
      injection e with e1 e2 e3
      rw [B_length] at h3
      omega
    rw [hm] at hc0 hrd0
    have HC := hid (show ∀ wx, Below L w wx → wx.cell? ⟨kb, ko + j, none⟩ = some (.slice so m sc) ∧ Reads wx (.slice so m sc) (B l) from fun wx h => ⟨cell_later (by rw [HL.out]; exact h) hc0, hrd0.later (by rw [HL.out]; exact h)⟩)
    clear hm hc0 hrd0 hsc
    have hc := (HC.out _ HD.out.kd.bel).1
    by_cases h60 : (60 : Int) < (m : Int)
    · go_wp2_with fail
      go_ret
      exact ⟨rfl, HD.out.kd.bel⟩
    have HAL2 := hid (all_snoc HAL.out (show l.length ≤ 60 by rw [HLM.out]; omega))
    have HLL2 := hid (show (ls ++ [l]).length = j + 1 by rw [List.length_append, HLL.out]; rfl)
    by_cases hjt : j = t
    · have HJT := hid hjt
      have hq1 : ((j : Int) == (t : Int)) = true := beq_iff_eq.2 (by omega)
      clear hjt
      go_wp2_with fail
      refine (lgSync_at HD.out 0 j _ (on_sync ls K 6000 j kk)).mono ?_
      rintro _ wa ⟨rfl, hD⟩
      have HDa := hid hD
      clear hD HD
      replace hc := (HC.out _ HDa.out.kd.bel).1
      go_wp2_with fail
      refine (lgAppend_at HDa.out (by omega) _ l (HC.out _ HDa.out.kd.bel).2 (by rw [HLM.out]; omega) 0 (j + 1) _ (on_app ls (encs ls).length 6000 j l (by rw [HLM.out]; omega) (by rw [HLM.out]; have := HSZ.out; omega))).mono ?_
      rintro _ wb ⟨rfl, hD⟩
      have HDb := hid hD
      clear hD HDa hc
      go_wp2_with fail
      go_roundw
      case rel => exact ⟨j + 1, (encs ls).length, j, ls ++ [l], by omega, by go_num, HLL2.out, HAL2.out, fun _ => HJT.out, fun h => by have := HJT.out; omega, HDb.out⟩
      case measure => simp [intOf]; omega
    · have hq1 : ((j : Int) == (t : Int)) = false := beq_eq_false_iff_ne.2 (by omega)
      go_wp2_with fail
      refine (lgAppend_at HD.out (by omega) _ l (HC.out _ HD.out.kd.bel).2 (by rw [HLM.out]; omega) 0 (j + 1) _ (on_app ls K 6000 j l (by rw [HLM.out]; omega) (by rw [HLM.out]; have := HSZ.out; omega))).mono ?_
      rintro _ wb ⟨rfl, hD⟩
      have HDb := hid hD
      clear hD HD hc
      go_wp2_with fail
      go_roundw
      case rel => exact ⟨j + 1, K, kk, ls ++ [l], by omega, by go_num, HLL2.out, HAL2.out, fun h => HK1.out (by omega), fun h => HK2.out (by omega), HDb.out⟩
      case measure => simp [intOf]; omega
theorem lsafe_row (W : World) (ao : Option Addr) (len cap : Nat) (h0 : InBytes W ao len cap) (p : Int) (wp_ : (Lit.int .i64 p).wf = true) (stop : Bool) (_u : World) :
    Calls Try.prog 3 #[.slice ao len cap, .int .i64 p, .bool stop] W fun e w' => e = .returned (.bool true) ∧ Below W.heap.size W w' := lsafe_any ao len cap p stop W h0
end Go.Proofs.Ytifdoneffnfogab

/- The law LogBack: what was appended is told, in order, opened again and again. -/
import Derived.Test.YtifdoneffnfogaaQ11b
import Derived.Test.YtifdoneffnfogaaRows11
import Derived.Test.YtifdoneffnfogaaOpenK
import Derived.BigQuiet
import Derived.Deep.DeepCutAuto
namespace Go.Proofs.Ytifdoneffnfogaa
open Go.RowKit
set_option linter.unusedSimpArgs false
set_option linter.unusedVariables false

set_option maxRecDepth 100000 in
set_option maxHeartbeats 16000000 in
theorem lback_any (ao : Option Addr) (len cap : Nat) (bo : Option Addr) (blen bcap : Nat) (w : World) (hl : InBytes w ao len cap) (hs : InBools w bo blen bcap) :
    Calls Try.prog 7 #[.slice ao len cap, .slice bo blen bcap] w fun e w' => e = .returned (.bool true) ∧ Below w.heap.size w w' := by
  obtain ⟨L, hL⟩ : ∃ L, w.heap.size = L := ⟨_, rfl⟩
  have HL := hid hL
  rw [hL]
  clear hL
  have HN := hid hl
  have HM := hid (show ∀ wx, Below L w wx → InBools wx bo blen bcap from fun wx h => hs.later (by rw [HL.out]; exact h))
  have hn2 : len ≤ 9223372036854775807 := by have h1 := hl.le; have h2 := hl.cap; unfold maxLen at h2; omega
  have hn3 : blen ≤ 9223372036854775807 := by have h1 := hs.le; have h2 := hs.cap; unfold maxLen at h2; omega
  have hle := hl.le
  have hcm := hl.cap
  have hle2 := hs.le
  clear hl hs
  go_enter Try.func7, Try.ntmps7
  go_wp2_with fail
  refine (known11_any _).mono ?_
  rintro _ w1 ⟨rfl, hb1⟩
  have Hb1 := hid (show Below L w w1 by rw [← HL.out]; exact hb1)
  have HL1 := hid (show L ≤ w1.heap.size by rw [← HL.out]; exact hb1.size)
  clear hb1
  go_wp2_with fail
  refine (kNew_at 6000 Hb1.out HL1.out).mono ?_
  rintro _ w2 ⟨d, r, rfl, hK, _, _, _⟩
  rw [show Dk.new 6000 = onD [] 0 6000 from on_new 6000 (by omega)] at hK
  have HK := hid hK
  clear hK Hb1 HL1
  go_wp2_with fail
  refine (lgOpen_at HK.out [] _ 0 (on_open [] (by simp) 0 6000) rfl).mono ?_
  rintro _ w3 ⟨q0, ro0, rc0, rfl, hD, _, _, _⟩
  have HD0 := hid hD
  clear hD HK
  go_wp2_with fail
  go_loopw [6, 9, 10] (fun av nv i wr => ∃ (q j K k : Nat) (ls : List (List UInt8)), j ≤ 20 ∧ j ≤ len ∧ av = .pointer (some ⟨q, 0, none⟩) ∧ nv = .int .i64 j ∧ i = .int .i64 j ∧ ls.length = j ∧ Front w ao ls ∧ (∀ x ∈ ls, x.length ≤ 100) ∧ LD L w wr d r q (onD ls K 6000) j k) (fun _ _ i _ => 20 - (intOf i).toNat)
  case atStart => exact ⟨q0, 0, _, 0, [], by omega, Nat.zero_le _, rfl, rfl, rfl, rfl, Front.nil _ _, by simp, HD0.out⟩
  case round =>
    clear HD0
    obtain ⟨q, j, K, k, ls, hj, hjl, rfl, rfl, rfl, hll, hF, hal, hD⟩ := hrel
    have HD := hid hD
    have HF := hid hF
    have HAL := hid hal
    have HLL := hid hll
    have HSZ := hid (show (encs ls).length ≤ 2160 by have := encs_le 100 ls hal; rw [hll] at this; omega)
    clear hll hF hal hD
    by_cases h1 : ¬ (j : Int) < (len : Int)
    · obtain ⟨p, c, hcut, hpt⟩ := front_cut HF.out HLL.out (show j ≤ len by omega) hle hcm
      have HPT := hid hpt
      clear hpt
      go_wp2_with fail
      refine (lgOpen_at HD.out.kd ls _ j (on_open ls (fun x hx => Nat.le_trans (HAL.out x hx) (by omega)) K 6000) HLL.out).mono ?_
      rintro _ wa ⟨qa, ro, rc, rfl, hD, hR, _, _⟩
      have HDa := hid hD
      have HRa := hid hR.parts
      clear hD hR
      go_wp2_with fail
      refine (rows11_any _ _ ls _ (by rw [HLL.out]; omega) HRa.out (HPT.out _ (by rw [HL.out]; exact HDa.out.kd.bel))).mono ?_
      rintro _ wb ⟨rfl, hb⟩
      have HDb := hid (HDa.out.later hb)
      clear hb
      go_wp2_with fail
      go_ret
      exact ⟨rfl, HDb.out.kd.bel⟩
    by_cases h2 : ¬ (j : Int) < 20
    · have h1 : (j : Int) < (len : Int) := by omega
      obtain ⟨p, c, hcut, hpt⟩ := front_cut HF.out HLL.out (show j ≤ len by omega) hle hcm
      have HPT := hid hpt
      clear hpt
      go_wp2_with fail
      refine (lgOpen_at HD.out.kd ls _ j (on_open ls (fun x hx => Nat.le_trans (HAL.out x hx) (by omega)) K 6000) HLL.out).mono ?_
      rintro _ wa ⟨qa, ro, rc, rfl, hD, hR, _, _⟩
      have HDa := hid hD
      have HRa := hid hR.parts
      clear hD hR
      go_wp2_with fail
      refine (rows11_any _ _ ls _ (by rw [HLL.out]; omega) HRa.out (HPT.out _ (by rw [HL.out]; exact HDa.out.kd.bel))).mono ?_
      rintro _ wb ⟨rfl, hb⟩
      have HDb := hid (HDa.out.later hb)
      clear hb
      go_wp2_with fail
      go_ret
      exact ⟨rfl, HDb.out.kd.bel⟩
    have h1 : (j : Int) < (len : Int) := by omega
    have h2 : (j : Int) < 20 := by omega
    obtain ⟨kb, ko, so, sc, l, rfl, hc0, hrd0, hsc⟩ := HN.out.at_ j (by omega)
    obtain ⟨m, hm⟩ : ∃ m, l.length = m := ⟨_, rfl⟩
    have HLM := hid hm
    have hmc : m ≤ sc := by
      obtain ⟨x1, x2, e, h3, _⟩ := hrd0
      injection e with e1 e2 e3
      rw [B_length] at h3
      omega
    have HFR := hid (HF.out.snoc (by rw [HLL.out]; exact hc0) hrd0 hsc)
    rw [hm] at hc0 hrd0
    have HC := hid (show ∀ wx, Below L w wx → wx.cell? ⟨kb, ko + j, none⟩ = some (.slice so m sc) ∧ Reads wx (.slice so m sc) (B l) from fun wx h => ⟨cell_later (by rw [HL.out]; exact h) hc0, hrd0.later (by rw [HL.out]; exact h)⟩)
    clear hm hc0 hrd0 hsc
    have hc := (HC.out _ HD.out.kd.bel).1
    by_cases h100 : (100 : Int) < (m : Int)
    · go_wp2_with fail
      go_ret
      exact ⟨rfl, HD.out.kd.bel⟩
    have HAL2 := hid (all_snoc HAL.out (show l.length ≤ 100 by rw [HLM.out]; omega))
    have HLL2 := hid (show (ls ++ [l]).length = j + 1 by rw [List.length_append, HLL.out]; rfl)
    go_wp2_with fail
    refine (lgAppend_at HD.out (by omega) _ l (HC.out _ HD.out.kd.bel).2 (by rw [HLM.out]; omega) 0 (j + 1) _ (on_app ls K 6000 j l (by rw [HLM.out]; omega) (by rw [HLM.out]; have := HSZ.out; omega))).mono ?_
    rintro _ wa ⟨rfl, hD⟩
    have HDa := hid hD
    clear hD HD hc
    by_cases hb : ¬ (j : Int) < (blen : Int)
    · go_wp2_with fail
      go_roundw
      case rel => exact ⟨q, j + 1, K, k, ls ++ [l], by omega, by omega, rfl, by go_num, by go_num, HLL2.out, HFR.out, HAL2.out, HDa.out⟩
      case measure => simp [intOf]; omega
    have hb' : (j : Int) < (blen : Int) := by omega
    obtain ⟨b1, b2, x, rfl, hc⟩ := (HM.out _ HDa.out.kd.bel).at_ j (by omega)
    cases x with
    | false =>
      go_wp2_with fail
      go_roundw
      case rel => exact ⟨q, j + 1, K, k, ls ++ [l], by omega, by omega, rfl, by go_num, by go_num, HLL2.out, HFR.out, HAL2.out, HDa.out⟩
      case measure => simp [intOf]; omega
    | true =>
      obtain ⟨p, c, hcut, hpt⟩ := front_cut HFR.out HLL2.out (show j + 1 ≤ len by omega) hle hcm
      have HPT := hid hpt
      have hcut' : ∀ wx, (Instr.slice 22 (.slice (some ⟨kb, ko, none⟩) len cap) none (some (.int .i64 ((j : Int) + 1))) none).run Try.prog wx = .ok (.slice p (j + 1) c) wx := hcut
      clear hpt hcut
      go_wp2_with fail
      refine (lgOpen_at HDa.out.kd (ls ++ [l]) _ (j + 1) (on_open (ls ++ [l]) (fun x hx => Nat.le_trans (HAL2.out x hx) (by omega)) K 6000) HLL2.out).mono ?_
      rintro _ wb ⟨qb, ro, rc, rfl, hD, hR, _, _⟩
      have HDb := hid hD
      have HRb := hid hR.parts
      clear hD hR HDa hc
      go_wp2_with fail
      refine (rows11_any _ _ (ls ++ [l]) _ (by rw [HLL2.out]; omega) HRb.out (HPT.out _ (by rw [HL.out]; exact HDb.out.kd.bel))).mono ?_
      rintro _ wc ⟨rfl, hb⟩
      have HDc := hid (HDb.out.later hb)
      clear hb HDb HRb
      go_wp2_with fail
      refine (lgSafe_any qb d (j + 1) (j + 1) _ HDc.out.lb).mono ?_
      rintro _ wx ⟨rfl, hwx⟩
      rw [hwx]
      clear hwx wx
      go_wp2_with fail
      go_roundw
      case rel => exact ⟨qb, j + 1, _, j + 1, ls ++ [l], by omega, by omega, rfl, by go_num, by go_num, HLL2.out, HFR.out, HAL2.out, HDc.out⟩
      case measure => simp [intOf]; omega
theorem lback_row (W : World) (ao : Option Addr) (len cap : Nat) (h0 : InBytes W ao len cap) (bo : Option Addr) (blen bcap : Nat) (h1 : InBools W bo blen bcap) (_u : World) :
    Calls Try.prog 7 #[.slice ao len cap, .slice bo blen bcap] W fun e w' => e = .returned (.bool true) ∧ Below W.heap.size W w' := lback_any ao len cap bo blen bcap W h0 h1
end Go.Proofs.Ytifdoneffnfogaa

/- The law LogFull: where there is no room nothing is appended, and all stays; too long ones are refused. -/
import Derived.Test.YtifdoneffnfogaaQ11b
import Derived.Test.YtifdoneffnfogaaWithin11
import Derived.Test.YtifdoneffnfogaaArgB
import Derived.Test.YtifdoneffnfogaaMakeB
import Derived.Test.YtifdoneffnfogaaByteI
import Derived.BigQuiet
import Derived.Deep.DeepCutAuto
namespace Go.Proofs.Ytifdoneffnfogaa
open Go.RowKit
set_option linter.unusedSimpArgs false
set_option linter.unusedVariables false

set_option maxRecDepth 100000 in
set_option maxHeartbeats 16000000 in
theorem lfull_any (a : Int) (ao : Option Addr) (len cap : Nat) (hcap : len ≤ cap) (hc : cap ≤ maxLen) (w : World) (hk : Nums w ao len) :
    Calls Try.prog 6 #[.int .i64 a, .slice ao len cap] w fun e w' => e = .returned (.bool true) ∧ Below w.heap.size w w' := by
  obtain ⟨i0, hi, hz0, hz1, hz2⟩ := info_parts Try.infoByte
  obtain ⟨L, hL⟩ : ∃ L, w.heap.size = L := ⟨_, rfl⟩
  have HL := hid hL
  rw [hL]
  clear hL
  have HN := hid (show ∀ wx, Below L w wx → Nums wx ao len from fun wx h => hk.later (by rw [HL.out]; exact h))
  have hn2 : len ≤ 9223372036854775807 := by unfold maxLen at hc; omega
  clear hk hc
  go_enter Try.func6, Try.ntmps6
  go_wp2_with fail
  refine (known11_any _).mono ?_
  rintro _ w1 ⟨rfl, hb1⟩
  have Hb1 := hid (show Below L w w1 by rw [← HL.out]; exact hb1)
  have HL1 := hid (show L ≤ w1.heap.size by rw [← HL.out]; exact hb1.size)
  clear hb1
  go_wp2_with fail
  refine (within11_any a 300 (by omega) (by omega) _).mono ?_
  rintro _ wx ⟨rfl, hwx⟩
  rw [hwx]
  clear hwx wx
  obtain ⟨z, hz⟩ : ∃ z : Nat, a % 300 = (z : Int) := ⟨(a % 300).toNat, by omega⟩
  have hz300 : z < 300 := by omega
  rw [hz]
  clear hz
  go_wp2_with fail
  refine (kNew_at (z : Int) Hb1.out HL1.out).mono ?_
  rintro _ w2 ⟨d, r, rfl, hK, _, _, _⟩
  rw [show Dk.new (z : Int) = onD [] 0 z from on_new z (by omega)] at hK
  have HK := hid hK
  clear hK Hb1 HL1
  go_wp2_with fail
  refine (lgOpen_at HK.out [] _ 0 (on_open [] (by simp) 0 z) rfl).mono ?_
  rintro _ w3 ⟨q0, ro0, rc0, rfl, hD, _, _, _⟩
  have HD0 := hid hD
  clear hD HK
  go_wp2_with fail
  go_loopw [9, 10, 11] (fun lv nv i wr => ∃ (j n lf K k : Nat) (ls : List (List UInt8)), j ≤ 30 ∧ n ≤ j ∧ lv = .int .i64 (lf : Int) ∧ nv = .int .i64 (n : Int) ∧ i = .int .i64 j ∧ ls.length = n ∧ (∀ x ∈ ls, x.length ≤ 80) ∧ (encs ls).length + lf = z ∧ LD L w wr d r q0 (onD ls K z) n k) (fun _ _ i _ => 30 - (intOf i).toNat)
  case atStart => exact ⟨0, 0, z, _, 0, [], by omega, Nat.le_refl _, rfl, rfl, rfl, rfl, by simp, by simp [encs], HD0.out⟩
  case round =>
    clear HD0
    obtain ⟨j, n, lf, K, k, ls, hj, hnj, rfl, rfl, rfl, hll, hal, hlf, hD⟩ := hrel
    have HD := hid hD
    have HAL := hid hal
    have HLL := hid hll
    have HLF := hid hlf
    have hlfz : lf ≤ z := by omega
    clear hll hal hD hlf
    by_cases h1 : ¬ (j : Int) < (len : Int)
    · go_wp2_with fail
      refine (lgOpen_at HD.out.kd ls _ n (on_open ls (fun x hx => Nat.le_trans (HAL.out x hx) (by omega)) K z) HLL.out).mono ?_
      rintro _ wa ⟨qa, ro, rc, rfl, hD, _, ho, _⟩
      have HDo := hid (HD.out.only hD.kd ho)
      clear hD ho
      go_wp2_with (at_make; go_must (refine wpList_make_wb (by first | rfl | go_simp) _ _ 37 rfl 5 i0 Try.underlying37 hi hz0 hz1 hz2 .i64 .i64 16385 rfl rfl (by omega) wa.heap.size rfl ?_); go_must (intro wm hBm hbm hsm; have HDm := hid (HDo.out.later hbm); have HRm := hid (hBm.ownsB (List.length_replicate ..) (by unfold maxLen; omega)).reads; clear hBm hbm hsm))
      refine (lgAppend_at HDm.out (by omega) _ (List.replicate 16385 0) HRm.out (by rw [List.length_replicate]; omega) 5 n _ (by rw [appL, if_pos (by rw [List.length_replicate]; omega)])).mono ?_
      rintro _ wb ⟨rfl, hD⟩
      have HDb := hid hD
      clear hD
      go_wp2_with fail
      go_ret
      exact ⟨rfl, HDb.out.kd.bel⟩
    by_cases h2 : ¬ (j : Int) < 30
    · have h1 : (j : Int) < (len : Int) := by omega
      go_wp2_with fail
      refine (lgOpen_at HD.out.kd ls _ n (on_open ls (fun x hx => Nat.le_trans (HAL.out x hx) (by omega)) K z) HLL.out).mono ?_
      rintro _ wa ⟨qa, ro, rc, rfl, hD, _, ho, _⟩
      have HDo := hid (HD.out.only hD.kd ho)
      clear hD ho
      go_wp2_with (at_make; go_must (refine wpList_make_wb (by first | rfl | go_simp) _ _ 37 rfl 5 i0 Try.underlying37 hi hz0 hz1 hz2 .i64 .i64 16385 rfl rfl (by omega) wa.heap.size rfl ?_); go_must (intro wm hBm hbm hsm; have HDm := hid (HDo.out.later hbm); have HRm := hid (hBm.ownsB (List.length_replicate ..) (by unfold maxLen; omega)).reads; clear hBm hbm hsm))
      refine (lgAppend_at HDm.out (by omega) _ (List.replicate 16385 0) HRm.out (by rw [List.length_replicate]; omega) 5 n _ (by rw [appL, if_pos (by rw [List.length_replicate]; omega)])).mono ?_
      rintro _ wb ⟨rfl, hD⟩
      have HDb := hid hD
      clear hD
      go_wp2_with fail
      go_ret
      exact ⟨rfl, HDb.out.kd.bel⟩
    have h1 : (j : Int) < (len : Int) := by omega
    have h2 : (j : Int) < 30 := by omega
    obtain ⟨kb, ko, x, rfl, hc⟩ := HN.out _ HD.out.kd.bel j (by omega)
    go_wp2_with fail
    refine (within11_any x 80 (by omega) (by omega) _).mono ?_
    rintro _ wx ⟨rfl, hwx⟩
    rw [hwx]
    clear hwx wx hc
    obtain ⟨m, hm⟩ : ∃ m : Nat, x % 80 = (m : Int) := ⟨(x % 80).toNat, by omega⟩
    have hm80 : m < 80 := by omega
    rw [hm]
    clear hm
    go_wp2_with (at_make; go_must (refine wpList_make_blk rfl _ _ 37 rfl 5 i0 Try.underlying37 hi hz0 hz1 hz2 .i64 .i64 m rfl rfl (by omega) wr.heap.size rfl ?_); go_must (intro wm hBm hbm hsm; have HDm := hid (HD.out.later hbm); have HRm := hid (hBm.ownsB (List.length_replicate ..) (by unfold maxLen; omega)).reads; clear hBm hbm hsm))
    have HRL := hid (show (List.replicate m (0 : UInt8)).length = m from List.length_replicate)
    by_cases hfit : (lf : Int) < (m : Int) + 8
    · refine (lgAppend_at HDm.out (by omega) _ (List.replicate m 0) HRm.out (by rw [HRL.out]; omega) 19 n _ (on_full ls K z n _ (by rw [HRL.out]; omega) (by have := HLF.out; omega) (by rw [HRL.out]; have := HLF.out; omega))).mono ?_
      rintro _ wa ⟨rfl, hD⟩
      have HDa := hid hD
      clear hD HDm HRm
      go_wp2_with fail
      go_roundw
      case rel => exact ⟨j + 1, n, lf, K, k, ls, by omega, by omega, rfl, rfl, by go_num, HLL.out, HAL.out, HLF.out, HDa.out⟩
      case measure => simp [intOf]; omega
    · obtain ⟨lf2, hlf2⟩ : ∃ lf2 : Nat, lf = lf2 + m + 8 := ⟨lf - m - 8, by omega⟩
      have HLF2 := hid (show (lf : Int) - (m : Int) - 8 = (lf2 : Int) by omega)
      have hlf3 : lf2 ≤ 300 := by omega
      refine (lgAppend_at HDm.out (by omega) _ (List.replicate m 0) HRm.out (by rw [HRL.out]; omega) 0 (n + 1) _ (on_app ls K z n _ (by rw [HRL.out]; omega) (by rw [HRL.out]; have := HLF.out; omega))).mono ?_
      rintro _ wa ⟨rfl, hD⟩
      have HDa := hid hD
      have HLF3 := hid (show (encs (ls ++ [List.replicate m 0])).length + lf2 = z by rw [encs_append, encs_cons, List.length_append, List.length_append, enc_len, HRL.out]; have := HLF.out; simp [encs] at *; omega)
      clear hD HDm HRm hlf2
      go_wp2_with fail
      refine (lgCount_any q0 d (n + 1) k _ HDa.out.lb).mono ?_
      rintro _ wx ⟨rfl, hwx⟩
      rw [hwx]
      clear hwx wx
      go_wp2_with fail
      go_roundw
      case rel => exact ⟨j + 1, n + 1, lf2, K, k, ls ++ [List.replicate m 0], by omega, by omega, by rw [HLF2.out], by go_num, by go_num, by rw [List.length_append, HLL.out]; rfl, all_snoc HAL.out (by rw [HRL.out]; omega), HLF3.out, HDa.out⟩
      case measure => simp [intOf]; omega
theorem lfull_row (W : World) (p : Int) (wp_ : (Lit.int .i64 p).wf = true) (a : Option Addr) (len cap : Nat) (zs : List Int) (h : IsRow .i64 W a len cap zs) (_u : World) :
    Calls Try.prog 6 #[.int .i64 p, .slice a len cap] W fun e w' => e = .returned (.bool true) ∧ Below W.heap.size W w' := by
  obtain ⟨h1, h2, h3⟩ := nums_arg h
  exact lfull_any p a len cap h2 h3 W h1
end Go.Proofs.Ytifdoneffnfogaa

/- The law LogCrashes: behind a crash there is a beginning of the records, with all that were safe. -/
import Derived.Test.YtifdoneffnfogaaQ11b
import Derived.Test.YtifdoneffnfogaaRows11
import Derived.Test.YtifdoneffnfogaaOpenK
import Derived.Test.YtifdoneffnfogaaQ11e
import Derived.BigQuiet
import Derived.Deep.DeepCutAuto
namespace Go.Proofs.Ytifdoneffnfogaa
open Go.RowKit
set_option linter.unusedSimpArgs false
set_option linter.unusedVariables false

theorem Front.take {w : World} {ao : Option Addr} {ls : List (List UInt8)} (h : Front w ao ls) (M : Nat) : Front w ao (ls.take M) := fun j l hj => by
  rw [List.getElem?_take] at hj
  split at hj
  · exact h j l hj
  · cases hj
theorem on_crash (ls : List (List UInt8)) (h : ∀ r ∈ ls, r.length ≤ 16384) (K Z sf : Nat) (hK : K = (encs (ls.take sf)).length) (hsf : sf ≤ ls.length) (hok : (onD ls K Z).Ok) (pick : Int) :
    ∃ (M : Nat) (s' : Dk), M ≤ ls.length ∧ sf ≤ M ∧ openS ((onD ls K Z).crash pick) = (0, ls.take M, s') := by
  obtain ⟨h1, h2⟩ := (onD ls K Z).stay_le hok pick
  obtain ⟨t, ht⟩ : ∃ t, (onD ls K Z).stay pick = t := ⟨_, rfl⟩
  rw [ht] at h1 h2
  have h1' : t ≤ (encs ls).length := h1
  have h2' : K ≤ t := h2
  obtain ⟨M, m1, m2, m3, m4⟩ := recs_front ls h t h1'
  have hs : (onD ls K Z).crash pick = ⟨(encs ls).take t, t, Z, 0, false⟩ := by
    show (⟨(encs ls).take ((onD ls K Z).stay pick), (onD ls K Z).stay pick, Z, 0, false⟩ : Dk) = _
    rw [ht]
  obtain ⟨E, hE⟩ : ∃ E, (encs (ls.take M)).length = E := ⟨_, rfl⟩
  rw [hE] at m2 m3
  have hl : ((encs ls).take t).length = t := by rw [List.length_take]; omega
  refine ⟨M, ⟨((encs ls).take t).take E, E, Z, 0, false⟩, m1, m4 sf (by omega) hsf, ?_⟩
  have hc : (⟨(encs ls).take t, t, Z, 0, false⟩ : Dk).cut (E : Int) = (0, ⟨((encs ls).take t).take E, E, Z, 0, false⟩) := by
    rw [Dk.cut, if_neg (by simp), if_neg (by show ¬ ((E : Int) < 0 ∨ (((encs ls).take t).length : Int) < (E : Int)); omega), if_neg (by simp)]
    rfl
  rw [hs, openS, if_neg (by simp)]
  simp only [m2]
  rw [hc, if_neg (by simp)]

set_option maxRecDepth 100000 in
set_option maxHeartbeats 16000000 in
theorem lcrash_any (ao : Option Addr) (len cap : Nat) (bo : Option Addr) (blen bcap : Nat) (p : Int) (w : World) (hl : InBytes w ao len cap) (hs : InBools w bo blen bcap) :
    Calls Try.prog 5 #[.slice ao len cap, .slice bo blen bcap, .int .i64 p] w fun e w' => e = .returned (.bool true) ∧ Below w.heap.size w w' := by
  obtain ⟨L, hL⟩ : ∃ L, w.heap.size = L := ⟨_, rfl⟩
  have HL := hid hL
  rw [hL]
  clear hL
  have HN := hid hl
  have HM := hid (show ∀ wx, Below L w wx → InBools wx bo blen bcap from fun wx h => hs.later (by rw [HL.out]; exact h))
  have hn2 : len ≤ 9223372036854775807 := by have h1 := hl.le; have h2 := hl.cap; unfold maxLen at h2; omega
  have hn3 : blen ≤ 9223372036854775807 := by have h1 := hs.le; have h2 := hs.cap; unfold maxLen at h2; omega
  have hle := hl.le
  have hcm := hl.cap
  have hle2 := hs.le
  clear hl hs
  go_enter Try.func5, Try.ntmps5
  go_wp2_with fail
  refine (known11_any _).mono ?_
  rintro _ w1 ⟨rfl, hb1⟩
  have Hb1 := hid (show Below L w w1 by rw [← HL.out]; exact hb1)
  have HL1 := hid (show L ≤ w1.heap.size by rw [← HL.out]; exact hb1.size)
  clear hb1
  go_wp2_with fail
  refine (kNew_at 4000 Hb1.out HL1.out).mono ?_
  rintro _ w2 ⟨d, r, rfl, hK, _, _, _⟩
  rw [show Dk.new 4000 = onD [] 0 4000 from on_new 4000 (by omega)] at hK
  have HK := hid hK
  clear hK Hb1 HL1
  go_wp2_with fail
  refine (lgOpen_at HK.out [] _ 0 (on_open [] (by simp) 0 4000) rfl).mono ?_
  rintro _ w3 ⟨q0, ro0, rc0, rfl, hD, _, _, _⟩
  have HD0 := hid hD
  clear hD HK
  go_wp2_with fail
  go_loopw [11, 12, 13] (fun nv sv i wr => ∃ (j sf K : Nat) (ls : List (List UInt8)), j ≤ 20 ∧ j ≤ len ∧ nv = .int .i64 j ∧ sv = .int .i64 (sf : Int) ∧ i = .int .i64 j ∧ ls.length = j ∧ Front w ao ls ∧ (∀ x ∈ ls, x.length ≤ 100) ∧ sf ≤ j ∧ K = (encs (ls.take sf)).length ∧ LD L w wr d r q0 (onD ls K 4000) j sf) (fun _ _ i _ => 20 - (intOf i).toNat)
  case atStart => exact ⟨0, 0, _, [], by omega, Nat.zero_le _, rfl, rfl, rfl, rfl, Front.nil _ _, by simp, Nat.le_refl _, by simp, HD0.out⟩
  case round =>
    clear HD0
    obtain ⟨j, sf, K, ls, hj, hjl, rfl, rfl, rfl, hll, hF, hal, hsf, hKK, hD⟩ := hrel
    have HD := hid hD
    have HF := hid hF
    have HAL := hid hal
    have HLL := hid hll
    have HKK := hid hKK
    have HSZ := hid (show (encs ls).length ≤ 2160 by have := encs_le 100 ls hal; rw [hll] at this; omega)
    clear hll hF hal hD hKK
    by_cases h1 : ¬ (j : Int) < (len : Int)
    · obtain ⟨M, s2, hM, hsM, hO⟩ := on_crash ls (fun x hx => Nat.le_trans (HAL.out x hx) (by omega)) K 4000 sf HKK.out (by rw [HLL.out]; exact hsf) HD.out.kd.dk.ok p
      rw [HLL.out] at hM
      have HO := hid hO
      have HTM := hid (show (ls.take M).length = M by rw [List.length_take, HLL.out]; omega)
      obtain ⟨pp, c, hcut, hpt⟩ := front_cut (HF.out.take M) HTM.out (show M ≤ len by omega) hle hcm
      have HPT := hid hpt
      clear hpt hO
      go_wp2_with fail
      refine (kCrash_at HD.out.kd p _ rfl).mono ?_
      rintro _ wy ⟨rfl, hK, _⟩
      have HKy := hid hK
      clear hK
      go_wp2_with fail
      refine (lgOpen_at HKy.out (ls.take M) s2 M HO.out HTM.out).mono ?_
      rintro _ wa ⟨qa, ro, rc, rfl, hD, hR, _, _⟩
      have HDa := hid hD
      have HRa := hid hR.parts
      clear hD hR HKy
      go_wp2_with fail
      refine (rows11_any _ _ (ls.take M) _ (by rw [HTM.out]; omega) HRa.out (HPT.out _ (by rw [HL.out]; exact HDa.out.kd.bel))).mono ?_
      rintro _ wb ⟨rfl, hb⟩
      have HDb := hid (HDa.out.later hb)
      clear hb HDa HRa
      go_wp2_with fail
      refine (lgCount_any qa d M M _ HDb.out.lb).mono ?_
      rintro _ wx ⟨rfl, hwx⟩
      rw [hwx]
      clear hwx wx
      go_wp2_with fail
      refine (lgSafe_any qa d M M _ HDb.out.lb).mono ?_
      rintro _ wx ⟨rfl, hwx⟩
      rw [hwx]
      clear hwx wx
      go_wp2_with fail
      go_ret
      exact ⟨rfl, HDb.out.kd.bel⟩
    by_cases h2 : ¬ (j : Int) < 20
    · have h1 : (j : Int) < (len : Int) := by omega
      obtain ⟨M, s2, hM, hsM, hO⟩ := on_crash ls (fun x hx => Nat.le_trans (HAL.out x hx) (by omega)) K 4000 sf HKK.out (by rw [HLL.out]; exact hsf) HD.out.kd.dk.ok p
      rw [HLL.out] at hM
      have HO := hid hO
      have HTM := hid (show (ls.take M).length = M by rw [List.length_take, HLL.out]; omega)
      obtain ⟨pp, c, hcut, hpt⟩ := front_cut (HF.out.take M) HTM.out (show M ≤ len by omega) hle hcm
      have HPT := hid hpt
      clear hpt hO
      go_wp2_with fail
      refine (kCrash_at HD.out.kd p _ rfl).mono ?_
      rintro _ wy ⟨rfl, hK, _⟩
      have HKy := hid hK
      clear hK
      go_wp2_with fail
      refine (lgOpen_at HKy.out (ls.take M) s2 M HO.out HTM.out).mono ?_
      rintro _ wa ⟨qa, ro, rc, rfl, hD, hR, _, _⟩
      have HDa := hid hD
      have HRa := hid hR.parts
      clear hD hR HKy
      go_wp2_with fail
      refine (rows11_any _ _ (ls.take M) _ (by rw [HTM.out]; omega) HRa.out (HPT.out _ (by rw [HL.out]; exact HDa.out.kd.bel))).mono ?_
      rintro _ wb ⟨rfl, hb⟩
      have HDb := hid (HDa.out.later hb)
      clear hb HDa HRa
      go_wp2_with fail
      refine (lgCount_any qa d M M _ HDb.out.lb).mono ?_
      rintro _ wx ⟨rfl, hwx⟩
      rw [hwx]
      clear hwx wx
      go_wp2_with fail
      refine (lgSafe_any qa d M M _ HDb.out.lb).mono ?_
      rintro _ wx ⟨rfl, hwx⟩
      rw [hwx]
      clear hwx wx
      go_wp2_with fail
      go_ret
      exact ⟨rfl, HDb.out.kd.bel⟩
    have h1 : (j : Int) < (len : Int) := by omega
    have h2 : (j : Int) < 20 := by omega
    obtain ⟨kb, ko, so, sc, l, rfl, hc0, hrd0, hsc⟩ := HN.out.at_ j (by omega)
    obtain ⟨m, hm⟩ : ∃ m, l.length = m := ⟨_, rfl⟩
    have HLM := hid hm
    have hmc : m ≤ sc := by
      obtain ⟨x1, x2, e, h3, _⟩ := hrd0
      injection e with e1 e2 e3
      rw [B_length] at h3
      omega
    have HFR := hid (HF.out.snoc (by rw [HLL.out]; exact hc0) hrd0 hsc)
    rw [hm] at hc0 hrd0
    have HC := hid (show ∀ wx, Below L w wx → wx.cell? ⟨kb, ko + j, none⟩ = some (.slice so m sc) ∧ Reads wx (.slice so m sc) (B l) from fun wx h => ⟨cell_later (by rw [HL.out]; exact h) hc0, hrd0.later (by rw [HL.out]; exact h)⟩)
    clear hm hc0 hrd0 hsc
    have hc := (HC.out _ HD.out.kd.bel).1
    by_cases h100 : (100 : Int) < (m : Int)
    · go_wp2_with fail
      go_ret
      exact ⟨rfl, HD.out.kd.bel⟩
    have HAL2 := hid (all_snoc HAL.out (show l.length ≤ 100 by rw [HLM.out]; omega))
    have HLL2 := hid (show (ls ++ [l]).length = j + 1 by rw [List.length_append, HLL.out]; rfl)
    have HKK2 := hid (show K = (encs ((ls ++ [l]).take sf)).length by rw [List.take_append_of_le_length (by rw [HLL.out]; exact hsf)]; exact HKK.out)
    go_wp2_with fail
    refine (lgAppend_at HD.out (by omega) _ l (HC.out _ HD.out.kd.bel).2 (by rw [HLM.out]; omega) 0 (j + 1) _ (on_app ls K 4000 j l (by rw [HLM.out]; omega) (by rw [HLM.out]; have := HSZ.out; omega))).mono ?_
    rintro _ wa ⟨rfl, hD⟩
    have HDa := hid hD
    clear hD HD hc
    by_cases hb : ¬ (j : Int) < (blen : Int)
    · have HDe := hid HDa.out
      go_wp2_with fail
      refine (lgCount_any q0 d (j + 1) (sf) _ HDe.out.lb).mono ?_
      rintro _ wx ⟨rfl, hwx⟩
      rw [hwx]
      clear hwx wx
      go_wp2_with fail
      refine (lgSafe_any q0 d (j + 1) (sf) _ HDe.out.lb).mono ?_
      rintro _ wx ⟨rfl, hwx⟩
      rw [hwx]
      clear hwx wx
      go_wp2_with fail
      go_roundw
      case rel => exact ⟨j + 1, sf, K, ls ++ [l], by omega, by omega, by go_num, by go_num, by go_num, HLL2.out, HFR.out, HAL2.out, by omega, HKK2.out, HDe.out⟩
      case measure => simp [intOf]; omega
    have hb' : (j : Int) < (blen : Int) := by omega
    obtain ⟨b1, b2, x, rfl, hc⟩ := (HM.out _ HDa.out.kd.bel).at_ j (by omega)
    cases x with
    | false =>
      have HDe := hid HDa.out
      go_wp2_with fail
      refine (lgCount_any q0 d (j + 1) (sf) _ HDe.out.lb).mono ?_
      rintro _ wx ⟨rfl, hwx⟩
      rw [hwx]
      clear hwx wx
      go_wp2_with fail
      refine (lgSafe_any q0 d (j + 1) (sf) _ HDe.out.lb).mono ?_
      rintro _ wx ⟨rfl, hwx⟩
      rw [hwx]
      clear hwx wx
      go_wp2_with fail
      go_roundw
      case rel => exact ⟨j + 1, sf, K, ls ++ [l], by omega, by omega, by go_num, by go_num, by go_num, HLL2.out, HFR.out, HAL2.out, by omega, HKK2.out, HDe.out⟩
      case measure => simp [intOf]; omega
    | true =>
      go_wp2_with fail
      refine (lgSync_at HDa.out 0 (j + 1) _ (on_sync (ls ++ [l]) K 4000 (j + 1) sf)).mono ?_
      rintro _ wb ⟨rfl, hD⟩
      have HDe := hid hD
      clear hD HDa hc
      go_wp2_with fail
      refine (lgCount_any q0 d (j + 1) (j + 1) _ HDe.out.lb).mono ?_
      rintro _ wx ⟨rfl, hwx⟩
      rw [hwx]
      clear hwx wx
      go_wp2_with fail
      refine (lgSafe_any q0 d (j + 1) (j + 1) _ HDe.out.lb).mono ?_
      rintro _ wx ⟨rfl, hwx⟩
      rw [hwx]
      clear hwx wx
      go_wp2_with fail
      go_roundw
      case rel => exact ⟨j + 1, j + 1, _, ls ++ [l], by omega, by omega, by go_num, by go_num, by go_num, HLL2.out, HFR.out, HAL2.out, Nat.le_refl _, by rw [List.take_of_length_le (by rw [HLL2.out]; exact Nat.le_refl _)], HDe.out⟩
      case measure => simp [intOf]; omega
theorem lcrash_row (W : World) (ao : Option Addr) (len cap : Nat) (h0 : InBytes W ao len cap) (bo : Option Addr) (blen bcap : Nat) (h1 : InBools W bo blen bcap) (p : Int) (wp_ : (Lit.int .i64 p).wf = true) (_u : World) :
    Calls Try.prog 5 #[.slice ao len cap, .slice bo blen bcap, .int .i64 p] W fun e w' => e = .returned (.bool true) ∧ Below W.heap.size W w' := lcrash_any ao len cap bo blen bcap p W h0 h1
end Go.Proofs.Ytifdoneffnfogaa

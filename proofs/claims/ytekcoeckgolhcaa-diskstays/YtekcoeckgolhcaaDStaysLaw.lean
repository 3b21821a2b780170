/- The law DiskStays: behind a crash there is a front of what was there, with all that was synced. -/
import Derived.Test.YtekcoeckgolhcaaDBits
import Derived.Test.YtekcoeckgolhcaaOpenK
import Derived.Test.YtekcoeckgolhcaaWithin10
import Derived.Test.YtekcoeckgolhcaaKAt2
import Derived.BigQuiet
import Derived.Deep.DeepCutAuto
namespace Go.Proofs.Ytekcoeckgolhcaa
open Go.RowKit
set_option linter.unusedSimpArgs false
set_option linter.unusedVariables false

theorem ba_cat (a b : List UInt8) : (⟨a.toArray⟩ : ByteArray) ++ ⟨b.toArray⟩ = ⟨(a ++ b).toArray⟩ := by
  apply ByteArray.ext; simp
theorem front_strS (al : List UInt8) (k : Nat) (hk : k ≤ al.length) (wx : World) : (Instr.slice 9 (.string ⟨al.toArray⟩) none (some (.int .i64 (k : Int))) none).run Try.prog wx = .ok (.string ⟨(al.take k).toArray⟩) wx := by
  have hs : (⟨al.toArray⟩ : ByteArray).size = al.length := by show al.toArray.size = al.length; simp
  rw [run_slice_string_h (ht := Try.underlying9) (h0 := by omega) (h2 := by omega)]
  have e : (⟨al.toArray⟩ : ByteArray).extract 0 k = ⟨(al.take k).toArray⟩ := by
    apply ByteArray.ext
    apply Array.ext'
    simp
  rw [Int.toNat_natCast, e]
theorem stays_app (al : List UInt8) (K : Nat) (l : List UInt8) (h : al.length + l.length ≤ 2000) : (⟨al, K, 2000, 0, false⟩ : Dk).app l = (0, ⟨al ++ l, K, 2000, 0, false⟩) := by
  rw [Dk.app, if_neg (by simp), if_neg (by show ¬ 2000 - al.length < l.length; omega), if_neg (by simp)]
  rfl
theorem stays_sync (al : List UInt8) (K : Nat) : (⟨al, K, 2000, 0, false⟩ : Dk).sync = (0, ⟨al, al.length, 2000, 0, false⟩) := by
  rw [Dk.sync, Dk.cut, if_neg (by simp), if_neg (by simp only; omega), if_neg (by simp)]
  simp

set_option maxRecDepth 100000 in
set_option maxHeartbeats 16000000 in
theorem dstays_any (ao : Option Addr) (len cap : Nat) (bo : Option Addr) (blen bcap : Nat) (p : Int) (w : World) (hl : InBytes w ao len cap) (hs : InBools w bo blen bcap) :
    Calls Try.prog 4 #[.slice ao len cap, .slice bo blen bcap, .int .i64 p] w fun e w' => e = .returned (.bool true) ∧ Below w.heap.size w w' := by
  obtain ⟨L, hL⟩ : ∃ L, w.heap.size = L := ⟨_, rfl⟩
  have HL := hid hL
  rw [hL]
  clear hL
  have HN := hid hl
  have HM := hid (show ∀ wx, Below L w wx → InBools wx bo blen bcap from fun wx h => hs.later (by rw [HL.out]; exact h))
  have hn2 : len ≤ 9223372036854775807 := by have h1 := hl.le; have h2 := hl.cap; unfold maxLen at h2; omega
  have hn3 : blen ≤ 9223372036854775807 := by have h1 := hs.le; have h2 := hs.cap; unfold maxLen at h2; omega
  have hle := hl.le
  have hle2 := hs.le
  clear hl hs
  go_enter Try.func4, Try.ntmps4
  go_wp2_with fail
  refine (known10_any _).mono ?_
  rintro _ w1 ⟨rfl, hb1⟩
  have Hb1 := hid (show Below L w w1 by rw [← HL.out]; exact hb1)
  have HL1 := hid (show L ≤ w1.heap.size by rw [← HL.out]; exact hb1.size)
  clear hb1
  go_wp2_with fail
  refine (kNew_at 2000 Hb1.out HL1.out).mono ?_
  rintro _ w2 ⟨d, r, rfl, hK, hdd, hrr, hnd⟩
  have HK := hid hK
  clear hK
  go_wp2_with fail
  go_loopw [8, 9, 10] (fun all kept i wr => ∃ (j K : Nat) (al : List UInt8), j ≤ 20 ∧ i = .int .i64 j ∧ all = .string ⟨al.toArray⟩ ∧ kept = .int .i64 (K : Int) ∧ K ≤ al.length ∧ al.length ≤ 60 * j ∧ KD L w wr d r ⟨al, K, 2000, 0, false⟩) (fun _ _ i _ => 20 - (intOf i).toNat)
  case atStart => exact ⟨0, 0, [], by omega, rfl, rfl, rfl, Nat.le_refl _, Nat.le_refl _, HK.out⟩
  case round =>
    clear HK
    obtain ⟨j, K, al, hj, rfl, rfl, rfl, hK1, hal, hK⟩ := hrel
    have HK := hid hK
    obtain ⟨n, hn⟩ : ∃ n, al.length = n := ⟨_, rfl⟩
    have HALN := hid hn
    rw [hn] at hK1 hal
    obtain ⟨S, hS⟩ : ∃ S, (⟨al.toArray⟩ : ByteArray) = S := ⟨_, rfl⟩
    have HS := hid hS
    have hsz : S.size = n := by rw [← hS, ← hn]; show al.toArray.size = al.length; simp
    rw [hS]
    clear hK hn hS Hb1 HL1 hdd hrr hnd
    by_cases h1 : ¬ (j : Int) < (len : Int)
    · obtain ⟨t, ht⟩ : ∃ t, (⟨al, K, 2000, 0, false⟩ : Dk).stay p = t := ⟨_, rfl⟩
      have htn : t ≤ n ∧ K ≤ t := by rw [← ht, ← HALN.out]; exact Dk.stay_le _ HK.out.dk.ok p
      have HCR := hid (show (⟨al, K, 2000, 0, false⟩ : Dk).crash p = ⟨al.take t, t, 2000, 0, false⟩ by rw [← ht]; rfl)
      have HTL := hid (show (al.take t).length = t by rw [List.length_take, HALN.out]; omega)
      have HSL := hid (front_strS al t (by rw [HALN.out]; omega))
      obtain ⟨q, hq⟩ : ∃ q : Nat, p % ((n : Int) - (K : Int) + 1) = (q : Int) := ⟨(p % ((n : Int) - (K : Int) + 1)).toNat, by have := Int.emod_nonneg p (b := (n : Int) - (K : Int) + 1) (by omega); omega⟩
      have HP := hid hq
      have HPT := hid (show (K : Int) + (q : Int) = (t : Int) by
        have e : (⟨al, K, 2000, 0, false⟩ : Dk).stay p = K + (p % (((al.length - K + 1 : Nat)) : Int)).toNat := rfl
        rw [HALN.out, show ((n - K + 1 : Nat) : Int) = (n : Int) - (K : Int) + 1 by omega, hq, ht] at e
        omega)
      clear ht hq
      go_wp2_with fail
      refine (kSynced_any d r _ _ HK.out.dk).mono ?_
      rintro _ wz ⟨rfl, hwz⟩
      rw [hwz]
      clear hwz wz
      go_wp2_with fail
      refine (kCrash_at HK.out p _ HCR.out).mono ?_
      rintro _ wa ⟨rfl, hK, _⟩
      have HKa := hid hK
      clear hK
      go_wp2_with fail
      refine (kRead_at HKa.out (al.take t) 0 t rfl HTL.out).mono ?_
      rintro _ wb ⟨yo, yc, rfl, hH, hK, hb⟩
      have HKb := hid hK
      have s1 := strQ hH.reads
      have HSY := hid (fun k => (kSynced_any d r _ (wb.drewN k) (hK.dk.later (belowDrewN0 _ k))))
      have HDE := hid (fun k => (kDead_any d r _ (wb.drewN k) (hK.dk.later (belowDrewN0 _ k))))
      clear hK hH hb HKa
      go_wp2_with fail
      refine (within10_any p ((n : Int) - (K : Int) + 1) (by omega) (by omega) _).mono ?_
      rintro _ wx ⟨rfl, hwx⟩
      rw [hwx, HP.out]
      clear hwx wx
      have hpt := HPT.out
      have s2 := HSL.out
      rw [HS.out] at s2
      generalize (⟨(al.take t).toArray⟩ : ByteArray) = X at *
      clear HS HSL
      go_wp2_with fail
      go_quiet (first | refine Calls.quiet_of_same (HSY.out _) | refine Calls.quiet_of_same (HDE.out _))
      go_wp2_with fail
      go_ret
      exact ⟨rfl, (HKb.out.later (belowDrewN0 wb nq)).bel⟩
    by_cases h2 : ¬ (j : Int) < 20
    · have h1 : (j : Int) < (len : Int) := by omega
      obtain ⟨t, ht⟩ : ∃ t, (⟨al, K, 2000, 0, false⟩ : Dk).stay p = t := ⟨_, rfl⟩
      have htn : t ≤ n ∧ K ≤ t := by rw [← ht, ← HALN.out]; exact Dk.stay_le _ HK.out.dk.ok p
      have HCR := hid (show (⟨al, K, 2000, 0, false⟩ : Dk).crash p = ⟨al.take t, t, 2000, 0, false⟩ by rw [← ht]; rfl)
      have HTL := hid (show (al.take t).length = t by rw [List.length_take, HALN.out]; omega)
      have HSL := hid (front_strS al t (by rw [HALN.out]; omega))
      obtain ⟨q, hq⟩ : ∃ q : Nat, p % ((n : Int) - (K : Int) + 1) = (q : Int) := ⟨(p % ((n : Int) - (K : Int) + 1)).toNat, by have := Int.emod_nonneg p (b := (n : Int) - (K : Int) + 1) (by omega); omega⟩
      have HP := hid hq
      have HPT := hid (show (K : Int) + (q : Int) = (t : Int) by
        have e : (⟨al, K, 2000, 0, false⟩ : Dk).stay p = K + (p % (((al.length - K + 1 : Nat)) : Int)).toNat := rfl
        rw [HALN.out, show ((n - K + 1 : Nat) : Int) = (n : Int) - (K : Int) + 1 by omega, hq, ht] at e
        omega)
      clear ht hq
      go_wp2_with fail
      refine (kSynced_any d r _ _ HK.out.dk).mono ?_
      rintro _ wz ⟨rfl, hwz⟩
      rw [hwz]
      clear hwz wz
      go_wp2_with fail
      refine (kCrash_at HK.out p _ HCR.out).mono ?_
      rintro _ wa ⟨rfl, hK, _⟩
      have HKa := hid hK
      clear hK
      go_wp2_with fail
      refine (kRead_at HKa.out (al.take t) 0 t rfl HTL.out).mono ?_
      rintro _ wb ⟨yo, yc, rfl, hH, hK, hb⟩
      have HKb := hid hK
      have s1 := strQ hH.reads
      have HSY := hid (fun k => (kSynced_any d r _ (wb.drewN k) (hK.dk.later (belowDrewN0 _ k))))
      have HDE := hid (fun k => (kDead_any d r _ (wb.drewN k) (hK.dk.later (belowDrewN0 _ k))))
      clear hK hH hb HKa
      go_wp2_with fail
      refine (within10_any p ((n : Int) - (K : Int) + 1) (by omega) (by omega) _).mono ?_
      rintro _ wx ⟨rfl, hwx⟩
      rw [hwx, HP.out]
      clear hwx wx
      have hpt := HPT.out
      have s2 := HSL.out
      rw [HS.out] at s2
      generalize (⟨(al.take t).toArray⟩ : ByteArray) = X at *
      clear HS HSL
      go_wp2_with fail
      go_quiet (first | refine Calls.quiet_of_same (HSY.out _) | refine Calls.quiet_of_same (HDE.out _))
      go_wp2_with fail
      go_ret
      exact ⟨rfl, (HKb.out.later (belowDrewN0 wb nq)).bel⟩
    have h1 : (j : Int) < (len : Int) := by omega
    have h2 : (j : Int) < 20 := by omega
    obtain ⟨kb, ko, so, sc, l, rfl, hc0, hrd0, hsc⟩ := HN.out.at_ j (by omega)
    obtain ⟨m, hm⟩ : ∃ m, l.length = m := ⟨_, rfl⟩
    have HLM := hid hm
    rw [hm] at hc0 hrd0
    have hmc : m ≤ sc := by
      obtain ⟨x1, x2, e, h3, _⟩ := hrd0
      injection e with e1 e2 e3
      rw [B_length] at h3
      omega
    have HC := hid (show ∀ wx, Below L w wx → wx.cell? ⟨kb, ko + j, none⟩ = some (.slice so m sc) ∧ Reads wx (.slice so m sc) (B l) from fun wx h => ⟨cell_later (by rw [HL.out]; exact h) hc0, hrd0.later (by rw [HL.out]; exact h)⟩)
    clear hm hc0 hrd0
    have hc := (HC.out _ HK.out.bel).1
    by_cases h60 : (60 : Int) < (m : Int)
    · go_wp2_with fail
      go_ret
      exact ⟨rfl, HK.out.bel⟩
    go_wp2_with fail
    refine (kAppend_at HK.out _ l (HC.out _ HK.out.bel).2 (by rw [HLM.out]; omega) 0 _ (stays_app al K l (by rw [HLM.out, HALN.out]; omega))).mono ?_
    rintro _ wa ⟨rfl, hK, _⟩
    have HKa := hid hK
    replace hc := (HC.out _ hK.bel).1
    have s1 := run_strB (HC.out _ hK.bel).2
    obtain ⟨X, hX⟩ : ∃ X, (⟨l.toArray⟩ : ByteArray) = X := ⟨_, rfl⟩
    have hxz : X.size = m := by rw [← hX, ← HLM.out]; show l.toArray.size = l.length; simp
    have HX2 := hid (show S ++ X = ⟨(al ++ l).toArray⟩ by rw [← HS.out, ← hX]; exact ba_cat al l)
    have HLN := hid (show (al ++ l).length = n + m by rw [List.length_append, HALN.out, HLM.out])
    rw [hX] at s1
    have hsum : n + m ≤ 9223372036854775807 := by omega
    clear hX hK HK HC
    go_upto_region 14 with fail
    obtain ⟨S2, hS2⟩ : ∃ S2, S ++ X = S2 := ⟨_, rfl⟩
    have HS2 := hid (show S2 = ⟨(al ++ l).toArray⟩ by rw [← hS2]; exact HX2.out)
    have hsz2 : S2.size = n + m := by rw [HS2.out, ← HLN.out]; show (al ++ l).toArray.size = _; simp
    rw [hS2]
    clear hS2 HX2 s1 hc hsz hxz hsum
    by_cases hb : ¬ (j : Int) < (blen : Int)
    · go_wp2_with fail
      go_roundw
      case rel => exact ⟨j + 1, K, al ++ l, by omega, by go_num, by rw [HS2.out], by go_num, by rw [HLN.out]; omega, by rw [HLN.out]; omega, HKa.out⟩
      case measure => simp [intOf]; omega
    have hb' : (j : Int) < (blen : Int) := by omega
    obtain ⟨b1, b2, x, rfl, hc⟩ := (HM.out _ HKa.out.bel).at_ j (by omega)
    cases x with
    | false =>
      go_wp2_with fail
      go_roundw
      case rel => exact ⟨j + 1, K, al ++ l, by omega, by go_num, by rw [HS2.out], by go_num, by rw [HLN.out]; omega, by rw [HLN.out]; omega, HKa.out⟩
      case measure => simp [intOf]; omega
    | true =>
      go_wp2_with fail
      refine (kSync_at HKa.out 0 _ (stays_sync _ _)).mono ?_
      rintro _ wb ⟨rfl, hK, _⟩
      have HKb := hid hK
      clear hK HKa hc
      go_wp2_with fail
      go_roundw
      case rel => exact ⟨j + 1, n + m, al ++ l, by omega, by go_num, by rw [HS2.out], by go_num, by rw [HLN.out]; exact Nat.le_refl _, by rw [HLN.out]; omega, by rw [← HLN.out]; exact HKb.out⟩
      case measure => simp [intOf]; omega
theorem dstays_row (W : World) (ao : Option Addr) (len cap : Nat) (h0 : InBytes W ao len cap) (bo : Option Addr) (blen bcap : Nat) (h1 : InBools W bo blen bcap) (p : Int) (wp_ : (Lit.int .i64 p).wf = true) (_u : World) :
    Calls Try.prog 4 #[.slice ao len cap, .slice bo blen bcap, .int .i64 p] W fun e w' => e = .returned (.bool true) ∧ Below W.heap.size W w' := dstays_any ao len cap bo blen bcap p W h0 h1
end Go.Proofs.Ytekcoeckgolhcaa

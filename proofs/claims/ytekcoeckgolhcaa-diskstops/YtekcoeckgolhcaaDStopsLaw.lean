/- The law DiskStops: the power goes at the operation that was said. -/
import Derived.Test.YtekcoeckgolhcaaDBits
import Derived.Test.YtekcoeckgolhcaaArgB
import Derived.Test.YtekcoeckgolhcaaWithin10
import Derived.Test.YtekcoeckgolhcaaKAt2
import Derived.BigQuiet
import Derived.Deep.DeepCutAuto
namespace Go.Proofs.Ytekcoeckgolhcaa
open Go.RowKit
set_option linter.unusedSimpArgs false
set_option linter.unusedVariables false


/-- Where the round stands: j rounds, o operations of m. -/
structure SI (m j o : Nat) (s : Dk) : Prop where
  om : o ≤ m
  left : s.left = m - o
  gone : s.gone = decide (m ≤ o)
  size : s.size = 500
  len : s.b.length ≤ j
  kept : s.kept ≤ s.b.length

section
variable {m j o : Nat} {s : Dk}
theorem si_dead (h : SI m j o s) (he : o = m) : s.gone = true ∧ SI m (j + 1) o s := ⟨by rw [h.gone]; exact decide_eq_true (by omega), ⟨h.om, h.left, h.gone, h.size, by have := h.len; omega, h.kept⟩⟩
theorem si_live (h : SI m j o s) (he : o < m) : s.gone = false ∧ SI m (j + 1) o s := ⟨by rw [h.gone]; exact decide_eq_false (by omega), ⟨h.om, h.left, h.gone, h.size, by have := h.len; omega, h.kept⟩⟩
theorem si_app (h : SI m j o s) (hj : j < 20) (x : UInt8) (he : o < m) : (s.app [x]).1 = (if o + 1 = m then 18 else 0) ∧ SI m (j + 1) (o + 1) (s.app [x]).2 := by
  obtain ⟨hg, _⟩ := si_live h he
  obtain ⟨h1, h2, h3, h4, h5, h6⟩ := h
  have hl : (s.b ++ [x]).length = s.b.length + 1 := by simp
  rw [Dk.app, if_neg (by rw [hg]; simp), if_neg (by rw [h4]; simp; omega)]
  by_cases hm : o + 1 = m
  · rw [if_pos (by omega), if_pos hm]
    exact ⟨rfl, ⟨by omega, by show 0 = _; omega, by show true = _; rw [decide_eq_true (by omega)], h4, by show (s.b ++ [x]).length ≤ _; omega, by show s.kept ≤ (s.b ++ [x]).length; omega⟩⟩
  · rw [if_neg (by omega), if_neg hm]
    exact ⟨rfl, ⟨by omega, by show s.left - 1 = _; omega, by show false = _; rw [decide_eq_false (by omega)], h4, by show (s.b ++ [x]).length ≤ _; omega, by show s.kept ≤ (s.b ++ [x]).length; omega⟩⟩
theorem si_cut (h : SI m j o s) (n : Int) (hn : 0 ≤ n ∧ n ≤ s.b.length) (he : o < m) : (s.cut n).1 = (if o + 1 = m then 18 else 0) ∧ SI m (j + 1) (o + 1) (s.cut n).2 := by
  obtain ⟨hg, _⟩ := si_live h he
  obtain ⟨h1, h2, h3, h4, h5, h6⟩ := h
  rw [Dk.cut, if_neg (by rw [hg]; simp), if_neg (by omega)]
  by_cases hm : o + 1 = m
  · rw [if_pos (by omega), if_pos hm]
    exact ⟨rfl, ⟨by omega, by show 0 = _; omega, by show true = _; rw [decide_eq_true (by omega)], h4, by show s.b.length ≤ _; omega, h6⟩⟩
  · rw [if_neg (by omega), if_neg hm]
    have hl : (s.b.take n.toNat).length = n.toNat := by rw [List.length_take]; omega
    exact ⟨rfl, ⟨by omega, by show s.left - 1 = _; omega, by show false = _; rw [decide_eq_false (by omega)], h4, by show (s.b.take n.toNat).length ≤ _; omega, by show n.toNat ≤ (s.b.take n.toNat).length; omega⟩⟩
theorem si_sync (h : SI m j o s) (he : o < m) : s.sync.1 = (if o + 1 = m then 18 else 0) ∧ SI m (j + 1) (o + 1) s.sync.2 := si_cut h _ ⟨by omega, Int.le_refl _⟩ he
theorem si_full (h : SI m j o s) (he : o < m) : (s.app (List.replicate 600 0)).1 = 19 ∧ SI m (j + 1) o (s.app (List.replicate 600 0)).2 := by
  obtain ⟨hg, h7⟩ := si_live h he
  rw [Dk.app, if_neg (by rw [hg]; simp), if_pos (by rw [h.size, List.length_replicate]; omega)]
  exact ⟨rfl, h7⟩
theorem si_off (h : SI m j o s) (he : o = m) : (∀ l, (s.app l).1 = 18 ∧ SI m (j + 1) o (s.app l).2) ∧ (∀ n, (s.cut n).1 = 18 ∧ SI m (j + 1) o (s.cut n).2) ∧ s.sync.1 = 18 ∧ SI m (j + 1) o s.sync.2 := by
  obtain ⟨hg, h7⟩ := si_dead h he
  refine ⟨fun l => ?_, fun n => ?_, ?_⟩
  · rw [Dk.app, if_pos hg]; exact ⟨rfl, h7⟩
  · rw [Dk.cut, if_pos hg]; exact ⟨rfl, h7⟩
  · rw [Dk.sync, Dk.cut, if_pos hg]; exact ⟨rfl, h7⟩
theorem si_tail1 (h : SI m j o s) : (s.crash 0).app [] = (0, ⟨(s.crash 0).b, (s.crash 0).kept, s.size, 0, false⟩) := by
  rw [Dk.app, if_neg (by simp [Dk.crash]), if_neg (by simp), if_neg (by simp [Dk.crash]), List.append_nil]
  rfl
theorem si_tail2 (h : SI m j o s) : (⟨(s.crash 0).b, (s.crash 0).kept, s.size, 0, false⟩ : Dk).sync = (0, ⟨(s.crash 0).b.take (s.crash 0).b.length, (s.crash 0).b.length, s.size, 0, false⟩) := by
  rw [Dk.sync, Dk.cut, if_neg (by simp), if_neg (by simp only; omega), if_neg (by simp)]
  rfl
end
theorem reads_one (w : World) (e : TypeId) (z : Int) (h0 : 0 ≤ z) (h1 : z < 256) : Reads (w.alloc (.cells #[.int .u8 z] e)) (.slice (some ⟨w.heap.size, 0, none⟩) 1 1) (B [UInt8.ofNat z.toNat]) := by
  have h := reads_newB w e [UInt8.ofNat z.toNat] 1 rfl
  have h2 : B [UInt8.ofNat z.toNat] = [.int .u8 z] := by
    show [Value.int .u8 (UInt8.ofNat z.toNat).toNat] = _
    rw [UInt8.toNat_ofNat']
    congr 2
    omega
  rw [h2] at h ⊢
  exact h
section
variable {L : Nat} {w w1 : World} {d r : Nat} {s : Dk}
theorem kAppend_to (h : KD L w w1 d r s) (v : Value) (l : List UInt8) (hv : Reads w1 v (B l)) (hll : l.length ≤ 140737488355328) {x : Int} (P : Dk → Prop) (hx : (s.app l).1 = x) (hP : P (s.app l).2) :
    Calls Try.prog 16 #[.pointer (some ⟨d, 0, none⟩), v] w1 fun e w' => ∃ s', e = .returned (.int .i64 x) ∧ P s' ∧ KD L w w' d r s' :=
  (kAppend_at h v l hv hll x (s.app l).2 (Prod.ext hx rfl)).mono fun _ _ ⟨h1, h2, _⟩ => ⟨_, h1, hP, h2⟩
theorem kCut_to (h : KD L w w1 d r s) (n : Int) {x : Int} (P : Dk → Prop) (hx : (s.cut n).1 = x) (hP : P (s.cut n).2) :
    Calls Try.prog 23 #[.pointer (some ⟨d, 0, none⟩), .int .i64 n] w1 fun e w' => ∃ s', e = .returned (.int .i64 x) ∧ P s' ∧ KD L w w' d r s' :=
  (kCut_at h n x (s.cut n).2 (Prod.ext hx rfl)).mono fun _ _ ⟨h1, h2, _⟩ => ⟨_, h1, hP, h2⟩
theorem kSync_to (h : KD L w w1 d r s) {x : Int} (P : Dk → Prop) (hx : s.sync.1 = x) (hP : P s.sync.2) :
    Calls Try.prog 17 #[.pointer (some ⟨d, 0, none⟩)] w1 fun e w' => ∃ s', e = .returned (.int .i64 x) ∧ P s' ∧ KD L w w' d r s' :=
  (kSync_at h x s.sync.2 (Prod.ext hx rfl)).mono fun _ _ ⟨h1, h2, _⟩ => ⟨_, h1, hP, h2⟩
end

set_option maxRecDepth 100000 in
set_option maxHeartbeats 16000000 in
theorem dstops_any (a : Int) (ao : Option Addr) (len cap : Nat) (hcap : len ≤ cap) (hc : cap ≤ maxLen) (w : World) (hk : Nums w ao len) :
    Calls Try.prog 5 #[.int .i64 a, .slice ao len cap] w fun e w' => e = .returned (.bool true) ∧ Below w.heap.size w w' := by
  obtain ⟨i0, hi, hz0, hz1, hz2⟩ := info_parts Try.infoByte
  obtain ⟨L, hL⟩ : ∃ L, w.heap.size = L := ⟨_, rfl⟩
  have HL := hid hL
  rw [hL]
  clear hL
  have HN := hid (show ∀ wx, Below L w wx → Nums wx ao len from fun wx h => hk.later (by rw [HL.out]; exact h))
  have hn2 : len ≤ 9223372036854775807 := by unfold maxLen at hc; omega
  clear hk hc
  go_enter Try.func5, Try.ntmps5
  go_wp2_with fail
  refine (known10_any _).mono ?_
  rintro _ w1 ⟨rfl, hb1⟩
  have Hb1 := hid (show Below L w w1 by rw [← HL.out]; exact hb1)
  have HL1 := hid (show L ≤ w1.heap.size by rw [← HL.out]; exact hb1.size)
  clear hb1
  go_wp2_with fail
  refine (kNew_at 500 Hb1.out HL1.out).mono ?_
  rintro _ w2 ⟨d, r, rfl, hK, hdd, hrr, hnd⟩
  have HK := hid hK
  clear hK
  go_wp2_with fail
  refine (within10_any a 10 (by omega) (by omega) _).mono ?_
  rintro _ wx ⟨rfl, hwx⟩
  rw [hwx]
  clear hwx wx
  obtain ⟨t, ht⟩ : ∃ t : Nat, a % 10 = (t : Int) := ⟨(a % 10).toNat, by omega⟩
  have ht9 : t ≤ 9 := by omega
  rw [ht]
  clear ht hdd hrr hnd
  obtain ⟨m, hm⟩ : ∃ m : Nat, t + 1 = m := ⟨_, rfl⟩
  have hm1 : 1 ≤ m ∧ m ≤ 10 := by omega
  have HMT := hid (show 1 + (t : Int) = (m : Int) by omega)
  clear hm
  go_upto_region 5 with fail
  rw [HMT.out]
  clear HMT ht9
  go_wp2_with fail
  refine (kStop_at HK.out (m : Int) (by omega) _ rfl).mono ?_
  rintro _ w3 ⟨rfl, hK, _⟩
  have HS0 := hid (show SI m 0 0 ((Dk.new 500).stop (m : Int)) from ⟨Nat.zero_le _, by show (max (m : Int) 0).toNat = _; omega, by show false = _; rw [decide_eq_false (by omega)], rfl, Nat.le_refl _, Nat.le_refl _⟩)
  have HK3 := hid hK
  clear hK HK
  go_wp2_with fail
  go_loopw [6, 7] (fun ops i wr => ∃ (j o : Nat) (s : Dk), j ≤ 20 ∧ i = .int .i64 j ∧ ops = .int .i64 o ∧ SI m j o s ∧ KD L w wr d r s) (fun _ i _ => 20 - (intOf i).toNat)
  case atStart => exact ⟨0, 0, _, by omega, rfl, rfl, HS0.out, HK3.out⟩
  case round =>
    obtain ⟨j, o, s, hj, rfl, rfl, hS, hK⟩ := hrel
    have HSI := hid hS
    have HK := hid hK
    clear hS hK HS0 HK3 Hb1 HL1
    by_cases h1 : ¬ (j : Int) < (len : Int)
    · go_wp2_with fail
      refine (kCrash_at HK.out 0 _ rfl).mono ?_
      rintro _ wa ⟨rfl, hK, _⟩
      have HKa := hid hK
      clear hK
      go_wp2_with fail
      refine (kAppend_at HKa.out _ [] (Reads.nil _) (by simp) 0 _ (si_tail1 HSI.out)).mono ?_
      rintro _ wb ⟨rfl, hK, _⟩
      have HKb := hid hK
      clear hK
      go_wp2_with fail
      refine (kSync_at HKb.out 0 _ (si_tail2 HSI.out)).mono ?_
      rintro _ wd ⟨rfl, hK, _⟩
      have HKd := hid hK
      clear hK
      go_wp2_with fail
      go_ret
      exact ⟨rfl, HKd.out.bel⟩
    by_cases h2 : ¬ (j : Int) < 20
    · have h1 : (j : Int) < (len : Int) := by omega
      go_wp2_with fail
      refine (kCrash_at HK.out 0 _ rfl).mono ?_
      rintro _ wa ⟨rfl, hK, _⟩
      have HKa := hid hK
      clear hK
      go_wp2_with fail
      refine (kAppend_at HKa.out _ [] (Reads.nil _) (by simp) 0 _ (si_tail1 HSI.out)).mono ?_
      rintro _ wb ⟨rfl, hK, _⟩
      have HKb := hid hK
      clear hK
      go_wp2_with fail
      refine (kSync_at HKb.out 0 _ (si_tail2 HSI.out)).mono ?_
      rintro _ wd ⟨rfl, hK, _⟩
      have HKd := hid hK
      clear hK
      go_wp2_with fail
      go_ret
      exact ⟨rfl, HKd.out.bel⟩
    have h1 : (j : Int) < (len : Int) := by omega
    have h2 : (j : Int) < 20 := by omega
    obtain ⟨kb, ko, x, rfl, hc⟩ := HN.out _ HK.out.bel j (by omega)
    obtain ⟨k, hk⟩ : ∃ k : Nat, x % 4 = (k : Int) := ⟨(x % 4).toNat, by omega⟩
    have HX := hid hk
    have hk4 : k < 4 := by omega
    clear hk
    have hsz := HSI.out.size
    have hom := HSI.out.om
    clear hsz
    rcases (show o = m ∨ o + 1 = m ∨ o + 1 < m by omega) with ho | ho | ho
    · have HOFF := hid (si_off HSI.out ho)
      have HA := hid (fun x => HOFF.out.1 [x])
      have HF := hid (HOFF.out.1 (List.replicate 600 0))
      have HC := hid (HOFF.out.2.1 0)
      have HY := hid HOFF.out.2.2
      clear HOFF
      have ho' := ho.symm
      clear ho
      subst ho'
      go_wp2_with fail
      refine (within10_any x 4 (by omega) (by omega) _).mono ?_
      rintro _ wx ⟨rfl, hwx⟩
      rw [hwx, HX.out]
      clear hwx wx hc
      rcases (show k = 0 ∨ k = 1 ∨ k = 2 ∨ k = 3 by omega) with hk0 | hk0 | hk0 | hk0
      · subst hk0
        go_wp2_with fail
        refine (kAppend_to (HK.out.alloc _) _ _ (reads_one _ _ _ (by omega) (by omega)) (by simp) (SI m (j + 1) (m)) (HA.out _).1 (HA.out _).2).mono ?_
        rintro _ wa ⟨s2, rfl, hS2, hK⟩
        have HK2 := hid hK
        have HS2 := hid hS2
        have hg2 := hS2.gone
        clear hK hS2
        go_wp2_with fail
        refine (kDead_any d r _ _ HK2.out.dk).mono ?_
        rintro _ wz ⟨rfl, hwz⟩
        rw [hwz, hg2]
        clear hwz wz hg2
        rw [decide_eq_true (by omega)]
        go_wp2_with fail
        go_roundw
        case rel => exact ⟨j + 1, m, s2, by omega, by go_num, by go_num, HS2.out, HK2.out⟩
        case measure => simp [intOf]; omega
      · subst hk0
        go_wp2_with fail
        refine (kSync_to HK.out (SI m (j + 1) (m)) HY.out.1 HY.out.2).mono ?_
        rintro _ wa ⟨s2, rfl, hS2, hK⟩
        have HK2 := hid hK
        have HS2 := hid hS2
        have hg2 := hS2.gone
        clear hK hS2
        go_wp2_with fail
        refine (kDead_any d r _ _ HK2.out.dk).mono ?_
        rintro _ wz ⟨rfl, hwz⟩
        rw [hwz, hg2]
        clear hwz wz hg2
        rw [decide_eq_true (by omega)]
        go_wp2_with fail
        go_roundw
        case rel => exact ⟨j + 1, m, s2, by omega, by go_num, by go_num, HS2.out, HK2.out⟩
        case measure => simp [intOf]; omega
      · subst hk0
        go_wp2_with fail
        refine (kCut_to HK.out 0 (SI m (j + 1) (m)) HC.out.1 HC.out.2).mono ?_
        rintro _ wa ⟨s2, rfl, hS2, hK⟩
        have HK2 := hid hK
        have HS2 := hid hS2
        have hg2 := hS2.gone
        clear hK hS2
        go_wp2_with fail
        refine (kDead_any d r _ _ HK2.out.dk).mono ?_
        rintro _ wz ⟨rfl, hwz⟩
        rw [hwz, hg2]
        clear hwz wz hg2
        rw [decide_eq_true (by omega)]
        go_wp2_with fail
        go_roundw
        case rel => exact ⟨j + 1, m, s2, by omega, by go_num, by go_num, HS2.out, HK2.out⟩
        case measure => simp [intOf]; omega
      · subst hk0
        go_wp2_with (at_make; go_must (refine wpList_make_blk rfl _ _ 31 rfl 5 i0 Try.underlying31 hi hz0 hz1 hz2 .i64 .i64 600 rfl rfl (by omega) wr.heap.size rfl ?_); go_must (intro wm hBm hbm hsm; have HKm := hid (HK.out.later hbm); have HRm := hid (hBm.ownsB (List.length_replicate ..) (by unfold maxLen; omega)).reads; clear hBm hbm hsm))
        refine (kAppend_to HKm.out _ (List.replicate 600 0) HRm.out (by rw [List.length_replicate]; omega) (SI m (j + 1) (m)) HF.out.1 HF.out.2).mono ?_
        rintro _ wa ⟨s2, rfl, hS2, hK⟩
        have HK2 := hid hK
        have HS2 := hid hS2
        have hg2 := hS2.gone
        clear hK hS2
        go_wp2_with fail
        refine (kDead_any d r _ _ HK2.out.dk).mono ?_
        rintro _ wz ⟨rfl, hwz⟩
        rw [hwz, hg2]
        clear hwz wz hg2
        rw [decide_eq_true (by omega)]
        go_wp2_with fail
        go_roundw
        case rel => exact ⟨j + 1, m, s2, by omega, by go_num, by go_num, HS2.out, HK2.out⟩
        case measure => simp [intOf]; omega
    · have HA := hid (fun x => si_app HSI.out (by omega) x (show o < m by omega))
      have HC := hid (si_cut HSI.out 0 ⟨by omega, by omega⟩ (show o < m by omega))
      have HY := hid (si_sync HSI.out (show o < m by omega))
      have HF := hid (si_full HSI.out (show o < m by omega))
      rw [if_pos ho] at HC HY
      replace HA := hid (fun x => (show (s.app [x]).1 = 18 ∧ SI m (j + 1) (o + 1) (s.app [x]).2 by have := HA.out x; rwa [if_pos ho] at this))
      have g1 : ¬ (m : Int) ≤ (o : Int) := by omega
      have g2 : ((o : Int) == (m : Int)) = false := beq_eq_false_iff_ne.2 (by omega)
      have g3 : ((o : Int) + 1 == (m : Int)) = true := beq_iff_eq.2 (by omega)
      have g4 : (m : Int) ≤ (o : Int) + 1 := by omega
      go_wp2_with fail
      refine (within10_any x 4 (by omega) (by omega) _).mono ?_
      rintro _ wx ⟨rfl, hwx⟩
      rw [hwx, HX.out]
      clear hwx wx hc
      rcases (show k = 0 ∨ k = 1 ∨ k = 2 ∨ k = 3 by omega) with hk0 | hk0 | hk0 | hk0
      · subst hk0
        go_wp2_with fail
        refine (kAppend_to (HK.out.alloc _) _ _ (reads_one _ _ _ (by omega) (by omega)) (by simp) (SI m (j + 1) (o + 1)) (HA.out _).1 (HA.out _).2).mono ?_
        rintro _ wa ⟨s2, rfl, hS2, hK⟩
        have HK2 := hid hK
        have HS2 := hid hS2
        have hg2 := hS2.gone
        clear hK hS2
        go_wp2_with fail
        refine (kDead_any d r _ _ HK2.out.dk).mono ?_
        rintro _ wz ⟨rfl, hwz⟩
        rw [hwz, hg2]
        clear hwz wz hg2
        rw [decide_eq_true (by omega)]
        go_wp2_with fail
        go_roundw
        case rel => exact ⟨j + 1, o + 1, s2, by omega, by go_num, by go_num, HS2.out, HK2.out⟩
        case measure => simp [intOf]; omega
      · subst hk0
        go_wp2_with fail
        refine (kSync_to HK.out (SI m (j + 1) (o + 1)) HY.out.1 HY.out.2).mono ?_
        rintro _ wa ⟨s2, rfl, hS2, hK⟩
        have HK2 := hid hK
        have HS2 := hid hS2
        have hg2 := hS2.gone
        clear hK hS2
        go_wp2_with fail
        refine (kDead_any d r _ _ HK2.out.dk).mono ?_
        rintro _ wz ⟨rfl, hwz⟩
        rw [hwz, hg2]
        clear hwz wz hg2
        rw [decide_eq_true (by omega)]
        go_wp2_with fail
        go_roundw
        case rel => exact ⟨j + 1, o + 1, s2, by omega, by go_num, by go_num, HS2.out, HK2.out⟩
        case measure => simp [intOf]; omega
      · subst hk0
        go_wp2_with fail
        refine (kCut_to HK.out 0 (SI m (j + 1) (o + 1)) HC.out.1 HC.out.2).mono ?_
        rintro _ wa ⟨s2, rfl, hS2, hK⟩
        have HK2 := hid hK
        have HS2 := hid hS2
        have hg2 := hS2.gone
        clear hK hS2
        go_wp2_with fail
        refine (kDead_any d r _ _ HK2.out.dk).mono ?_
        rintro _ wz ⟨rfl, hwz⟩
        rw [hwz, hg2]
        clear hwz wz hg2
        rw [decide_eq_true (by omega)]
        go_wp2_with fail
        go_roundw
        case rel => exact ⟨j + 1, o + 1, s2, by omega, by go_num, by go_num, HS2.out, HK2.out⟩
        case measure => simp [intOf]; omega
      · subst hk0
        go_wp2_with (at_make; go_must (refine wpList_make_blk rfl _ _ 31 rfl 5 i0 Try.underlying31 hi hz0 hz1 hz2 .i64 .i64 600 rfl rfl (by omega) wr.heap.size rfl ?_); go_must (intro wm hBm hbm hsm; have HKm := hid (HK.out.later hbm); have HRm := hid (hBm.ownsB (List.length_replicate ..) (by unfold maxLen; omega)).reads; clear hBm hbm hsm))
        refine (kAppend_to HKm.out _ (List.replicate 600 0) HRm.out (by rw [List.length_replicate]; omega) (SI m (j + 1) (o)) HF.out.1 HF.out.2).mono ?_
        rintro _ wa ⟨s2, rfl, hS2, hK⟩
        have HK2 := hid hK
        have HS2 := hid hS2
        have hg2 := hS2.gone
        clear hK hS2
        go_wp2_with fail
        refine (kDead_any d r _ _ HK2.out.dk).mono ?_
        rintro _ wz ⟨rfl, hwz⟩
        rw [hwz, hg2]
        clear hwz wz hg2
        rw [decide_eq_false (by omega)]
        go_wp2_with fail
        go_roundw
        case rel => exact ⟨j + 1, o, s2, by omega, by go_num, by go_num, HS2.out, HK2.out⟩
        case measure => simp [intOf]; omega
    · have HA := hid (fun x => si_app HSI.out (by omega) x (show o < m by omega))
      have HC := hid (si_cut HSI.out 0 ⟨by omega, by omega⟩ (show o < m by omega))
      have HY := hid (si_sync HSI.out (show o < m by omega))
      have HF := hid (si_full HSI.out (show o < m by omega))
      rw [if_neg (by omega)] at HC HY
      replace HA := hid (fun x => (show (s.app [x]).1 = 0 ∧ SI m (j + 1) (o + 1) (s.app [x]).2 by have := HA.out x; rwa [if_neg (by omega)] at this))
      have g1 : ¬ (m : Int) ≤ (o : Int) := by omega
      have g2 : ((o : Int) == (m : Int)) = false := beq_eq_false_iff_ne.2 (by omega)
      have g3 : ((o : Int) + 1 == (m : Int)) = false := beq_eq_false_iff_ne.2 (by omega)
      have g4 : ¬ (m : Int) ≤ (o : Int) + 1 := by omega
      go_wp2_with fail
      refine (within10_any x 4 (by omega) (by omega) _).mono ?_
      rintro _ wx ⟨rfl, hwx⟩
      rw [hwx, HX.out]
      clear hwx wx hc
      rcases (show k = 0 ∨ k = 1 ∨ k = 2 ∨ k = 3 by omega) with hk0 | hk0 | hk0 | hk0
      · subst hk0
        go_wp2_with fail
        refine (kAppend_to (HK.out.alloc _) _ _ (reads_one _ _ _ (by omega) (by omega)) (by simp) (SI m (j + 1) (o + 1)) (HA.out _).1 (HA.out _).2).mono ?_
        rintro _ wa ⟨s2, rfl, hS2, hK⟩
        have HK2 := hid hK
        have HS2 := hid hS2
        have hg2 := hS2.gone
        clear hK hS2
        go_wp2_with fail
        refine (kDead_any d r _ _ HK2.out.dk).mono ?_
        rintro _ wz ⟨rfl, hwz⟩
        rw [hwz, hg2]
        clear hwz wz hg2
        rw [decide_eq_false (by omega)]
        go_wp2_with fail
        go_roundw
        case rel => exact ⟨j + 1, o + 1, s2, by omega, by go_num, by go_num, HS2.out, HK2.out⟩
        case measure => simp [intOf]; omega
      · subst hk0
        go_wp2_with fail
        refine (kSync_to HK.out (SI m (j + 1) (o + 1)) HY.out.1 HY.out.2).mono ?_
        rintro _ wa ⟨s2, rfl, hS2, hK⟩
        have HK2 := hid hK
        have HS2 := hid hS2
        have hg2 := hS2.gone
        clear hK hS2
        go_wp2_with fail
        refine (kDead_any d r _ _ HK2.out.dk).mono ?_
        rintro _ wz ⟨rfl, hwz⟩
        rw [hwz, hg2]
        clear hwz wz hg2
        rw [decide_eq_false (by omega)]
        go_wp2_with fail
        go_roundw
        case rel => exact ⟨j + 1, o + 1, s2, by omega, by go_num, by go_num, HS2.out, HK2.out⟩
        case measure => simp [intOf]; omega
      · subst hk0
        go_wp2_with fail
        refine (kCut_to HK.out 0 (SI m (j + 1) (o + 1)) HC.out.1 HC.out.2).mono ?_
        rintro _ wa ⟨s2, rfl, hS2, hK⟩
        have HK2 := hid hK
        have HS2 := hid hS2
        have hg2 := hS2.gone
        clear hK hS2
        go_wp2_with fail
        refine (kDead_any d r _ _ HK2.out.dk).mono ?_
        rintro _ wz ⟨rfl, hwz⟩
        rw [hwz, hg2]
        clear hwz wz hg2
        rw [decide_eq_false (by omega)]
        go_wp2_with fail
        go_roundw
        case rel => exact ⟨j + 1, o + 1, s2, by omega, by go_num, by go_num, HS2.out, HK2.out⟩
        case measure => simp [intOf]; omega
      · subst hk0
        go_wp2_with (at_make; go_must (refine wpList_make_blk rfl _ _ 31 rfl 5 i0 Try.underlying31 hi hz0 hz1 hz2 .i64 .i64 600 rfl rfl (by omega) wr.heap.size rfl ?_); go_must (intro wm hBm hbm hsm; have HKm := hid (HK.out.later hbm); have HRm := hid (hBm.ownsB (List.length_replicate ..) (by unfold maxLen; omega)).reads; clear hBm hbm hsm))
        refine (kAppend_to HKm.out _ (List.replicate 600 0) HRm.out (by rw [List.length_replicate]; omega) (SI m (j + 1) (o)) HF.out.1 HF.out.2).mono ?_
        rintro _ wa ⟨s2, rfl, hS2, hK⟩
        have HK2 := hid hK
        have HS2 := hid hS2
        have hg2 := hS2.gone
        clear hK hS2
        go_wp2_with fail
        refine (kDead_any d r _ _ HK2.out.dk).mono ?_
        rintro _ wz ⟨rfl, hwz⟩
        rw [hwz, hg2]
        clear hwz wz hg2
        rw [decide_eq_false (by omega)]
        go_wp2_with fail
        go_roundw
        case rel => exact ⟨j + 1, o, s2, by omega, by go_num, by go_num, HS2.out, HK2.out⟩
        case measure => simp [intOf]; omega
theorem dstops_row (W : World) (p : Int) (wp_ : (Lit.int .i64 p).wf = true) (a : Option Addr) (len cap : Nat) (zs : List Int) (h : IsRow .i64 W a len cap zs) (_u : World) :
    Calls Try.prog 5 #[.int .i64 p, .slice a len cap] W fun e w' => e = .returned (.bool true) ∧ Below W.heap.size W w' := by
  obtain ⟨h1, h2, h3⟩ := nums_arg h
  exact dstops_any p a len cap h2 h3 W h1
end Go.Proofs.Ytekcoeckgolhcaa

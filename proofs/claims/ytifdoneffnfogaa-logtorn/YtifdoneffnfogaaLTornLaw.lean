/- The law LogTorn: what is left of a record that is not whole is cut off. -/
import Derived.Test.YtifdoneffnfogaaQ11b
import Derived.Test.YtifdoneffnfogaaWithin11
import Derived.Test.YtifdoneffnfogaaRows11
import Derived.Test.YtifdoneffnfogaaOpenK
import Derived.Test.YtifdoneffnfogaaArgB
import Derived.Test.YtifdoneffnfogaaRowsV
import Derived.Test.YtifdoneffnfogaaQ11e
import Derived.BigQuiet
import Derived.Deep.DeepCutAuto
namespace Go.Proofs.Ytifdoneffnfogaa
open Go.RowKit
set_option linter.unusedSimpArgs false
set_option linter.unusedVariables false

theorem Try.infoBytesR : (Try.prog.info? 37).map (fun i => (i.zero, i.size, i.bytes)) = some (some (.slice none 0 0), 1, 24) := by kernel_rfl
theorem src_oneR {w : World} {g : Nat} {po : Option Addr} {n c : Nat} (h : Blk w 37 g [.slice po n c]) : Src Try.prog 1 22 (.slice (some ⟨g, 0, none⟩) 1 1) 1 [.slice po n c] w :=
  Src.ofSlice w Try.underlying22 ⟨g, 0, none⟩ 1 1 [.slice po n c] rfl (fun i u hi => by
    rcases i with _ | i
    · cases hi; exact h.cell rfl
    · simp at hi) (fun u hu => by rw [List.mem_singleton.1 hu]; rfl)
theorem on_torn (ls : List (List UInt8)) (h : ∀ r ∈ ls, r.length ≤ 16384) (b : List UInt8) (hb : b.length ≤ 16384) (Z p : Nat) (hp : p < 8 + b.length) : openS ((onD (ls ++ [b]) (encs ls).length Z).crash (p : Int)) = (0, ls, onD ls (encs ls).length Z) := by
  obtain ⟨E, hE⟩ : ∃ E, (encs ls).length = E := ⟨_, rfl⟩
  have hl : (encs (ls ++ [b])).length = E + (8 + b.length) := by rw [encs_append, encs_cons, List.length_append, List.length_append, enc_len, hE]; simp [encs]
  have hst : (onD (ls ++ [b]) E Z).stay (p : Int) = E + p := by
    show E + ((p : Int) % (((encs (ls ++ [b])).length - E + 1 : Nat) : Int)).toNat = E + p
    rw [hl, Int.emod_eq_of_lt (by omega) (by omega)]
    rfl
  have hbb : (encs (ls ++ [b])).take (E + p) = encs ls ++ (enc b).take p := by
    rw [encs_append, List.take_append, hE, List.take_of_length_le (by omega), encs_cons, Nat.add_sub_cancel_left]
    simp [encs]
  have hs : (onD (ls ++ [b]) E Z).crash (p : Int) = ⟨encs ls ++ (enc b).take p, E + p, Z, 0, false⟩ := by
    show (⟨(encs (ls ++ [b])).take ((onD (ls ++ [b]) E Z).stay (p : Int)), (onD (ls ++ [b]) E Z).stay (p : Int), Z, 0, false⟩ : Dk) = _
    rw [hst, hbb]
  have hr : recs (encs ls ++ (enc b).take p) = (ls, E) := by
    rw [recs_encs ls h, recs_stop (ends_torn b hb p hp), List.append_nil, hE]
    rfl
  have hll : (encs ls ++ (enc b).take p).length = E + p := by rw [List.length_append, hE, List.length_take, enc_len]; omega
  have hc : (⟨encs ls ++ (enc b).take p, E + p, Z, 0, false⟩ : Dk).cut (E : Int) = (0, ⟨encs ls, E, Z, 0, false⟩) := by
    rw [Dk.cut, if_neg (by simp), if_neg (by show ¬ ((E : Int) < 0 ∨ ((encs ls ++ (enc b).take p).length : Int) < (E : Int)); rw [hll]; omega), if_neg (by simp)]
    show (0, (⟨(encs ls ++ (enc b).take p).take (E : Int).toNat, (E : Int).toNat, Z, 0 - 1, false⟩ : Dk)) = _
    rw [Int.toNat_natCast, ← hE, List.take_left]
  rw [hE, hs, openS, if_neg (by simp)]
  simp only [hr]
  rw [hc, if_neg (by simp)]
  rfl

set_option maxRecDepth 100000 in
set_option maxHeartbeats 16000000 in
theorem ltorn_any (ao : Option Addr) (len cap : Nat) (bo : Option Addr) (bl bc : Nat) (lb : List UInt8) (a : Int) (mo : Option Addr) (ml mc : Nat) (lm : List UInt8) (w : World) (hl : InBytes w ao len cap) (hbl : lb.length = bl) (hb : Reads w (.slice bo bl bc) (B lb)) (hml : lm.length = ml) (hm : Reads w (.slice mo ml mc) (B lm)) (hbc : bl ≤ bc) (hbm : bc ≤ maxLen) (hmc : ml ≤ mc) (hmm : mc ≤ maxLen) :
    Calls Try.prog 8 #[.slice ao len cap, .slice bo bl bc, .int .i64 a, .slice mo ml mc] w fun e w' => e = .returned (.bool true) ∧ Below w.heap.size w w' := by
  obtain ⟨i1, hj1, hy0, hy1, hy2⟩ := info_parts Try.infoBytesR
  obtain ⟨L, hL⟩ : ∃ L, w.heap.size = L := ⟨_, rfl⟩
  have HL := hid hL
  rw [hL]
  clear hL
  have HN := hid hl
  have HB := hid (show ∀ wx, Below L w wx → Reads wx (.slice bo bl bc) (B lb) from fun wx h => hb.later (by rw [HL.out]; exact h))
  have HM := hid (show ∀ wx, Below L w wx → Reads wx (.slice mo ml mc) (B lm) from fun wx h => hm.later (by rw [HL.out]; exact h))
  have HBL := hid hbl
  have HML := hid hml
  have hn2 : len ≤ 9223372036854775807 := by have h1 := hl.le; have h2 := hl.cap; unfold maxLen at h2; omega
  have hle := hl.le
  have hcm := hl.cap
  clear hl hb hm hbl hml
  go_enter Try.func8, Try.ntmps8
  go_wp2_with fail
  refine (known11_any _).mono ?_
  rintro _ w1 ⟨rfl, hb1⟩
  have Hb1 := hid (show Below L w w1 by rw [← HL.out]; exact hb1)
  have HL1 := hid (show L ≤ w1.heap.size by rw [← HL.out]; exact hb1.size)
  clear hb1
  by_cases h100 : (100 : Int) < (bl : Int)
  · go_wp2_with fail
    go_ret
    exact ⟨rfl, Hb1.out⟩
  by_cases g100 : (100 : Int) < (ml : Int)
  · go_wp2_with fail
    go_ret
    exact ⟨rfl, Hb1.out⟩
  have hbl2 : bl ≤ 100 := by omega
  have hml2 : ml ≤ 100 := by omega
  go_wp2_with fail
  refine (kNew_at 6000 Hb1.out HL1.out).mono ?_
  rintro _ w2 ⟨d, r, rfl, hK, _, _, _⟩
  rw [show Dk.new 6000 = onD [] 0 6000 from on_new 6000 (by omega)] at hK
  have HK := hid hK
  clear hK Hb1 HL1
  go_wp2_with fail
  refine (lgOpen_at HK.out [] _ 0 (on_open [] (by simp) 0 6000) rfl).mono ?_
  rintro _ w3 ⟨q0, ro0, rc0, rfl, hD, _, _, _⟩
  have HD0 := hid hD
  clear hD HK
  go_wp2_with fail
  go_loopw [13, 14] (fun nv i wr => ∃ (j K : Nat) (ls : List (List UInt8)), j ≤ 8 ∧ j ≤ len ∧ nv = .int .i64 j ∧ i = .int .i64 j ∧ ls.length = j ∧ Front w ao ls ∧ (∀ x ∈ ls, x.length ≤ 60) ∧ LD L w wr d r q0 (onD ls K 6000) j 0) (fun _ i _ => 8 - (intOf i).toNat)
  case atStart => exact ⟨0, _, [], by omega, Nat.zero_le _, rfl, rfl, rfl, Front.nil _ _, by simp, HD0.out⟩
  case round =>
    clear HD0
    obtain ⟨j, K, ls, hj, hjl, rfl, rfl, hll, hF, hal, hD⟩ := hrel
    have HD := hid hD
    have HF := hid hF
    have HAL := hid hal
    have HLL := hid hll
    have HSZ := hid (show (encs ls).length ≤ 544 by have := encs_le 60 ls hal; rw [hll] at this; omega)
    clear hll hF hal hD
    by_cases h1 : ¬ (j : Int) < (len : Int)
    · go_wp2_with fail
      refine (lgSync_at HD.out 0 j _ (on_sync ls K 6000 j 0)).mono ?_
      rintro _ wa ⟨rfl, hD⟩
      have HDa := hid hD
      clear hD HD
      go_wp2_with fail
      refine (lgAppend_at HDa.out (by omega) _ lb (HB.out _ HDa.out.kd.bel) (by rw [HBL.out]; omega) 0 (j + 1) _ (on_app ls _ 6000 j lb (by rw [HBL.out]; omega) (by rw [HBL.out]; have := HSZ.out; omega))).mono ?_
      rintro _ wb ⟨rfl, hD⟩
      have HDb := hid hD
      clear hD HDa
      go_wp2_with fail
      refine (within11_any a ((bl : Int) + 8) (by omega) (by omega) _).mono ?_
      rintro _ wx ⟨rfl, hwx⟩
      rw [hwx]
      clear hwx wx
      obtain ⟨p, hp⟩ : ∃ p : Nat, a % ((bl : Int) + 8) = (p : Int) := ⟨(a % ((bl : Int) + 8)).toNat, by have := Int.emod_nonneg a (b := (bl : Int) + 8) (by omega); omega⟩
      have hpb : p < 8 + bl := by have := Int.emod_lt_of_pos a (b := (bl : Int) + 8) (by omega); omega
      rw [hp]
      clear hp
      go_wp2_with fail
      refine (kCrash_at HDb.out.kd (p : Int) _ rfl).mono ?_
      rintro _ wc ⟨rfl, hK, ho⟩
      have HKc := hid hK
      clear hK ho HDb
      go_wp2_with fail
      refine (lgOpen_at HKc.out ls _ j (on_torn ls (fun x hx => Nat.le_trans (HAL.out x hx) (by omega)) lb (by rw [HBL.out]; omega) 6000 p (by rw [HBL.out]; omega)) HLL.out).mono ?_
      rintro _ wd ⟨qd, ro, rc, rfl, hD, hR, _, _⟩
      have HDd := hid hD
      have HRd := hid hR.parts
      clear hD hR HKc
      obtain ⟨pt, cc, hcut, hpt⟩ := front_cut HF.out HLL.out (show j ≤ len by omega) hle hcm
      have HPT := hid hpt
      have hcut' : ∀ wx, (Instr.slice 22 (.slice ao len cap) none (some (.int .i64 (j : Int))) none).run Try.prog wx = .ok (.slice pt j cc) wx := hcut
      clear hpt hcut
      go_wp2_with fail
      refine (rows11_any _ _ ls _ (by rw [HLL.out]; omega) HRd.out (HPT.out _ (by rw [HL.out]; exact HDd.out.kd.bel))).mono ?_
      rintro _ we ⟨rfl, hb⟩
      have HDe := hid (HDd.out.later hb)
      clear hb HDd HRd
      go_wp2_with fail
      refine (lgAppend_at HDe.out (by omega) _ lm (HM.out _ HDe.out.kd.bel) (by rw [HML.out]; omega) 0 (j + 1) _ (on_app ls _ 6000 j lm (by rw [HML.out]; omega) (by rw [HML.out]; have := HSZ.out; omega))).mono ?_
      rintro _ wf ⟨rfl, hD⟩
      have HDf := hid hD
      clear hD HDe
      have HLM := hid (show (ls ++ [lm]).length = j + 1 by rw [List.length_append, HLL.out]; rfl)
      go_wp2_with fail
      refine (lgOpen_at HDf.out.kd (ls ++ [lm]) _ (j + 1) (on_open (ls ++ [lm]) (fun x hx => by
        rcases List.mem_append.1 hx with h | h
        · exact Nat.le_trans (HAL.out x h) (by omega)
        · rw [List.mem_singleton.1 h, HML.out]; omega) _ 6000) HLM.out).mono ?_
      rintro _ wg ⟨qg, ro2, rc2, rfl, hD, hR, _, _⟩
      have HDg := hid hD
      have HRg := hid hR.parts
      clear hD hR HDf
      obtain ⟨xs, hxl, hxs, hxe⟩ := (HPT.out _ (by rw [HL.out]; exact HDg.out.kd.bel)).cells
      rw [HLL.out] at hxl hxs
      have HXS := hid hxs
      have HXE := hid hxe
      have HXL := hid hxl
      clear hxl hxs hxe
      have HO := hid (show Has (wg.alloc (.cells #[] 37)) 37 wg.heap.size (.slice (some ⟨wg.heap.size, 0, none⟩) 0 0) 0 [] from .inr ⟨_, 0, rfl, Nat.le_refl _, Owns.empty _ _⟩)
      have HBO := hid ((Below.refl wg.heap.size wg).alloc (Nat.le_refl _) (.cells #[] 37))
      go_wp2_with (first
        | (at_builtin; show wpList _ _ _ (⟨some 112, _, _, _, _, _⟩ :: _) _ _; go_must (refine wpList_append_rowW (w := _) (by first | rfl | go_simp) _ _ 22 22 rfl 37 i1 (.slice none 0 0) Try.underlying22 hj1 hy0 hy1 rfl _ _ 0 _ rfl HO.out (by simp) _ j _ rfl (HXS.out _ HBO.out) (fun h => by first | exact .inl (by omega) | cases h) (by rw [hy2]; omega) (by omega) ?_); go_must (intro v2 w2 hH2 hb2; rw [Nat.zero_add, List.nil_append] at hH2; obtain ⟨a2, k2, rfl⟩ := hH2.form; have Hb2 := hid (HBO.out.trans hb2); have HH2 := hid (hH2.later ((Below.refl w2.heap.size w2).alloc (Nat.le_refl _) (.cells #[.slice mo ml mc] 37))); have HB2 := hid (Hb2.out.alloc (by simpa using Hb2.out.size) (.cells #[.slice mo ml mc] 37)); have HN2 := hid (Blk.new w2 37 [.slice mo ml mc]); clear hH2 hb2))
        | (at_builtin; show wpList _ _ _ (⟨some 115, _, _, _, _, _⟩ :: _) _ _; go_must (refine wpList_append_rowW (w := _) (by first | rfl | go_simp) _ _ 22 22 rfl 37 i1 (.slice none 0 0) Try.underlying22 hj1 hy0 hy1 rfl _ _ j _ rfl HH2.out (by simpa using HB2.out.size) _ 1 _ rfl (src_oneR HN2.out) (fun h => by first | exact .inl (by omega) | cases h) (by rw [hy2]; omega) (by omega) ?_); go_must (intro v3 w3 hH3 hb3; have HP3 := hid (PRow.snoc (w0 := wg) HXE.out (by rw [HXL.out, HLL.out]) lm mo ml mc HML.out (HM.out _ HDg.out.kd.bel) hmm (by rw [HLL.out]; exact hH3)); have Hb3 := hid (HB2.out.trans hb3); obtain ⟨a3, k3, rfl⟩ := hH3.form; clear hH3 hb3)))
      refine (rows11_any _ _ (ls ++ [lm]) _ (by rw [HLM.out]; omega) (HRg.out.later Hb3.out) (HP3.out.parts Hb3.out)).mono ?_
      rintro _ wh ⟨rfl, hb⟩
      have HDh := hid ((HDg.out.later Hb3.out).later hb)
      clear hb
      go_wp2_with fail
      go_ret
      exact ⟨rfl, HDh.out.kd.bel⟩
    by_cases h2 : ¬ (j : Int) < 8
    · have h1 : (j : Int) < (len : Int) := by omega
      go_wp2_with fail
      refine (lgSync_at HD.out 0 j _ (on_sync ls K 6000 j 0)).mono ?_
      rintro _ wa ⟨rfl, hD⟩
      have HDa := hid hD
      clear hD HD
      go_wp2_with fail
      refine (lgAppend_at HDa.out (by omega) _ lb (HB.out _ HDa.out.kd.bel) (by rw [HBL.out]; omega) 0 (j + 1) _ (on_app ls _ 6000 j lb (by rw [HBL.out]; omega) (by rw [HBL.out]; have := HSZ.out; omega))).mono ?_
      rintro _ wb ⟨rfl, hD⟩
      have HDb := hid hD
      clear hD HDa
      go_wp2_with fail
      refine (within11_any a ((bl : Int) + 8) (by omega) (by omega) _).mono ?_
      rintro _ wx ⟨rfl, hwx⟩
      rw [hwx]
      clear hwx wx
      obtain ⟨p, hp⟩ : ∃ p : Nat, a % ((bl : Int) + 8) = (p : Int) := ⟨(a % ((bl : Int) + 8)).toNat, by have := Int.emod_nonneg a (b := (bl : Int) + 8) (by omega); omega⟩
      have hpb : p < 8 + bl := by have := Int.emod_lt_of_pos a (b := (bl : Int) + 8) (by omega); omega
      rw [hp]
      clear hp
      go_wp2_with fail
      refine (kCrash_at HDb.out.kd (p : Int) _ rfl).mono ?_
      rintro _ wc ⟨rfl, hK, ho⟩
      have HKc := hid hK
      clear hK ho HDb
      go_wp2_with fail
      refine (lgOpen_at HKc.out ls _ j (on_torn ls (fun x hx => Nat.le_trans (HAL.out x hx) (by omega)) lb (by rw [HBL.out]; omega) 6000 p (by rw [HBL.out]; omega)) HLL.out).mono ?_
      rintro _ wd ⟨qd, ro, rc, rfl, hD, hR, _, _⟩
      have HDd := hid hD
      have HRd := hid hR.parts
      clear hD hR HKc
      obtain ⟨pt, cc, hcut, hpt⟩ := front_cut HF.out HLL.out (show j ≤ len by omega) hle hcm
      have HPT := hid hpt
      have hcut' : ∀ wx, (Instr.slice 22 (.slice ao len cap) none (some (.int .i64 (j : Int))) none).run Try.prog wx = .ok (.slice pt j cc) wx := hcut
      clear hpt hcut
      go_wp2_with fail
      refine (rows11_any _ _ ls _ (by rw [HLL.out]; omega) HRd.out (HPT.out _ (by rw [HL.out]; exact HDd.out.kd.bel))).mono ?_
      rintro _ we ⟨rfl, hb⟩
      have HDe := hid (HDd.out.later hb)
      clear hb HDd HRd
      go_wp2_with fail
      refine (lgAppend_at HDe.out (by omega) _ lm (HM.out _ HDe.out.kd.bel) (by rw [HML.out]; omega) 0 (j + 1) _ (on_app ls _ 6000 j lm (by rw [HML.out]; omega) (by rw [HML.out]; have := HSZ.out; omega))).mono ?_
      rintro _ wf ⟨rfl, hD⟩
      have HDf := hid hD
      clear hD HDe
      have HLM := hid (show (ls ++ [lm]).length = j + 1 by rw [List.length_append, HLL.out]; rfl)
      go_wp2_with fail
      refine (lgOpen_at HDf.out.kd (ls ++ [lm]) _ (j + 1) (on_open (ls ++ [lm]) (fun x hx => by
        rcases List.mem_append.1 hx with h | h
        · exact Nat.le_trans (HAL.out x h) (by omega)
        · rw [List.mem_singleton.1 h, HML.out]; omega) _ 6000) HLM.out).mono ?_
      rintro _ wg ⟨qg, ro2, rc2, rfl, hD, hR, _, _⟩
      have HDg := hid hD
      have HRg := hid hR.parts
      clear hD hR HDf
      obtain ⟨xs, hxl, hxs, hxe⟩ := (HPT.out _ (by rw [HL.out]; exact HDg.out.kd.bel)).cells
      rw [HLL.out] at hxl hxs
      have HXS := hid hxs
      have HXE := hid hxe
      have HXL := hid hxl
      clear hxl hxs hxe
      have HO := hid (show Has (wg.alloc (.cells #[] 37)) 37 wg.heap.size (.slice (some ⟨wg.heap.size, 0, none⟩) 0 0) 0 [] from .inr ⟨_, 0, rfl, Nat.le_refl _, Owns.empty _ _⟩)
      have HBO := hid ((Below.refl wg.heap.size wg).alloc (Nat.le_refl _) (.cells #[] 37))
      go_wp2_with (first
        | (at_builtin; show wpList _ _ _ (⟨some 112, _, _, _, _, _⟩ :: _) _ _; go_must (refine wpList_append_rowW (w := _) (by first | rfl | go_simp) _ _ 22 22 rfl 37 i1 (.slice none 0 0) Try.underlying22 hj1 hy0 hy1 rfl _ _ 0 _ rfl HO.out (by simp) _ j _ rfl (HXS.out _ HBO.out) (fun h => by first | exact .inl (by omega) | cases h) (by rw [hy2]; omega) (by omega) ?_); go_must (intro v2 w2 hH2 hb2; rw [Nat.zero_add, List.nil_append] at hH2; obtain ⟨a2, k2, rfl⟩ := hH2.form; have Hb2 := hid (HBO.out.trans hb2); have HH2 := hid (hH2.later ((Below.refl w2.heap.size w2).alloc (Nat.le_refl _) (.cells #[.slice mo ml mc] 37))); have HB2 := hid (Hb2.out.alloc (by simpa using Hb2.out.size) (.cells #[.slice mo ml mc] 37)); have HN2 := hid (Blk.new w2 37 [.slice mo ml mc]); clear hH2 hb2))
        | (at_builtin; show wpList _ _ _ (⟨some 115, _, _, _, _, _⟩ :: _) _ _; go_must (refine wpList_append_rowW (w := _) (by first | rfl | go_simp) _ _ 22 22 rfl 37 i1 (.slice none 0 0) Try.underlying22 hj1 hy0 hy1 rfl _ _ j _ rfl HH2.out (by simpa using HB2.out.size) _ 1 _ rfl (src_oneR HN2.out) (fun h => by first | exact .inl (by omega) | cases h) (by rw [hy2]; omega) (by omega) ?_); go_must (intro v3 w3 hH3 hb3; have HP3 := hid (PRow.snoc (w0 := wg) HXE.out (by rw [HXL.out, HLL.out]) lm mo ml mc HML.out (HM.out _ HDg.out.kd.bel) hmm (by rw [HLL.out]; exact hH3)); have Hb3 := hid (HB2.out.trans hb3); obtain ⟨a3, k3, rfl⟩ := hH3.form; clear hH3 hb3)))
      refine (rows11_any _ _ (ls ++ [lm]) _ (by rw [HLM.out]; omega) (HRg.out.later Hb3.out) (HP3.out.parts Hb3.out)).mono ?_
      rintro _ wh ⟨rfl, hb⟩
      have HDh := hid ((HDg.out.later Hb3.out).later hb)
      clear hb
      go_wp2_with fail
      go_ret
      exact ⟨rfl, HDh.out.kd.bel⟩
    have h1 : (j : Int) < (len : Int) := by omega
    have h2 : (j : Int) < 8 := by omega
    obtain ⟨kb, ko, so, sc, l, rfl, hc0, hrd0, hsc⟩ := HN.out.at_ j (by omega)
    obtain ⟨m, hm⟩ : ∃ m, l.length = m := ⟨_, rfl⟩
    have HLM := hid hm
    have hmc : m ≤ sc := by
      obtain ⟨x1, x2, e, h3, _⟩ := hrd0
      injection e with e1 e2 e3
      rw [B_length] at h3
      omega
    have HFR := hid (HF.out.snoc (by rw [HLL.out]; exact hc0) hrd0 hsc)
    rw [hm] at hc0 hrd0
    have HC := hid (show ∀ wx, Below L w wx → wx.cell? ⟨kb, ko + j, none⟩ = some (.slice so m sc) ∧ Reads wx (.slice so m sc) (B l) from fun wx h => ⟨cell_later (by rw [HL.out]; exact h) hc0, hrd0.later (by rw [HL.out]; exact h)⟩)
    clear hm hc0 hrd0 hsc
    have hc := (HC.out _ HD.out.kd.bel).1
    by_cases h60 : (60 : Int) < (m : Int)
    · go_wp2_with fail
      go_ret
      exact ⟨rfl, HD.out.kd.bel⟩
    have HAL2 := hid (all_snoc HAL.out (show l.length ≤ 60 by rw [HLM.out]; omega))
    have HLL2 := hid (show (ls ++ [l]).length = j + 1 by rw [List.length_append, HLL.out]; rfl)
    go_wp2_with fail
    refine (lgAppend_at HD.out (by omega) _ l (HC.out _ HD.out.kd.bel).2 (by rw [HLM.out]; omega) 0 (j + 1) _ (on_app ls K 6000 j l (by rw [HLM.out]; omega) (by rw [HLM.out]; have := HSZ.out; omega))).mono ?_
    rintro _ wa ⟨rfl, hD⟩
    have HDa := hid hD
    clear hD HD hc
    go_wp2_with fail
    go_roundw
    case rel => exact ⟨j + 1, K, ls ++ [l], by omega, by omega, by go_num, by go_num, HLL2.out, HFR.out, HAL2.out, HDa.out⟩
    case measure => simp [intOf]; omega
theorem ltorn_row (W : World) (ao : Option Addr) (len cap : Nat) (h0 : InBytes W ao len cap) (a : Option Addr) (len1 cap1 : Nat) (zs : List Int) (h : IsRow .u8 W a len1 cap1 zs) (p : Int) (wp_ : (Lit.int .i64 p).wf = true) (a2 : Option Addr) (len2 cap2 : Nat) (zs2 : List Int) (h2 : IsRow .u8 W a2 len2 cap2 zs2) (_u : World) :
    Calls Try.prog 8 #[.slice ao len cap, .slice a len1 cap1, .int .i64 p, .slice a2 len2 cap2] W fun e w' => e = .returned (.bool true) ∧ Below W.heap.size W w' := by
  obtain ⟨l, h3, h4, h5, h6⟩ := bytes_arg h
  obtain ⟨l2, k3, k4, k5, k6⟩ := bytes_arg h2
  exact ltorn_any ao len cap a len1 cap1 l p a2 len2 cap2 l2 W h0 h3 h6 k3 k6 h4 h5 k4 k5
end Go.Proofs.Ytifdoneffnfogaa

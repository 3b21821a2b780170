/- The law LogPlays: whatever is appended and synced, wherever the power goes, opened again and again, a log is, and answers, what the document says. -/
import Derived.Test.YtifdoneffnfogaaQ11b
import Derived.Test.YtifdoneffnfogaaWithin11
import Derived.Test.YtifdoneffnfogaaRows11
import Derived.Test.YtifdoneffnfogaaOpenK
import Derived.Test.YtifdoneffnfogaaArgB
import Derived.Test.YtifdoneffnfogaaPLogC
import Derived.BigQuiet
import Derived.Deep.RegionHeld3
import Derived.Deep.CutBlock
import Derived.Deep.DeepCutAuto
namespace Go.Proofs.Ytifdoneffnfogaa
open Go.RowKit
set_option linter.unusedSimpArgs false
set_option linter.unusedVariables false

theorem PL.first {L : Nat} {w w2 w3 w4 : World} {d r q x : Nat} {s t : Dk} (hK : KD L w w2 d r s) (hR : RK w3 x t) (hb : Below w2.heap.size w2 w3) (hx : w2.heap.size ≤ x) : KD L w w3 d r s ∧ ∃ ao cap, XV w3 x t ao cap (fun j => j < w2.heap.size) := by
  obtain ⟨ao, cap, hv, h1, h2⟩ := hR.opened
  exact ⟨hK.later hb, ao, cap, hv, hR.ok, h1, h2, fun j hj hP => by have := (hv.bk hj).1; omega⟩

set_option maxRecDepth 100000 in
set_option maxHeartbeats 16000000 in
theorem lplays_any (lo : Option Addr) (llen lcap : Nat) (ko : Option Addr) (len kcap : Nat) (no : Option Addr) (nlen ncap : Nat) (w : World) (hl : InBytes w lo llen lcap) (hkc : len ≤ kcap) (hkm : kcap ≤ maxLen) (hk : Nums w ko len) (hnc : nlen ≤ ncap) (hnm : ncap ≤ maxLen) (hn : Nums w no nlen) :
    Calls Try.prog 3 #[.slice lo llen lcap, .slice ko len kcap, .slice no nlen ncap] w fun e w' => e = .returned (.bool true) ∧ Below w.heap.size w w' := by
  obtain ⟨i0, hi, hz0, hz1, hz2⟩ := info_parts Try.infoByte
  obtain ⟨L, hL⟩ : ∃ L, w.heap.size = L := ⟨_, rfl⟩
  have HL := hid hL
  rw [hL]
  clear hL
  have HLS := hid hl
  have HKS := hid (show ∀ wx, Below L w wx → Nums wx ko len from fun wx h => hk.later (by rw [HL.out]; exact h))
  have HNS := hid (show ∀ wx, Below L w wx → Nums wx no nlen from fun wx h => hn.later (by rw [HL.out]; exact h))
  have hn1 : llen ≤ 9223372036854775807 := by have h1 := hl.le; have h2 := hl.cap; unfold maxLen at h2; omega
  have hn2 : len ≤ 9223372036854775807 := by unfold maxLen at hkm; omega
  have hn3 : nlen ≤ 9223372036854775807 := by unfold maxLen at hnm; omega
  clear hl hk hn hkm hnm
  go_enter Try.func3, Try.ntmps3
  go_wp2_with fail
  refine (known11_any _).mono ?_
  rintro _ w1 ⟨rfl, hb1⟩
  have Hb1 := hid (show Below L w w1 by rw [← HL.out]; exact hb1)
  have HL1 := hid (show L ≤ w1.heap.size by rw [← HL.out]; exact hb1.size)
  clear hb1
  go_wp2_with fail
  refine (kNew_at 400 Hb1.out HL1.out).mono ?_
  rintro _ w2 ⟨d, r, rfl, hK, _, _, _⟩
  rw [show Dk.new 400 = onD [] 0 400 from on_new 400 (by omega)] at hK
  have HK := hid hK
  have HDL := hid hK.lt
  clear hK Hb1 HL1
  go_wp2_with fail
  refine (xNew_any 400 _).mono ?_
  rintro _ w3 ⟨rfl, hR, hb⟩
  rw [show Dk.new 400 = onD [] 0 400 from on_new 400 (by omega)] at hR
  obtain ⟨hK, ao, cap, hx⟩ := PL.first (q := 0) (w4 := w3) HK.out hR hb (Nat.le_refl _)
  have HK3 := hid hK
  have HX3 := hid hx
  have hXL : L ≤ w2.heap.size := HK.out.le
  clear hK hx hR hb HK
  obtain ⟨x, hxx⟩ : ∃ x, w2.heap.size = x := ⟨_, rfl⟩
  rw [hxx] at HDL HX3 hXL
  rw [hxx]
  clear hxx
  go_wp2_with fail
  refine (lgOpen_at HK3.out [] _ 0 (on_open [] (by simp) 0 400) rfl).mono ?_
  rintro _ w4 ⟨q0, ro0, rc0, rfl, hD, _, ho, hq0⟩
  have HD4 := hid hD
  have HX4 := hid (show XV w4 x (onD [] 0 400) ao cap (fun j => j = d ∨ j = r ∨ j = q0) from ⟨HX3.out.rv.kept2 (ho.block x HX3.out.rv.lt (by have := HDL.out; omega) (by have := HDL.out; omega)) (fun j hb => ho.block j (HX3.out.rv.bk hb).2 (by have := (HX3.out.rv.bk hb).1; have := HDL.out; omega) (by have := (HX3.out.rv.bk hb).1; have := HDL.out; omega)), HX3.out.ok, HX3.out.c1, HX3.out.c2, fun j hb hP => by
    have h1 := HX3.out.rv.bk hb
    have h2 := HDL.out
    rcases hP with e | e | e <;> omega⟩)
  have HQX := hid (show x ≠ q0 by have := HX3.out.rv.lt; omega)
  clear hD ho hq0 HX3 HK3
  go_wp2_with fail
  refine (yOpen_any x _ ao cap HX4.out.c1 HX4.out.c2 _ HX4.out.rv HX4.out.ok).mono ?_
  rintro _ w5 ⟨v', hv, hs, hcase⟩
  rw [on_open [] (by simp) 0 400] at hv hcase
  rcases hcase with ⟨h, _⟩ | ⟨_, p0, rv, rfl, hp0, hy, hrw⟩
  · exact absurd rfl h
  obtain ⟨rva, rvc, rfl⟩ := hrw.form
  have HP5 := hid (show PL L w w5 d r q0 x p0 (onD [] 0 400) 0 0 (onD [] 0 400) 0 0 from PL.start HD4.out HX4.out hv hy hs hp0 hXL HDL.out HQX.out (openS_ok HX4.out.ok |> fun h => by rw [on_open [] (by simp) 0 400] at h; exact h))
  clear hv hs hy hrw hp0 HD4 HX4 HQX
  go_wp2_with fail
  go_loopw [9, 12, 15] (fun av bv iv wr => ∃ (q p j n k : Nat) (s : Dk), j ≤ 50 ∧ j ≤ len ∧ n ≤ 65536 + j ∧ av = .pointer (some ⟨q, 0, none⟩) ∧ bv = .pointer (some ⟨p, 0, none⟩) ∧ iv = .int .i64 j ∧ PL L w wr d r q x p s n k s n k) (fun _ _ i _ => 50 - (intOf i).toNat)
  case atStart => exact ⟨q0, p0, 0, 0, 0, _, by omega, Nat.zero_le _, by omega, rfl, rfl, rfl, HP5.out⟩
  case round =>
    clear HP5
    obtain ⟨q, p, j, n, k, s, hj, hjl, hnb, rfl, rfl, rfl, hP⟩ := hrel
    have HP := hid hP
    clear hP
    by_cases h1 : ¬ (j : Int) < (len : Int)
    · go_wp2_with fail
      go_ret
      exact ⟨rfl, HP.out.ld.kd.bel⟩
    by_cases h2 : ¬ (j : Int) < 50
    · have h1 : (j : Int) < (len : Int) := by omega
      go_wp2_with fail
      go_ret
      exact ⟨rfl, HP.out.ld.kd.bel⟩
    have h1 : (j : Int) < (len : Int) := by omega
    have h2 : (j : Int) < 50 := by omega
    go_upto_if 59 with fail
    go_cut [16] (fun s16 wx => ∃ z : Int, s16 = .int .i64 z ∧ wx = wr)
    case first =>
      by_cases hnl : (j : Int) < (nlen : Int)
      · obtain ⟨kb, ko, z, rfl, hc⟩ := HNS.out _ HP.out.ld.kd.bel j (by omega)
        go_wp2_with fail
        go_meet
        exact ⟨z, rfl, rfl⟩
      · go_wp2_with fail
        go_meet
        exact ⟨0, rfl, rfl⟩
    case rest =>
    obtain ⟨z, rfl, hwc⟩ := hcut
    rw [hwc]
    clear hwc
    obtain ⟨kb, kof, y, rfl, hc⟩ := HKS.out _ HP.out.ld.kd.bel j (by omega)
    go_wp2_with fail
    refine (within11_any y 8 (by omega) (by omega) _).mono ?_
    rintro _ wx ⟨rfl, hwx⟩
    rw [hwx]
    clear hwx wx hc
    obtain ⟨g, hg⟩ : ∃ g : Nat, y % 8 = (g : Int) := ⟨(y % 8).toNat, by omega⟩
    have hg8 : g < 8 := by omega
    rw [hg]
    clear hg
    go_upto_block 2 with fail
    go_cut [9, 12] (fun av bv w' => ∃ (q' p' n' k' : Nat) (s' : Dk), av = .pointer (some ⟨q', 0, none⟩) ∧ bv = .pointer (some ⟨p', 0, none⟩) ∧ n' ≤ 65536 + (j + 1) ∧ PL L w w' d r q' x p' s' n' k' s' n' k')
    case first =>
      rcases (show g = 0 ∨ g = 1 ∨ g = 2 ∨ g = 3 ∨ g = 4 ∨ g = 5 ∨ g = 6 ∨ g = 7 by omega) with e | e | e | e | e | e | e | e
      · subst e
        as_aux_lemma =>
          by_cases hll : (j : Int) < (llen : Int)
          · obtain ⟨kb, ko, so, sc, lr, rfl, hc0, hrd0, hsc⟩ := HLS.out.at_ j (by omega)
            obtain ⟨M, hM⟩ : ∃ M, lr.length = M := ⟨_, rfl⟩
            have HLM := hid hM
            rw [hM] at hc0 hrd0
            have HC := hid (show ∀ wx, Below L w wx → wx.cell? ⟨kb, ko + j, none⟩ = some (.slice so M sc) ∧ Reads wx (.slice so M sc) (B lr) from fun wx h => ⟨cell_later (by rw [HL.out]; exact h) hc0, hrd0.later (by rw [HL.out]; exact h)⟩)
            clear hM hc0 hrd0 hsc
            have hj256 : (j : Int) % 256 = (j : Int) := by omega
            have hc := (HC.out _ (HP.out.later ((Below.refl _ _).alloc (Nat.le_refl _) (.cells #[.int .u8 (j : Int)] 5))).ld.kd.bel).1
            by_cases h100 : (100 : Int) < (M : Int)
            · go_wp2_with fail
              go_ret
              exact ⟨rfl, (HP.out.later ((Below.refl _ _).alloc (Nat.le_refl _) (.cells #[.int .u8 (j : Int)] 5))).ld.kd.bel⟩
            have HPb := hid (HP.out.later ((Below.refl _ _).alloc (Nat.le_refl _) (.cells #[.int .u8 (j : Int)] 5)))
            go_upto_region 21 with fail
            generalize wr.alloc (.cells #[.int .u8 (j : Int)] 5) = wb at *
            clear hc
            go_wp2_with (at_builtin; go_must (refine wpList_append_any rfl _ _ 37 37 rfl 5 i0 (.int .u8 0) Try.underlying37 hi hz0 hz1 hz2 rfl wb.heap.size _ 0 [] rfl (.inr ⟨wb.heap.size, 0, rfl, Nat.le_refl _, Owns.empty _ _⟩) (by simp) _ M (B lr) rfl (Src.ofBytes _ Try.underlying37 HLM.out ((HC.out _ HPb.out.ld.kd.bel).2.later ((Below.refl _ _).alloc (Nat.le_refl _) _))) (by omega) ?_); go_must (intro v4 w4 hH4 hb4; rw [List.nil_append, Nat.zero_add] at hH4; obtain ⟨a4, k4, rfl⟩ := hH4.form; have HH4 := hid hH4.reads; have HB4 := hid (((Below.refl wb.heap.size wb).alloc (Nat.le_refl _) (.cells #[] 5)).trans hb4); clear hH4 hb4))
            refine (lgAppend_pl (HPb.out.later HB4.out) (by omega) _ lr HH4.out (by rw [HLM.out]; omega)).mono ?_
            rintro _ w5 ⟨rfl, hP, ho⟩
            have HP5 := hid hP
            have HO5 := hid ho
            clear hP ho HH4
            go_wp2_with fail
            refine (yAppend_pl HP5.out (by omega) _ lr ((HC.out _ HP5.out.ld.kd.bel).2) (by rw [HLM.out]; omega)).mono ?_
            rintro _ w6 ⟨rfl, hP⟩
            have HP6 := hid hP
            have hmany := appL_many s n lr
            clear hP HP5 HO5
            obtain ⟨c, hc⟩ : ∃ c, (appL s n lr).1 = c := ⟨_, rfl⟩
            rw [hc]
            clear hc
            go_wp2_with fail
            go_meet
            exact ⟨q, p, _, k, _, rfl, rfl, by omega, HP6.out⟩
          · have hj256 : (j : Int) % 256 = (j : Int) := by omega
            have HPb := hid (HP.out.later ((Below.refl _ _).alloc (Nat.le_refl _) (.cells #[.int .u8 (j : Int)] 5)))
            have HON := hid (Blk.new wr 5 [.int .u8 (j : Int)])
            have HNE := hid (show wr.heap.size ≠ d ∧ wr.heap.size ≠ r ∧ wr.heap.size ≠ q by have := HP.out.ld.kd.lt; have := HP.out.ld.lb.lt; exact ⟨by omega, by omega, by omega⟩)
            obtain ⟨lr, HLO, HRD⟩ : ∃ lr : List UInt8, Hid (lr.length = 1) ∧ Hid (∀ wx G, Blk wx 5 G [.int .u8 (j : Int)] → Reads wx (.slice (some ⟨G, 0, none⟩) 1 1) (B lr)) := ⟨[UInt8.ofNat (j : Int).toNat], rfl, fun wx G h => one_blk (by omega) (by omega) h⟩
            go_upto_region 21 with fail
            have hwb : ∃ wb, wr.alloc (.cells #[.int .u8 (j : Int)] 5) = wb := ⟨_, rfl⟩
            obtain ⟨wb, hwb⟩ := hwb
            rw [hwb] at HPb ⊢
            replace HON := hid (show Blk wb 5 wr.heap.size [.int .u8 (j : Int)] by rw [← hwb]; exact HON.out)
            clear hwb
            generalize wr.heap.size = G at *
            go_wp2_with (at_builtin; go_must (refine wpList_append_any rfl _ _ 37 37 rfl 5 i0 (.int .u8 0) Try.underlying37 hi hz0 hz1 hz2 rfl wb.heap.size _ 0 [] rfl (.inr ⟨wb.heap.size, 0, rfl, Nat.le_refl _, Owns.empty _ _⟩) (by simp) _ 1 (B lr) rfl (Src.ofBytes _ Try.underlying37 HLO.out ((HRD.out _ _ HON.out).later ((Below.refl _ _).alloc (Nat.le_refl _) _))) (by omega) ?_); go_must (intro v4 w4 hH4 hb4; rw [List.nil_append, Nat.zero_add] at hH4; obtain ⟨a4, k4, rfl⟩ := hH4.form; have HH4 := hid hH4.reads; have HB4 := hid (((Below.refl wb.heap.size wb).alloc (Nat.le_refl _) (.cells #[] 5)).trans hb4); clear hH4 hb4))
            refine (lgAppend_pl (HPb.out.later HB4.out) (by omega) _ lr HH4.out (by rw [HLO.out]; omega)).mono ?_
            rintro _ w5 ⟨rfl, hP, ho⟩
            have HP5 := hid hP
            have HO5 := hid ho
            clear hP ho HH4
            go_wp2_with fail
            refine (yAppend_pl HP5.out (by omega) _ lr ((HRD.out _ _ ((HON.out.later HB4.out).kept (HO5.out.block G (HON.out.later HB4.out).lt HNE.out.1 HNE.out.2.1 HNE.out.2.2)))) (by rw [HLO.out]; omega)).mono ?_
            rintro _ w6 ⟨rfl, hP⟩
            have HP6 := hid hP
            have hmany := appL_many s n lr
            clear hP HP5 HO5
            obtain ⟨c, hc⟩ : ∃ c, (appL s n lr).1 = c := ⟨_, rfl⟩
            rw [hc]
            clear hc
            go_wp2_with fail
            go_meet
            exact ⟨q, p, _, k, _, rfl, rfl, by omega, HP6.out⟩
      · subst e
        as_aux_lemma =>
          by_cases hll : (j : Int) < (llen : Int)
          · obtain ⟨kb, ko, so, sc, lr, rfl, hc0, hrd0, hsc⟩ := HLS.out.at_ j (by omega)
            obtain ⟨M, hM⟩ : ∃ M, lr.length = M := ⟨_, rfl⟩
            have HLM := hid hM
            rw [hM] at hc0 hrd0
            have HC := hid (show ∀ wx, Below L w wx → wx.cell? ⟨kb, ko + j, none⟩ = some (.slice so M sc) ∧ Reads wx (.slice so M sc) (B lr) from fun wx h => ⟨cell_later (by rw [HL.out]; exact h) hc0, hrd0.later (by rw [HL.out]; exact h)⟩)
            clear hM hc0 hrd0 hsc
            have hj256 : (j : Int) % 256 = (j : Int) := by omega
            have hc := (HC.out _ (HP.out.later ((Below.refl _ _).alloc (Nat.le_refl _) (.cells #[.int .u8 (j : Int)] 5))).ld.kd.bel).1
            by_cases h100 : (100 : Int) < (M : Int)
            · go_wp2_with fail
              go_ret
              exact ⟨rfl, (HP.out.later ((Below.refl _ _).alloc (Nat.le_refl _) (.cells #[.int .u8 (j : Int)] 5))).ld.kd.bel⟩
            have HPb := hid (HP.out.later ((Below.refl _ _).alloc (Nat.le_refl _) (.cells #[.int .u8 (j : Int)] 5)))
            go_upto_region 21 with fail
            generalize wr.alloc (.cells #[.int .u8 (j : Int)] 5) = wb at *
            clear hc
            go_wp2_with (at_builtin; go_must (refine wpList_append_any rfl _ _ 37 37 rfl 5 i0 (.int .u8 0) Try.underlying37 hi hz0 hz1 hz2 rfl wb.heap.size _ 0 [] rfl (.inr ⟨wb.heap.size, 0, rfl, Nat.le_refl _, Owns.empty _ _⟩) (by simp) _ M (B lr) rfl (Src.ofBytes _ Try.underlying37 HLM.out ((HC.out _ HPb.out.ld.kd.bel).2.later ((Below.refl _ _).alloc (Nat.le_refl _) _))) (by omega) ?_); go_must (intro v4 w4 hH4 hb4; rw [List.nil_append, Nat.zero_add] at hH4; obtain ⟨a4, k4, rfl⟩ := hH4.form; have HH4 := hid hH4.reads; have HB4 := hid (((Below.refl wb.heap.size wb).alloc (Nat.le_refl _) (.cells #[] 5)).trans hb4); clear hH4 hb4))
            refine (lgAppend_pl (HPb.out.later HB4.out) (by omega) _ lr HH4.out (by rw [HLM.out]; omega)).mono ?_
            rintro _ w5 ⟨rfl, hP, ho⟩
            have HP5 := hid hP
            have HO5 := hid ho
            clear hP ho HH4
            go_wp2_with fail
            refine (yAppend_pl HP5.out (by omega) _ lr ((HC.out _ HP5.out.ld.kd.bel).2) (by rw [HLM.out]; omega)).mono ?_
            rintro _ w6 ⟨rfl, hP⟩
            have HP6 := hid hP
            have hmany := appL_many s n lr
            clear hP HP5 HO5
            obtain ⟨c, hc⟩ : ∃ c, (appL s n lr).1 = c := ⟨_, rfl⟩
            rw [hc]
            clear hc
            go_wp2_with fail
            go_meet
            exact ⟨q, p, _, k, _, rfl, rfl, by omega, HP6.out⟩
          · have hj256 : (j : Int) % 256 = (j : Int) := by omega
            have HPb := hid (HP.out.later ((Below.refl _ _).alloc (Nat.le_refl _) (.cells #[.int .u8 (j : Int)] 5)))
            have HON := hid (Blk.new wr 5 [.int .u8 (j : Int)])
            have HNE := hid (show wr.heap.size ≠ d ∧ wr.heap.size ≠ r ∧ wr.heap.size ≠ q by have := HP.out.ld.kd.lt; have := HP.out.ld.lb.lt; exact ⟨by omega, by omega, by omega⟩)
            obtain ⟨lr, HLO, HRD⟩ : ∃ lr : List UInt8, Hid (lr.length = 1) ∧ Hid (∀ wx G, Blk wx 5 G [.int .u8 (j : Int)] → Reads wx (.slice (some ⟨G, 0, none⟩) 1 1) (B lr)) := ⟨[UInt8.ofNat (j : Int).toNat], rfl, fun wx G h => one_blk (by omega) (by omega) h⟩
            go_upto_region 21 with fail
            have hwb : ∃ wb, wr.alloc (.cells #[.int .u8 (j : Int)] 5) = wb := ⟨_, rfl⟩
            obtain ⟨wb, hwb⟩ := hwb
            rw [hwb] at HPb ⊢
            replace HON := hid (show Blk wb 5 wr.heap.size [.int .u8 (j : Int)] by rw [← hwb]; exact HON.out)
            clear hwb
            generalize wr.heap.size = G at *
            go_wp2_with (at_builtin; go_must (refine wpList_append_any rfl _ _ 37 37 rfl 5 i0 (.int .u8 0) Try.underlying37 hi hz0 hz1 hz2 rfl wb.heap.size _ 0 [] rfl (.inr ⟨wb.heap.size, 0, rfl, Nat.le_refl _, Owns.empty _ _⟩) (by simp) _ 1 (B lr) rfl (Src.ofBytes _ Try.underlying37 HLO.out ((HRD.out _ _ HON.out).later ((Below.refl _ _).alloc (Nat.le_refl _) _))) (by omega) ?_); go_must (intro v4 w4 hH4 hb4; rw [List.nil_append, Nat.zero_add] at hH4; obtain ⟨a4, k4, rfl⟩ := hH4.form; have HH4 := hid hH4.reads; have HB4 := hid (((Below.refl wb.heap.size wb).alloc (Nat.le_refl _) (.cells #[] 5)).trans hb4); clear hH4 hb4))
            refine (lgAppend_pl (HPb.out.later HB4.out) (by omega) _ lr HH4.out (by rw [HLO.out]; omega)).mono ?_
            rintro _ w5 ⟨rfl, hP, ho⟩
            have HP5 := hid hP
            have HO5 := hid ho
            clear hP ho HH4
            go_wp2_with fail
            refine (yAppend_pl HP5.out (by omega) _ lr ((HRD.out _ _ ((HON.out.later HB4.out).kept (HO5.out.block G (HON.out.later HB4.out).lt HNE.out.1 HNE.out.2.1 HNE.out.2.2)))) (by rw [HLO.out]; omega)).mono ?_
            rintro _ w6 ⟨rfl, hP⟩
            have HP6 := hid hP
            have hmany := appL_many s n lr
            clear hP HP5 HO5
            obtain ⟨c, hc⟩ : ∃ c, (appL s n lr).1 = c := ⟨_, rfl⟩
            rw [hc]
            clear hc
            go_wp2_with fail
            go_meet
            exact ⟨q, p, _, k, _, rfl, rfl, by omega, HP6.out⟩
      · subst e
        as_aux_lemma =>
          by_cases hll : (j : Int) < (llen : Int)
          · obtain ⟨kb, ko, so, sc, lr, rfl, hc0, hrd0, hsc⟩ := HLS.out.at_ j (by omega)
            obtain ⟨M, hM⟩ : ∃ M, lr.length = M := ⟨_, rfl⟩
            have HLM := hid hM
            rw [hM] at hc0 hrd0
            have HC := hid (show ∀ wx, Below L w wx → wx.cell? ⟨kb, ko + j, none⟩ = some (.slice so M sc) ∧ Reads wx (.slice so M sc) (B lr) from fun wx h => ⟨cell_later (by rw [HL.out]; exact h) hc0, hrd0.later (by rw [HL.out]; exact h)⟩)
            clear hM hc0 hrd0 hsc
            have hj256 : (j : Int) % 256 = (j : Int) := by omega
            have hc := (HC.out _ (HP.out.later ((Below.refl _ _).alloc (Nat.le_refl _) (.cells #[.int .u8 (j : Int)] 5))).ld.kd.bel).1
            by_cases h100 : (100 : Int) < (M : Int)
            · go_wp2_with fail
              go_ret
              exact ⟨rfl, (HP.out.later ((Below.refl _ _).alloc (Nat.le_refl _) (.cells #[.int .u8 (j : Int)] 5))).ld.kd.bel⟩
            have HPb := hid (HP.out.later ((Below.refl _ _).alloc (Nat.le_refl _) (.cells #[.int .u8 (j : Int)] 5)))
            go_upto_region 21 with fail
            generalize wr.alloc (.cells #[.int .u8 (j : Int)] 5) = wb at *
            clear hc
            go_wp2_with (at_builtin; go_must (refine wpList_append_any rfl _ _ 37 37 rfl 5 i0 (.int .u8 0) Try.underlying37 hi hz0 hz1 hz2 rfl wb.heap.size _ 0 [] rfl (.inr ⟨wb.heap.size, 0, rfl, Nat.le_refl _, Owns.empty _ _⟩) (by simp) _ M (B lr) rfl (Src.ofBytes _ Try.underlying37 HLM.out ((HC.out _ HPb.out.ld.kd.bel).2.later ((Below.refl _ _).alloc (Nat.le_refl _) _))) (by omega) ?_); go_must (intro v4 w4 hH4 hb4; rw [List.nil_append, Nat.zero_add] at hH4; obtain ⟨a4, k4, rfl⟩ := hH4.form; have HH4 := hid hH4.reads; have HB4 := hid (((Below.refl wb.heap.size wb).alloc (Nat.le_refl _) (.cells #[] 5)).trans hb4); clear hH4 hb4))
            refine (lgAppend_pl (HPb.out.later HB4.out) (by omega) _ lr HH4.out (by rw [HLM.out]; omega)).mono ?_
            rintro _ w5 ⟨rfl, hP, ho⟩
            have HP5 := hid hP
            have HO5 := hid ho
            clear hP ho HH4
            go_wp2_with fail
            refine (yAppend_pl HP5.out (by omega) _ lr ((HC.out _ HP5.out.ld.kd.bel).2) (by rw [HLM.out]; omega)).mono ?_
            rintro _ w6 ⟨rfl, hP⟩
            have HP6 := hid hP
            have hmany := appL_many s n lr
            clear hP HP5 HO5
            obtain ⟨c, hc⟩ : ∃ c, (appL s n lr).1 = c := ⟨_, rfl⟩
            rw [hc]
            clear hc
            go_wp2_with fail
            go_meet
            exact ⟨q, p, _, k, _, rfl, rfl, by omega, HP6.out⟩
          · have hj256 : (j : Int) % 256 = (j : Int) := by omega
            have HPb := hid (HP.out.later ((Below.refl _ _).alloc (Nat.le_refl _) (.cells #[.int .u8 (j : Int)] 5)))
            have HON := hid (Blk.new wr 5 [.int .u8 (j : Int)])
            have HNE := hid (show wr.heap.size ≠ d ∧ wr.heap.size ≠ r ∧ wr.heap.size ≠ q by have := HP.out.ld.kd.lt; have := HP.out.ld.lb.lt; exact ⟨by omega, by omega, by omega⟩)
            obtain ⟨lr, HLO, HRD⟩ : ∃ lr : List UInt8, Hid (lr.length = 1) ∧ Hid (∀ wx G, Blk wx 5 G [.int .u8 (j : Int)] → Reads wx (.slice (some ⟨G, 0, none⟩) 1 1) (B lr)) := ⟨[UInt8.ofNat (j : Int).toNat], rfl, fun wx G h => one_blk (by omega) (by omega) h⟩
            go_upto_region 21 with fail
            have hwb : ∃ wb, wr.alloc (.cells #[.int .u8 (j : Int)] 5) = wb := ⟨_, rfl⟩
            obtain ⟨wb, hwb⟩ := hwb
            rw [hwb] at HPb ⊢
            replace HON := hid (show Blk wb 5 wr.heap.size [.int .u8 (j : Int)] by rw [← hwb]; exact HON.out)
            clear hwb
            generalize wr.heap.size = G at *
            go_wp2_with (at_builtin; go_must (refine wpList_append_any rfl _ _ 37 37 rfl 5 i0 (.int .u8 0) Try.underlying37 hi hz0 hz1 hz2 rfl wb.heap.size _ 0 [] rfl (.inr ⟨wb.heap.size, 0, rfl, Nat.le_refl _, Owns.empty _ _⟩) (by simp) _ 1 (B lr) rfl (Src.ofBytes _ Try.underlying37 HLO.out ((HRD.out _ _ HON.out).later ((Below.refl _ _).alloc (Nat.le_refl _) _))) (by omega) ?_); go_must (intro v4 w4 hH4 hb4; rw [List.nil_append, Nat.zero_add] at hH4; obtain ⟨a4, k4, rfl⟩ := hH4.form; have HH4 := hid hH4.reads; have HB4 := hid (((Below.refl wb.heap.size wb).alloc (Nat.le_refl _) (.cells #[] 5)).trans hb4); clear hH4 hb4))
            refine (lgAppend_pl (HPb.out.later HB4.out) (by omega) _ lr HH4.out (by rw [HLO.out]; omega)).mono ?_
            rintro _ w5 ⟨rfl, hP, ho⟩
            have HP5 := hid hP
            have HO5 := hid ho
            clear hP ho HH4
            go_wp2_with fail
            refine (yAppend_pl HP5.out (by omega) _ lr ((HRD.out _ _ ((HON.out.later HB4.out).kept (HO5.out.block G (HON.out.later HB4.out).lt HNE.out.1 HNE.out.2.1 HNE.out.2.2)))) (by rw [HLO.out]; omega)).mono ?_
            rintro _ w6 ⟨rfl, hP⟩
            have HP6 := hid hP
            have hmany := appL_many s n lr
            clear hP HP5 HO5
            obtain ⟨c, hc⟩ : ∃ c, (appL s n lr).1 = c := ⟨_, rfl⟩
            rw [hc]
            clear hc
            go_wp2_with fail
            go_meet
            exact ⟨q, p, _, k, _, rfl, rfl, by omega, HP6.out⟩
      · subst e
        as_aux_lemma =>
          go_wp2_with fail
          refine (lgSync_pl HP.out).mono ?_
          rintro _ w5 ⟨rfl, hP⟩
          have HP5 := hid hP
          clear hP
          go_wp2_with fail
          refine (ySync_pl HP5.out).mono ?_
          rintro _ w6 ⟨rfl, hP⟩
          have HP6 := hid hP
          clear hP HP5
          obtain ⟨c, hc⟩ : ∃ c, (syncL s n k).1 = c := ⟨_, rfl⟩
          rw [hc]
          clear hc
          go_wp2_with fail
          go_meet
          exact ⟨q, p, n, _, _, rfl, rfl, by omega, HP6.out⟩
      · subst e
        as_aux_lemma =>
          go_wp2_with fail
          refine (within11_any z 5 (by omega) (by omega) _).mono ?_
          rintro _ wx ⟨rfl, hwx⟩
          rw [hwx]
          clear hwx wx
          go_wp2_with fail
          refine (kStop_pl HP.out (z % 5) (by omega)).mono ?_
          rintro _ w5 ⟨rfl, hP⟩
          have HP5 := hid hP
          clear hP
          go_wp2_with fail
          refine (within11_any z 5 (by omega) (by omega) _).mono ?_
          rintro _ wx ⟨rfl, hwx⟩
          rw [hwx]
          clear hwx wx
          go_wp2_with fail
          refine (xStop_pl HP5.out (z % 5) (by omega)).mono ?_
          rintro _ w6 ⟨rfl, hP⟩
          have HP6 := hid hP
          clear hP HP5
          go_wp2_with fail
          go_meet
          exact ⟨q, p, n, k, _, rfl, rfl, by omega, HP6.out⟩
      · subst e
        as_aux_lemma =>
          go_wp2_with fail
          refine (kCrash_pl HP.out z).mono ?_
          rintro _ w5 ⟨rfl, hP⟩
          have HP5 := hid hP
          clear hP
          go_wp2_with fail
          refine (xCrash_pl HP5.out z).mono ?_
          rintro _ w6 ⟨rfl, hP⟩
          have HP6 := hid hP
          have HXL := hid (show x < w6.heap.size by obtain ⟨ao, cap, hx⟩ := hP.xv; exact hx.rv.lt)
          have HOK := hid (show (s.crash z).Ok by obtain ⟨ao, cap, hx⟩ := hP.xv; exact hx.ok)
          clear hP HP5
          go_wp2_with fail
          refine (lgOpen_pl HP6.out).mono ?_
          rintro _ w7 ⟨hB, hsz, hcase⟩
          have HB7 := hid hB
          have HSZ := hid hsz
          clear hB hsz
          rcases hcase with ⟨h, _⟩ | ⟨_, q', rv, rfl, hP, hR⟩
          · exact absurd (open_crash s z) h
          have HP7 := hid hP
          have HR7 := hid hR
          clear hP
          obtain ⟨ra, rb, rfl⟩ := hR.form
          clear hR
          go_wp2_with fail
          refine (yOpen_pl HP7.out _ HB7.out HXL.out).mono ?_
          rintro _ w8 ⟨hk, hcase⟩
          have HR8 := hid (HR7.out.keptAt fun j h1 h2 => hk j h1 h2).parts
          clear hk HR7 HB7
          rcases hcase with ⟨h, _⟩ | ⟨_, p', rv2, rfl, hP, hR⟩
          · exact absurd (open_crash s z) h
          have HP8 := hid hP
          have HR9 := hid hR.parts
          clear hP HP7
          obtain ⟨rc, rd, rfl⟩ := hR.form
          clear hR
          have HMY := hid (show (openS (s.crash z)).2.1.length ≤ 65536 from Nat.le_trans (openS_many _) (ok_many HOK.out))
          go_wp2_with fail
          refine (rows11_any _ _ (openS (s.crash z)).2.1 _ (by have := HMY.out; omega) HR8.out HR9.out).mono ?_
          rintro _ w9 ⟨rfl, hb⟩
          have HP9 := hid (HP8.out.later hb)
          clear hb HP8 HR8 HR9 HSZ
          go_wp2_with fail
          go_meet
          exact ⟨q', p', _, _, _, rfl, rfl, by have := HMY.out; omega, HP9.out⟩
      · subst e
        as_aux_lemma =>
          have HXL := hid (show x < wr.heap.size by obtain ⟨ao, cap, hx⟩ := HP.out.xv; exact hx.rv.lt)
          have HOK := hid (show s.Ok by obtain ⟨ao, cap, hx⟩ := HP.out.xv; exact hx.ok)
          by_cases h0 : (openS s).1 = 0
          · have H0 := hid h0
            clear h0
            go_wp2_with fail
            refine (lgOpen_pl HP.out).mono ?_
            rintro _ w7 ⟨hB, hsz, hcase⟩
            have HB7 := hid hB
            have HSZ := hid hsz
            clear hB hsz
            rcases hcase with ⟨h, _⟩ | ⟨_, q', rv, rfl, hP, hR⟩
            · exact absurd H0.out h
            have HP7 := hid hP
            have HR7 := hid hR
            clear hP
            obtain ⟨ra, rb, rfl⟩ := hR.form
            clear hR
            go_wp2_with fail
            refine (yOpen_pl HP7.out _ HB7.out HXL.out).mono ?_
            rintro _ w8 ⟨hk, hcase⟩
            have HR8 := hid (HR7.out.keptAt fun j h1 h2 => hk j h1 h2).parts
            clear hk HR7 HB7
            rcases hcase with ⟨h, _⟩ | ⟨_, p', rv2, rfl, hP, hR⟩
            · exact absurd H0.out h
            have HP8 := hid hP
            have HR9 := hid hR.parts
            clear hP HP7
            obtain ⟨rc, rd, rfl⟩ := hR.form
            clear hR
            have HMY := hid (show (openS s).2.1.length ≤ 65536 from Nat.le_trans (openS_many _) (ok_many HOK.out))
            go_wp2_with fail
            refine (rows11_any _ _ (openS s).2.1 _ (by have := HMY.out; omega) HR8.out HR9.out).mono ?_
            rintro _ w9 ⟨rfl, hb⟩
            have HP9 := hid (HP8.out.later hb)
            clear hb HP8 HR8 HR9 HSZ
            go_wp2_with fail
            go_meet
            exact ⟨q', p', _, _, _, rfl, rfl, by have := HMY.out; omega, HP9.out⟩
          · go_wp2_with fail
            refine (lgOpen_pl HP.out).mono ?_
            rintro _ w7 ⟨hB, hsz, hcase⟩
            have HB7 := hid hB
            clear hB hsz
            rcases hcase with ⟨_, rfl, hP⟩ | ⟨h, _⟩
            rotate_left
            · exact absurd h h0
            have HP7 := hid hP
            clear hP
            go_wp2_with fail
            refine (yOpen_pl HP7.out _ HB7.out HXL.out).mono ?_
            rintro _ w8 ⟨_, hcase⟩
            rcases hcase with ⟨_, rfl, hP⟩ | ⟨h, _⟩
            rotate_left
            · exact absurd h h0
            have HP8 := hid hP
            clear hP HP7 HB7
            obtain ⟨c, hc⟩ : ∃ c, (openS s).1 = c := ⟨_, rfl⟩
            rw [hc] at h0 ⊢
            have hcb : (c == (0 : Int)) = false := beq_eq_false_iff_ne.2 h0
            clear hc
            go_wp2_with fail
            refine (rows11_any _ _ [] _ (by simp) (Parts.nil _) (Parts.nil _)).mono ?_
            rintro _ w9 ⟨rfl, hb⟩
            have HP9 := hid (HP8.out.later hb)
            clear hb HP8
            go_wp2_with fail
            go_meet
            exact ⟨q, p, n, k, _, rfl, rfl, by omega, HP9.out⟩
      · subst e
        as_aux_lemma =>
          have HXL := hid (show x < wr.heap.size by obtain ⟨ao, cap, hx⟩ := HP.out.xv; exact hx.rv.lt)
          have HOK := hid (show s.Ok by obtain ⟨ao, cap, hx⟩ := HP.out.xv; exact hx.ok)
          by_cases h0 : (openS s).1 = 0
          · have H0 := hid h0
            clear h0
            go_wp2_with fail
            refine (lgOpen_pl HP.out).mono ?_
            rintro _ w7 ⟨hB, hsz, hcase⟩
            have HB7 := hid hB
            have HSZ := hid hsz
            clear hB hsz
            rcases hcase with ⟨h, _⟩ | ⟨_, q', rv, rfl, hP, hR⟩
            · exact absurd H0.out h
            have HP7 := hid hP
            have HR7 := hid hR
            clear hP
            obtain ⟨ra, rb, rfl⟩ := hR.form
            clear hR
            go_wp2_with fail
            refine (yOpen_pl HP7.out _ HB7.out HXL.out).mono ?_
            rintro _ w8 ⟨hk, hcase⟩
            have HR8 := hid (HR7.out.keptAt fun j h1 h2 => hk j h1 h2).parts
            clear hk HR7 HB7
            rcases hcase with ⟨h, _⟩ | ⟨_, p', rv2, rfl, hP, hR⟩
            · exact absurd H0.out h
            have HP8 := hid hP
            have HR9 := hid hR.parts
            clear hP HP7
            obtain ⟨rc, rd, rfl⟩ := hR.form
            clear hR
            have HMY := hid (show (openS s).2.1.length ≤ 65536 from Nat.le_trans (openS_many _) (ok_many HOK.out))
            go_wp2_with fail
            refine (rows11_any _ _ (openS s).2.1 _ (by have := HMY.out; omega) HR8.out HR9.out).mono ?_
            rintro _ w9 ⟨rfl, hb⟩
            have HP9 := hid (HP8.out.later hb)
            clear hb HP8 HR8 HR9 HSZ
            go_wp2_with fail
            go_meet
            exact ⟨q', p', _, _, _, rfl, rfl, by have := HMY.out; omega, HP9.out⟩
          · go_wp2_with fail
            refine (lgOpen_pl HP.out).mono ?_
            rintro _ w7 ⟨hB, hsz, hcase⟩
            have HB7 := hid hB
            clear hB hsz
            rcases hcase with ⟨_, rfl, hP⟩ | ⟨h, _⟩
            rotate_left
            · exact absurd h h0
            have HP7 := hid hP
            clear hP
            go_wp2_with fail
            refine (yOpen_pl HP7.out _ HB7.out HXL.out).mono ?_
            rintro _ w8 ⟨_, hcase⟩
            rcases hcase with ⟨_, rfl, hP⟩ | ⟨h, _⟩
            rotate_left
            · exact absurd h h0
            have HP8 := hid hP
            clear hP HP7 HB7
            obtain ⟨c, hc⟩ : ∃ c, (openS s).1 = c := ⟨_, rfl⟩
            rw [hc] at h0 ⊢
            have hcb : (c == (0 : Int)) = false := beq_eq_false_iff_ne.2 h0
            clear hc
            go_wp2_with fail
            refine (rows11_any _ _ [] _ (by simp) (Parts.nil _) (Parts.nil _)).mono ?_
            rintro _ w9 ⟨rfl, hb⟩
            have HP9 := hid (HP8.out.later hb)
            clear hb HP8
            go_wp2_with fail
            go_meet
            exact ⟨q, p, n, k, _, rfl, rfl, by omega, HP9.out⟩
    case rest =>
    clear HP
    obtain ⟨q, p, n, k, s, rfl, rfl, hnb, hP⟩ := hcut
    generalize wc = wj at *
    have HPJ := hid hP
    have HY := hid (show ∀ wx, Below wj.heap.size wj wx → wx.cell? ⟨p, 1, none⟩ = some (.int .i64 n) from fun wx h => (Blk.later hP.yl h).cell rfl)
    have HZ := hid (show ∀ wx, Below wj.heap.size wj wx → wx.cell? ⟨p, 2, none⟩ = some (.int .i64 k) from fun wx h => (Blk.later hP.yl h).cell rfl)
    clear hP
    go_upto_region 45 with fail
    refine wp_region_held_drew (S := fun w' => Below wj.heap.size wj w') (by kernel_rfl) ((Below.refl _ _).drew) (fun hHeld => ?_)
    generalize wj.drew = wd at *
    refine wpAnyH_take (i := 0) (v := .pointer (some ⟨q, 0, none⟩)) rfl (by kernel_rfl) (by kernel_rfl) (by kernel_rfl) (fun _ _ _ h => h) (Or.inl ⟨by rfl, by intro w hSw; go_simp⟩) hHeld ?_
    try simp only [Act.put, List.setIfInBounds_toArray, List.set_cons_zero, List.set_cons_succ, List.getElem_toArray, List.getElem_cons_zero, List.getElem_cons_succ]
    refine wpAnyH_take (i := 2) (v := .pointer (some ⟨p, 0, none⟩)) rfl (by kernel_rfl) (by kernel_rfl) (by kernel_rfl) (fun _ _ _ h => h) (Or.inl ⟨by rfl, by intro w hSw; go_simp⟩) hHeld ?_
    try simp only [Act.put, List.setIfInBounds_toArray, List.set_cons_zero, List.set_cons_succ, List.getElem_toArray, List.getElem_cons_zero, List.getElem_cons_succ]
    refine wpAnyH_take (i := 3) (v := .pointer (some ⟨p, 0, none⟩)) rfl (by kernel_rfl) (by kernel_rfl) (by kernel_rfl) (fun _ _ _ h => h) (Or.inl ⟨by rfl, by intro w hSw; go_simp⟩) hHeld ?_
    try simp only [Act.put, List.setIfInBounds_toArray, List.set_cons_zero, List.set_cons_succ, List.getElem_toArray, List.getElem_cons_zero, List.getElem_cons_succ]
    refine wpAnyH_take (i := 4) (v := .pointer (some ⟨p, 1, none⟩)) rfl (by kernel_rfl) (by kernel_rfl) (by kernel_rfl) (fun _ _ _ h => h) (Or.inl ⟨by rfl, by intro w hSw; go_simp⟩) hHeld ?_
    try simp only [Act.put, List.setIfInBounds_toArray, List.set_cons_zero, List.set_cons_succ, List.getElem_toArray, List.getElem_cons_zero, List.getElem_cons_succ]
    refine wpAnyH_take (i := 5) (v := .int .i64 (n : Int)) rfl (by kernel_rfl) (by kernel_rfl) (by kernel_rfl) (fun _ _ _ h => h) (Or.inl ⟨by rfl, by intro w hSw; have q0 := HY.out _ hSw; go_simp⟩) hHeld ?_
    try simp only [Act.put, List.setIfInBounds_toArray, List.set_cons_zero, List.set_cons_succ, List.getElem_toArray, List.getElem_cons_zero, List.getElem_cons_succ]
    refine wpAnyH_ready (rs := [1]) (by kernel_rfl) (by simp) ?_
    refine AllReadyH.cons rfl (fun K hK => ?_) (AllReadyH.nil)
    go_simp
    refine (lgCount_any q d n k _ (HPJ.out.later hHeld).ld.lb).mono ?_
    rintro _ wx ⟨rfl, hwx⟩
    rw [hwx]
    clear hwx wx
    refine hK.out _ _ (hHeld) (fun hHeld => ?_)
    clear hK K
    try simp only [Act.put, List.setIfInBounds_toArray, List.set_cons_zero, List.set_cons_succ, List.getElem_toArray, List.getElem_cons_zero, List.getElem_cons_succ]
    refine wpAnyH_take (i := 6) (v := .bool false) rfl (by kernel_rfl) (by kernel_rfl) (by kernel_rfl) (fun _ _ _ h => h) (Or.inl ⟨by rfl, by intro w hSw; go_simp⟩) hHeld ?_
    try simp only [Act.put, List.setIfInBounds_toArray, List.set_cons_zero, List.set_cons_succ, List.getElem_toArray, List.getElem_cons_zero, List.getElem_cons_succ]
    refine wpAnyH_take (i := 7) (v := .bool false) rfl (by kernel_rfl) (by kernel_rfl) (by kernel_rfl) (fun _ _ _ h => h) (Or.inl ⟨by rfl, by intro w hSw; go_simp⟩) hHeld ?_
    try simp only [Act.put, List.setIfInBounds_toArray, List.set_cons_zero, List.set_cons_succ, List.getElem_toArray, List.getElem_cons_zero, List.getElem_cons_succ]
    refine wpAnyH_take (i := 8) (v := .pointer (some ⟨q, 0, none⟩)) rfl (by kernel_rfl) (by kernel_rfl) (by kernel_rfl) (fun _ _ _ h => h) (Or.inl ⟨by rfl, by intro w hSw; go_simp⟩) hHeld ?_
    try simp only [Act.put, List.setIfInBounds_toArray, List.set_cons_zero, List.set_cons_succ, List.getElem_toArray, List.getElem_cons_zero, List.getElem_cons_succ]
    refine wpAnyH_take (i := 10) (v := .pointer (some ⟨p, 0, none⟩)) rfl (by kernel_rfl) (by kernel_rfl) (by kernel_rfl) (fun _ _ _ h => h) (Or.inl ⟨by rfl, by intro w hSw; go_simp⟩) hHeld ?_
    try simp only [Act.put, List.setIfInBounds_toArray, List.set_cons_zero, List.set_cons_succ, List.getElem_toArray, List.getElem_cons_zero, List.getElem_cons_succ]
    refine wpAnyH_take (i := 11) (v := .pointer (some ⟨p, 0, none⟩)) rfl (by kernel_rfl) (by kernel_rfl) (by kernel_rfl) (fun _ _ _ h => h) (Or.inl ⟨by rfl, by intro w hSw; go_simp⟩) hHeld ?_
    try simp only [Act.put, List.setIfInBounds_toArray, List.set_cons_zero, List.set_cons_succ, List.getElem_toArray, List.getElem_cons_zero, List.getElem_cons_succ]
    refine wpAnyH_take (i := 12) (v := .pointer (some ⟨p, 2, none⟩)) rfl (by kernel_rfl) (by kernel_rfl) (by kernel_rfl) (fun _ _ _ h => h) (Or.inl ⟨by rfl, by intro w hSw; go_simp⟩) hHeld ?_
    try simp only [Act.put, List.setIfInBounds_toArray, List.set_cons_zero, List.set_cons_succ, List.getElem_toArray, List.getElem_cons_zero, List.getElem_cons_succ]
    refine wpAnyH_take (i := 13) (v := .int .i64 (k : Int)) rfl (by kernel_rfl) (by kernel_rfl) (by kernel_rfl) (fun _ _ _ h => h) (Or.inl ⟨by rfl, by intro w hSw; have q0 := HZ.out _ hSw; go_simp⟩) hHeld ?_
    try simp only [Act.put, List.setIfInBounds_toArray, List.set_cons_zero, List.set_cons_succ, List.getElem_toArray, List.getElem_cons_zero, List.getElem_cons_succ]
    refine wpAnyH_ready (rs := [9]) (by kernel_rfl) (by simp) ?_
    refine AllReadyH.cons rfl (fun K hK => ?_) (AllReadyH.nil)
    go_simp
    refine (lgSafe_any q d n k _ (HPJ.out.later hHeld).ld.lb).mono ?_
    rintro _ wx ⟨rfl, hwx⟩
    rw [hwx]
    clear hwx wx
    refine hK.out _ _ (hHeld) (fun hHeld => ?_)
    clear hK K
    try simp only [Act.put, List.setIfInBounds_toArray, List.set_cons_zero, List.set_cons_succ, List.getElem_toArray, List.getElem_cons_zero, List.getElem_cons_succ]
    refine wpAnyH_take (i := 14) (v := .bool false) rfl (by kernel_rfl) (by kernel_rfl) (by kernel_rfl) (fun _ _ _ h => h) (Or.inl ⟨by rfl, by intro w hSw; go_simp⟩) hHeld ?_
    try simp only [Act.put, List.setIfInBounds_toArray, List.set_cons_zero, List.set_cons_succ, List.getElem_toArray, List.getElem_cons_zero, List.getElem_cons_succ]
    refine wpAnyH_take (i := 15) (v := .bool false) rfl (by kernel_rfl) (by kernel_rfl) (by kernel_rfl) (fun _ _ _ h => h) (Or.inl ⟨by rfl, by intro w hSw; go_simp⟩) hHeld ?_
    try simp only [Act.put, List.setIfInBounds_toArray, List.set_cons_zero, List.set_cons_succ, List.getElem_toArray, List.getElem_cons_zero, List.getElem_cons_succ]
    refine wpAnyH_take (i := 16) (v := .bool false) rfl (by kernel_rfl) (by kernel_rfl) (by kernel_rfl) (fun _ _ _ h => h) (Or.inl ⟨by rfl, by intro w hSw; go_simp⟩) hHeld ?_
    try simp only [Act.put, List.setIfInBounds_toArray, List.set_cons_zero, List.set_cons_succ, List.getElem_toArray, List.getElem_cons_zero, List.getElem_cons_succ]
    refine wpAnyH_take (i := 17) (v := .pointer (some ⟨d, 0, none⟩)) rfl (by kernel_rfl) (by kernel_rfl) (by kernel_rfl) (fun _ _ _ h => h) (Or.inl ⟨by rfl, by intro w hSw; go_simp⟩) hHeld ?_
    try simp only [Act.put, List.setIfInBounds_toArray, List.set_cons_zero, List.set_cons_succ, List.getElem_toArray, List.getElem_cons_zero, List.getElem_cons_succ]
    refine wpAnyH_take (i := 18) (v := .pointer (some ⟨x, 0, none⟩)) rfl (by kernel_rfl) (by kernel_rfl) (by kernel_rfl) (fun _ _ _ h => h) (Or.inl ⟨by rfl, by intro w hSw; go_simp⟩) hHeld ?_
    try simp only [Act.put, List.setIfInBounds_toArray, List.set_cons_zero, List.set_cons_succ, List.getElem_toArray, List.getElem_cons_zero, List.getElem_cons_succ]
    refine wpAnyH_ready (rs := [19]) (by kernel_rfl) (by simp) ?_
    refine AllReadyH.cons rfl (fun K hK => ?_) (AllReadyH.nil)
    go_simp
    refine (same10_any (HPJ.out.later hHeld).pd).mono ?_
    rintro _ wz ⟨rfl, _, hbz⟩
    have HBz := hid (hHeld.trans (hbz.mono hHeld.size))
    clear hbz hHeld
    refine hK.out _ _ (HBz.out) (fun hHeld => ?_)
    clear hK K
    try simp only [Act.put, List.setIfInBounds_toArray, List.set_cons_zero, List.set_cons_succ, List.getElem_toArray, List.getElem_cons_zero, List.getElem_cons_succ]
    clear HBz
    refine wpAnyH_take (i := 20) (v := .bool false) rfl (by kernel_rfl) (by kernel_rfl) (by kernel_rfl) (fun _ _ _ h => h) (Or.inl ⟨by rfl, by intro w hSw; go_simp⟩) hHeld ?_
    try simp only [Act.put, List.setIfInBounds_toArray, List.set_cons_zero, List.set_cons_succ, List.getElem_toArray, List.getElem_cons_zero, List.getElem_cons_succ]
    refine wpAnyH_take (i := 21) (v := .bool false) rfl (by kernel_rfl) (by kernel_rfl) (by kernel_rfl) (fun _ _ _ h => h) (Or.inl ⟨by rfl, by intro w hSw; go_simp⟩) hHeld ?_
    try simp only [Act.put, List.setIfInBounds_toArray, List.set_cons_zero, List.set_cons_succ, List.getElem_toArray, List.getElem_cons_zero, List.getElem_cons_succ]
    refine wpAnyH_done (by kernel_rfl) ?_ _
    have HPE := hid (HPJ.out.later hHeld)
    clear hHeld HPJ HY HZ
    go_wp2_with fail
    go_roundw
    case rel => exact ⟨q, p, j + 1, n, k, s, by omega, by omega, hnb, rfl, rfl, by go_num, HPE.out⟩
    case measure => simp [intOf]; omega
theorem lplays_row (W : World) (lo : Option Addr) (llen lcap : Nat) (h0 : InBytes W lo llen lcap) (a : Option Addr) (len cap : Nat) (zs : List Int) (h : IsRow .i64 W a len cap zs) (b : Option Addr) (len2 cap2 : Nat) (zs2 : List Int) (h2 : IsRow .i64 W b len2 cap2 zs2) (_u : World) :
    Calls Try.prog 3 #[.slice lo llen lcap, .slice a len cap, .slice b len2 cap2] W fun e w' => e = .returned (.bool true) ∧ Below W.heap.size W w' := by
  obtain ⟨h3, h4, h5⟩ := nums_arg h
  obtain ⟨k3, k4, k5⟩ := nums_arg h2
  exact lplays_any lo llen lcap a len cap b len2 cap2 W h0 h4 h5 h3 k4 k5 k3
end Go.Proofs.Ytifdoneffnfogaa

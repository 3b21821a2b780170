/- The contracts of the second say's log: Open, Append, Sync (chapter 11). -/
import Derived.Test.YtifdoneffnfogaaLgS
import Derived.Test.YtifdoneffnfogaaRowsW
import Derived.Test.YtifdoneffnfogaaXOps
import Derived.Test.YtifdoneffnfogaaQ11d
import Derived.Deep.RegionHeld3
import Derived.Deep.DeepCutAuto
import Derived.OwnWalk
namespace Go.Proofs.Ytifdoneffnfogaa
open Go.RowKit
set_option linter.unusedSimpArgs false
set_option linter.unusedVariables false

theorem Has.capMax {w : World} {e : TypeId} {Bd n m c : Nat} {ao : Option Addr} {xs : List Value} (h : Has w e Bd (.slice ao m c) n xs) : c ≤ maxLen := by
  rcases h with ⟨e, _⟩ | ⟨g, c', e, _, h2⟩
  · injection e with _ _ e3
    rw [e3]; exact Nat.zero_le _
  · injection e with _ _ e3
    rw [e3]; exact h2.2.2.1
/-- b[p:hi]. -/
theorem cut_mid (bo : Option Addr) (M bc p k : Nat) (lo hi : Int) (m : List UInt8) (hM : m.length = M) (hlo : lo = (p : Int)) (hhi : hi = (p : Int) + (k : Int)) (hpk : p + k ≤ M) (hMc : M ≤ bc) (hc : bc ≤ maxLen) :
    ∃ po pc, pc ≤ maxLen ∧ k ≤ pc ∧ (∀ wx, (Instr.slice 37 (.slice bo M bc) (some (.int .i64 lo)) (some (.int .i64 hi)) none).run Try.prog wx = .ok (.slice po k pc) wx) ∧ ∀ w', Reads w' (.slice bo M bc) (B m) → Reads w' (.slice po k pc) (B ((m.drop p).take k)) := by
  subst hlo hhi
  have e1 : ((p : Int) + (k : Int)).toNat = p + k := by omega
  have h0 : (0 : Int) ≤ (p : Int) + (k : Int) := by omega
  have h1 : (p : Int) + (k : Int) ≤ (bc : Int) := by omega
  have h2 : p ≤ p + k := by omega
  have h3 : p + k - p = k := by omega
  by_cases h4 : bc = p
  · subst h4
    have hk0 : k = 0 := by omega
    subst hk0
    refine ⟨bo, 0, Nat.zero_le _, Nat.le_refl _, fun wx => ?_, fun w' _ => ?_⟩
    · go_simp
    · rw [List.take_zero]
      exact ⟨bo, 0, rfl, Nat.le_refl _, fun _ => rfl, fun _ _ _ _ hj => by simp [B] at hj⟩
  · refine ⟨bo.map fun x => x.add p, bc - p, by omega, by omega, fun wx => ?_, fun w' hr => hr.seg p k (by omega)⟩
    go_simp
theorem intR_hd (l : List UInt8) (h : 8 ≤ l.length) : intR (jn 8 0 0 (l.take 8, 0)) = hd l := by
  have hl : (l.take 8).length = 8 := by rw [List.length_take]; omega
  rw [jn_ok 8 0 0 (l.take 8) (by omega)]
  unfold hd
  simp [intR, List.take_take]

/-- The second say's log in the block q, on the disk in x. -/
def YL (w : World) (q x n k : Nat) : Prop := Blk w 45 q [.pointer (some ⟨x, 0, none⟩), .int .i64 n, .int .i64 k]
/-- What Open answers. -/
def YOpenR (s : Dk) (x : Nat) (v : Value) (w : World) (e : Ending) (w' : World) : Prop :=
  ∃ v', RKv w' x (openS s).2.2 v' ∧ XStep w w' x v v' ∧
    (((openS s).1 ≠ 0 ∧ e = .returned (.tuple #[.pointer none, .slice none 0 0, .int .i64 (openS s).1])) ∨
     ((openS s).1 = 0 ∧ ∃ q rv, e = .returned (.tuple #[.pointer (some ⟨q, 0, none⟩), rv, .int .i64 0]) ∧ w.heap.size ≤ q ∧ YL w' q x (openS s).2.1.length (openS s).2.1.length ∧ RowsW w' w.heap.size rv (openS s).2.1))

theorem openS_at {s : Dk} {done : List (List UInt8)} {j : Nat} (hg : s.gone = false) (hr : recs s.b = (done, j)) : openS s = if (s.cut (j : Int)).1 ≠ 0 then ((s.cut (j : Int)).1, [], (s.cut (j : Int)).2) else (0, done, (s.cut (j : Int)).2) := by
  rw [openS, hg, if_neg (by simp), hr]

set_option maxRecDepth 100000 in
set_option maxHeartbeats 8000000 in
theorem yOpen_any (x : Nat) (s : Dk) (ao : Option Addr) (cap : Nat) (hc1 : s.b.length ≤ cap) (hc2 : cap ≤ maxLen) (w : World) (hv : RKv w x s (.slice ao s.b.length cap)) (hok : s.Ok) :
    Calls Try.prog 13 #[.pointer (some ⟨x, 0, none⟩)] w (YOpenR s x (.slice ao s.b.length cap) w) := by
  obtain ⟨i0, hi, hz0, hz1, hz2⟩ := info_parts Try.infoByte
  obtain ⟨i1, hj1, hy0, hy1, hy2⟩ := info_parts Try.infoBytesT
  have HV := hid hv
  have HOK := hid hok
  have hsz : s.b.length ≤ 65536 := Nat.le_trans hok.len hok.size
  clear hv hok
  go_enter Try.func13, Try.ntmps13
  go_wp2_with fail
  refine (xRead_any x s _ (HV.out.shut HOK.out)).mono ?_
  rintro _ w1 ⟨v1, rfl, hH1, hb1⟩
  have HX1 := hid (XStep.of_below hb1 x (.slice ao s.b.length cap))
  have HV1 := hid (HV.out.later hb1)
  have HZ1 := hid hb1.size
  have HLX := hid (show x < w1.heap.size from Nat.lt_of_lt_of_le HV.out.lt hb1.size)
  have HBK := hid (show ∀ k, Bk (.slice ao s.b.length cap) k → k < w1.heap.size from fun k hk => Nat.lt_of_lt_of_le (HV.out.bk hk).2 hb1.size)
  clear hb1 HV
  cases hg : s.gone with
  | true =>
    have HO := hid (show openS s = (18, [], s) by rw [openS, if_pos hg])
    rw [show s.read = ([], 18) by rw [Dk.read, if_pos hg]] at hH1 ⊢
    clear hg hH1
    go_wp2_with fail
    go_ret3
    exact ⟨_, by rw [HO.out]; exact HV1.out, HX1.out, .inl ⟨by rw [HO.out]; simp, by rw [HO.out]; rfl⟩⟩
  | false =>
  have HG := hid hg
  rw [show s.read = (s.b, 0) by rw [Dk.read, hg, if_neg (by simp)]] at hH1 ⊢
  simp only at hH1 ⊢
  clear hg
  obtain ⟨b, hb⟩ : ∃ b, s.b = b := ⟨_, rfl⟩
  have HSB := hid hb
  rw [hb] at hH1 hsz
  obtain ⟨n, hn⟩ : ∃ n, b.length = n := ⟨_, rfl⟩
  have HBN := hid hn
  rw [hn] at hH1 hsz
  have HRD := hid hH1.reads
  obtain ⟨bo, bc, rfl⟩ := hH1.form
  have hbc : n ≤ bc ∧ bc ≤ maxLen := by
    rcases hH1 with ⟨e, h2, _⟩ | ⟨g, c, e, _, h3⟩
    · injection e with _ _ e3
      rw [h2, e3]
      exact ⟨Nat.le_refl _, Nat.zero_le _⟩
    · injection e with _ _ e3
      rw [e3]
      exact ⟨h3.2.1, h3.2.2.1⟩
  clear hb hn hH1
  go_wp2_with fail
  go_loopw [7, 8] (fun lv atv wr => ∃ (lo : Option Addr) (lc j : Nat) (done : List (List UInt8)), lv = .slice lo done.length lc ∧ atv = .int .i64 (j : Int) ∧ j ≤ n ∧ 8 * done.length ≤ j ∧ RowsW wr w1.heap.size (.slice lo done.length lc) done ∧ recs b = (done ++ (recs (b.drop j)).1, j + (recs (b.drop j)).2) ∧ Below w1.heap.size w1 wr) (fun _ atv _ => n - (intOf atv).toNat)
  case atStart => exact ⟨none, 0, 0, [], rfl, rfl, Nat.zero_le _, Nat.le_refl _, RowsW.nil _ _, by simp, Below.refl _ _⟩
  case round =>
    obtain ⟨lo, lc, j, done, rfl, rfl, hj, hdj, hR, hrec, hbel⟩ := hrel
    have HR := hid hR
    have HRC := hid hrec
    have HBL := hid hbel
    have HLS := hid (show w1.heap.size ≤ wr.heap.size from hbel.size)
    have HRDr := hid (HRD.out.later hbel)
    have HDL := hid (show (b.drop j).length = n - j by rw [List.length_drop, HBN.out])
    have HVr := hid (HV1.out.later hbel)
    have HXr := hid (HX1.out.trans (XStep.of_below hbel x (.slice ao s.b.length cap)))
    clear hR hrec hbel
    by_cases he : Ends (b.drop j)
    · have HFIN := hid (recs_fin HRC.out he)
      by_cases h8 : ¬ (8 : Int) ≤ (n : Int) - (j : Int)
      · have HZE := hid (Nat.le_refl wr.heap.size)
        go_wp2_with fail
        refine (xCut_v x s (j : Int) ao cap hc1 hc2 _ HVr.out HOK.out).mono ?_
        rintro _ wf ⟨vf, rfl, hD, hS⟩
        have HD := hid hD
        have HXF := hid (HXr.out.trans hS)
        have HRF := hid (HR.out.keptAt fun k h1 h2 => hS.block k h2 (by have := HLX.out; omega) (fun h3 => by have := (HVr.out.bk h3); have := HBK.out k h3; omega))
        have HZF := hid (show w1.heap.size ≤ wf.heap.size from Nat.le_trans (Nat.le_trans HLS.out HZE.out) hS.size)
        obtain ⟨c, hc⟩ : ∃ c, (s.cut (j : Int)).1 = c := ⟨_, rfl⟩
        have HO := hid (openS_at HG.out (show recs s.b = (done, j) by rw [HSB.out]; exact HFIN.out))
        rw [hc] at HO ⊢
        clear hD hS hc
        by_cases hc0 : c = 0
        · subst hc0
          rw [if_neg (by simp)] at HO
          obtain ⟨q, hq⟩ : ∃ q, wf.heap.size = q := ⟨_, rfl⟩
          go_wp2_with (show wpList _ _ _ (⟨some 74, Op.box _ _, _, _, _, _⟩ :: _) _ _; go_must (refine wpList_box_blk rfl 45 _ rfl [.pointer (some ⟨x, 0, none⟩), .int .i64 done.length, .int .i64 done.length] rfl q hq ?_); go_must (intro wg hBg hbg hsg; have HBG := hid hBg; have Hbg := hid hbg; clear hBg hbg))
          go_ret3
          have hbg : Below wf.heap.size wf wg := by rw [hq]; exact Hbg.out
          have hzw : w.heap.size ≤ w1.heap.size := HZ1.out
          exact ⟨vf, by rw [HO.out]; exact HD.out.later hbg, HXF.out.trans (XStep.of_below hbg _ _), .inr ⟨by rw [HO.out], q, _, rfl, by rw [← hq]; exact Nat.le_trans hzw HZF.out, by rw [HO.out]; exact HBG.out, by rw [HO.out]; exact (HRF.out.later hbg).mono hzw⟩⟩
        · rw [if_pos hc0] at HO
          have hcb : (c == 0) = false := by simpa using hc0
          go_wp2_with fail
          go_ret3
          exact ⟨vf, by rw [HO.out]; exact HD.out, HXF.out, .inl ⟨by rw [HO.out]; exact hc0, by rw [HO.out]; rfl⟩⟩
      have h8 : (8 : Int) ≤ (n : Int) - (j : Int) := by omega
      obtain ⟨z, hz⟩ : ∃ z, hd (b.drop j) = z := ⟨_, rfl⟩
      have HHD := hid hz
      have HT := hid (ends_tests HDL.out hj hz he)
      clear he hz
      have hcut := (cut_mid bo n bc j 8 (j : Int) ((j : Int) + 8) b HBN.out rfl (by omega) (by omega) hbc.1 hbc.2)
      obtain ⟨po, pc, hpc, hkp, hcut, hrd⟩ := hcut
      have hlen8 : ((b.drop j).take 8).length = 8 := by rw [List.length_take, HDL.out]; omega
      have HRD8 := hid (hrd _ HRDr.out)
      have HL8 := hid hlen8
      clear hrd hlen8
      go_wp2_with fail
      refine (frNew_any (.slice po 8 pc) ((b.drop j).take 8) _ HRD8.out (by rw [HL8.out]; omega)).mono ?_
      rintro _ w2 ⟨p, rfl, hp, hF, hb2⟩
      have HF := hid hF
      have HP := hid hp
      have Hb2 := hid hb2
      clear hp hF hb2
      go_wp2_with fail
      refine (frInt_any p ((b.drop j).take 8, 0) _ HF.out).mono ?_
      rintro _ w3 ⟨rfl, _, hg3⟩
      rw [intR_hd _ (by rw [HDL.out]; omega), HHD.out]
      have Hb3 := hid (Hb2.out.grown hg3 Hb2.out.size (fun k hk => by cases hk; exact HP.out))
      clear hg3 HF HP Hb2 hcut
      have HV3 := hid (HVr.out.later Hb3.out)
      have HX3 := hid (HXr.out.trans (XStep.of_below Hb3.out x (.slice ao s.b.length cap)))
      have HR3 := hid (HR.out.later Hb3.out)
      have HZE := hid (show wr.heap.size ≤ w3.heap.size from Hb3.out.size)
      by_cases t1 : z < 0
      · go_wp2_with fail
        refine (xCut_v x s (j : Int) ao cap hc1 hc2 _ HV3.out HOK.out).mono ?_
        rintro _ wf ⟨vf, rfl, hD, hS⟩
        have HD := hid hD
        have HXF := hid (HX3.out.trans hS)
        have HRF := hid (HR3.out.keptAt fun k h1 h2 => hS.block k h2 (by have := HLX.out; omega) (fun h3 => by have := (HV3.out.bk h3); have := HBK.out k h3; omega))
        have HZF := hid (show w1.heap.size ≤ wf.heap.size from Nat.le_trans (Nat.le_trans HLS.out HZE.out) hS.size)
        obtain ⟨c, hc⟩ : ∃ c, (s.cut (j : Int)).1 = c := ⟨_, rfl⟩
        have HO := hid (openS_at HG.out (show recs s.b = (done, j) by rw [HSB.out]; exact HFIN.out))
        rw [hc] at HO ⊢
        clear hD hS hc
        by_cases hc0 : c = 0
        · subst hc0
          rw [if_neg (by simp)] at HO
          obtain ⟨q, hq⟩ : ∃ q, wf.heap.size = q := ⟨_, rfl⟩
          go_wp2_with (show wpList _ _ _ (⟨some 74, Op.box _ _, _, _, _, _⟩ :: _) _ _; go_must (refine wpList_box_blk rfl 45 _ rfl [.pointer (some ⟨x, 0, none⟩), .int .i64 done.length, .int .i64 done.length] rfl q hq ?_); go_must (intro wg hBg hbg hsg; have HBG := hid hBg; have Hbg := hid hbg; clear hBg hbg))
          go_ret3
          have hbg : Below wf.heap.size wf wg := by rw [hq]; exact Hbg.out
          have hzw : w.heap.size ≤ w1.heap.size := HZ1.out
          exact ⟨vf, by rw [HO.out]; exact HD.out.later hbg, HXF.out.trans (XStep.of_below hbg _ _), .inr ⟨by rw [HO.out], q, _, rfl, by rw [← hq]; exact Nat.le_trans hzw HZF.out, by rw [HO.out]; exact HBG.out, by rw [HO.out]; exact (HRF.out.later hbg).mono hzw⟩⟩
        · rw [if_pos hc0] at HO
          have hcb : (c == 0) = false := by simpa using hc0
          go_wp2_with fail
          go_ret3
          exact ⟨vf, by rw [HO.out]; exact HD.out, HXF.out, .inl ⟨by rw [HO.out]; exact hc0, by rw [HO.out]; rfl⟩⟩
      by_cases t2 : 16384 < z
      · go_wp2_with fail
        refine (xCut_v x s (j : Int) ao cap hc1 hc2 _ HV3.out HOK.out).mono ?_
        rintro _ wf ⟨vf, rfl, hD, hS⟩
        have HD := hid hD
        have HXF := hid (HX3.out.trans hS)
        have HRF := hid (HR3.out.keptAt fun k h1 h2 => hS.block k h2 (by have := HLX.out; omega) (fun h3 => by have := (HV3.out.bk h3); have := HBK.out k h3; omega))
        have HZF := hid (show w1.heap.size ≤ wf.heap.size from Nat.le_trans (Nat.le_trans HLS.out HZE.out) hS.size)
        obtain ⟨c, hc⟩ : ∃ c, (s.cut (j : Int)).1 = c := ⟨_, rfl⟩
        have HO := hid (openS_at HG.out (show recs s.b = (done, j) by rw [HSB.out]; exact HFIN.out))
        rw [hc] at HO ⊢
        clear hD hS hc
        by_cases hc0 : c = 0
        · subst hc0
          rw [if_neg (by simp)] at HO
          obtain ⟨q, hq⟩ : ∃ q, wf.heap.size = q := ⟨_, rfl⟩
          go_wp2_with (show wpList _ _ _ (⟨some 74, Op.box _ _, _, _, _, _⟩ :: _) _ _; go_must (refine wpList_box_blk rfl 45 _ rfl [.pointer (some ⟨x, 0, none⟩), .int .i64 done.length, .int .i64 done.length] rfl q hq ?_); go_must (intro wg hBg hbg hsg; have HBG := hid hBg; have Hbg := hid hbg; clear hBg hbg))
          go_ret3
          have hbg : Below wf.heap.size wf wg := by rw [hq]; exact Hbg.out
          have hzw : w.heap.size ≤ w1.heap.size := HZ1.out
          exact ⟨vf, by rw [HO.out]; exact HD.out.later hbg, HXF.out.trans (XStep.of_below hbg _ _), .inr ⟨by rw [HO.out], q, _, rfl, by rw [← hq]; exact Nat.le_trans hzw HZF.out, by rw [HO.out]; exact HBG.out, by rw [HO.out]; exact (HRF.out.later hbg).mono hzw⟩⟩
        · rw [if_pos hc0] at HO
          have hcb : (c == 0) = false := by simpa using hc0
          go_wp2_with fail
          go_ret3
          exact ⟨vf, by rw [HO.out]; exact HD.out, HXF.out, .inl ⟨by rw [HO.out]; exact hc0, by rw [HO.out]; rfl⟩⟩
      have t3 : (n : Int) - (j : Int) - 8 < z := by have := HT.out; omega
      go_wp2_with fail
      refine (xCut_v x s (j : Int) ao cap hc1 hc2 _ HV3.out HOK.out).mono ?_
      rintro _ wf ⟨vf, rfl, hD, hS⟩
      have HD := hid hD
      have HXF := hid (HX3.out.trans hS)
      have HRF := hid (HR3.out.keptAt fun k h1 h2 => hS.block k h2 (by have := HLX.out; omega) (fun h3 => by have := (HV3.out.bk h3); have := HBK.out k h3; omega))
      have HZF := hid (show w1.heap.size ≤ wf.heap.size from Nat.le_trans (Nat.le_trans HLS.out HZE.out) hS.size)
      obtain ⟨c, hc⟩ : ∃ c, (s.cut (j : Int)).1 = c := ⟨_, rfl⟩
      have HO := hid (openS_at HG.out (show recs s.b = (done, j) by rw [HSB.out]; exact HFIN.out))
      rw [hc] at HO ⊢
      clear hD hS hc
      by_cases hc0 : c = 0
      · subst hc0
        rw [if_neg (by simp)] at HO
        obtain ⟨q, hq⟩ : ∃ q, wf.heap.size = q := ⟨_, rfl⟩
        go_wp2_with (show wpList _ _ _ (⟨some 74, Op.box _ _, _, _, _, _⟩ :: _) _ _; go_must (refine wpList_box_blk rfl 45 _ rfl [.pointer (some ⟨x, 0, none⟩), .int .i64 done.length, .int .i64 done.length] rfl q hq ?_); go_must (intro wg hBg hbg hsg; have HBG := hid hBg; have Hbg := hid hbg; clear hBg hbg))
        go_ret3
        have hbg : Below wf.heap.size wf wg := by rw [hq]; exact Hbg.out
        have hzw : w.heap.size ≤ w1.heap.size := HZ1.out
        exact ⟨vf, by rw [HO.out]; exact HD.out.later hbg, HXF.out.trans (XStep.of_below hbg _ _), .inr ⟨by rw [HO.out], q, _, rfl, by rw [← hq]; exact Nat.le_trans hzw HZF.out, by rw [HO.out]; exact HBG.out, by rw [HO.out]; exact (HRF.out.later hbg).mono hzw⟩⟩
      · rw [if_pos hc0] at HO
        have hcb : (c == 0) = false := by simpa using hc0
        go_wp2_with fail
        go_ret3
        exact ⟨vf, by rw [HO.out]; exact HD.out, HXF.out, .inl ⟨by rw [HO.out]; exact hc0, by rw [HO.out]; rfl⟩⟩
    · obtain ⟨m, hm, hm2, hjm, hst⟩ := recs_go HRC.out he HBN.out hj
      have HST := hid hst
      have HHD := hid hm
      clear hm hst he
      have h8 : (8 : Int) ≤ (n : Int) - (j : Int) := by omega
      have hcut := (cut_mid bo n bc j 8 (j : Int) ((j : Int) + 8) b HBN.out rfl (by omega) (by omega) hbc.1 hbc.2)
      obtain ⟨po, pc, hpc, hkp, hcut, hrd⟩ := hcut
      have hlen8 : ((b.drop j).take 8).length = 8 := by rw [List.length_take, HDL.out]; omega
      have HRD8 := hid (hrd _ HRDr.out)
      have HL8 := hid hlen8
      clear hrd hlen8
      go_wp2_with fail
      refine (frNew_any (.slice po 8 pc) ((b.drop j).take 8) _ HRD8.out (by rw [HL8.out]; omega)).mono ?_
      rintro _ w2 ⟨p, rfl, hp, hF, hb2⟩
      have HF := hid hF
      have HP := hid hp
      have Hb2 := hid hb2
      clear hp hF hb2
      go_wp2_with fail
      refine (frInt_any p ((b.drop j).take 8, 0) _ HF.out).mono ?_
      rintro _ w3 ⟨rfl, _, hg3⟩
      rw [intR_hd _ (by rw [HDL.out]; omega), HHD.out]
      have Hb3 := hid (Hb2.out.grown hg3 Hb2.out.size (fun k hk => by cases hk; exact HP.out))
      clear hg3 HF HP Hb2 hcut
      have HV3 := hid (HVr.out.later Hb3.out)
      have HX3 := hid (HXr.out.trans (XStep.of_below Hb3.out x (.slice ao s.b.length cap)))
      have HR3 := hid (HR.out.later Hb3.out)
      have HZE := hid (show wr.heap.size ≤ w3.heap.size from Hb3.out.size)
      have t1 : ¬ (m : Int) < 0 := by omega
      have t2 : ¬ 16384 < (m : Int) := by omega
      have t3 : ¬ (n : Int) - (j : Int) - 8 < (m : Int) := by omega
      obtain ⟨so, sc, hsc, hks, hcut2, hrd2⟩ := cut_mid bo n bc (j + 8) m ((j : Int) + 8) ((j : Int) + 8 + (m : Int)) b HBN.out (by omega) (by omega) (by omega) hbc.1 hbc.2
      obtain ⟨rec, hrec⟩ : ∃ rec, (b.drop (j + 8)).take m = rec := ⟨_, rfl⟩
      have HRL := hid (show rec.length = m by rw [← hrec, List.length_take, List.length_drop, HBN.out]; omega)
      rw [hrec] at hrd2 HST
      have HRDa := hid (hrd2 _ ((HRDr.out.later Hb3.out).later ((Below.refl w3.heap.size w3).alloc (Nat.le_refl _) (.cells #[] 5))))
      clear hrd2 hrec
      go_wp2_with (first
        | (at_builtin; show wpList _ _ _ (⟨some 55, _, _, _, _, _⟩ :: _) _ _; go_must (refine wpList_append_any rfl _ _ 37 37 rfl 5 i0 (.int .u8 0) Try.underlying37 hi hz0 hz1 hz2 rfl w3.heap.size _ 0 [] rfl (.inr ⟨w3.heap.size, 0, rfl, Nat.le_refl _, Owns.empty _ _⟩) (by simp) _ m (B rec) rfl (Src.ofBytes _ Try.underlying37 HRL.out HRDa.out) (by omega) ?_); go_must (intro v4 w4 hH4 hb4; rw [List.nil_append, Nat.zero_add] at hH4; obtain ⟨a4, k4, rfl⟩ := hH4.form; have Hb4 := hid (((Below.refl w3.heap.size w3).alloc (Nat.le_refl _) (.cells #[] 5)).trans hb4); have HK4 := hid hH4.capMax; have HH4 := hid (hH4.later ((Below.refl w4.heap.size w4).alloc (Nat.le_refl _) (.cells #[.slice a4 m k4] 37))); have HR4 := hid ((HR3.out.later Hb4.out).later ((Below.refl w4.heap.size w4).alloc (Nat.le_refl _) (.cells #[.slice a4 m k4] 37))); have HN4 := hid (Blk.new w4 37 [.slice a4 m k4]); clear hH4 hb4))
        | (at_builtin; show wpList _ _ _ (⟨some 57, _, _, _, _, _⟩ :: _) _ _; go_must (obtain ⟨xs, hx1, hx2⟩ := HR4.out); go_must (refine wpList_append_one rfl _ _ 22 22 rfl 37 i1 (.slice none 0 0) Try.underlying22 hj1 hy0 hy1 rfl w1.heap.size lo done.length lc xs rfl hx1 (Nat.le_trans (Nat.le_trans HLS.out HZE.out) (Nat.le_trans Hb4.out.size (by simp))) _ (.slice a4 m k4) rfl (Src.ofSlice _ Try.underlying22 ⟨w4.heap.size, 0, none⟩ 1 1 [.slice a4 m k4] (by simp) (fun j' u' hj' => by rw [Addr.add_lit, Nat.zero_add]; exact HN4.out.cell hj') (by simp [Value.oneCell'])) (by rw [hy2]; omega) (by omega) ?_); go_must (intro v6 w6 hH6 hb6 hz6 hk6 _; have HS6 := hid (RowsW.snoc hx2 hx1.len hx1 hk6 HRL.out HK4.out (HH4.out.mono (Nat.le_trans HLS.out HZE.out)) hH6); obtain ⟨a6, k6, rfl⟩ := hH6.form; have Hb6 := hid (show Below w1.heap.size w1 w6 from (HBL.out.trans ((Hb3.out.trans (Hb4.out.mono HZE.out)).mono HLS.out)).trans ((((Below.refl w4.heap.size w4).alloc (Nat.le_refl _) (.cells #[.slice a4 m k4] 37)).mono (Nat.le_trans (Nat.le_trans HLS.out HZE.out) Hb4.out.size)).trans hb6)); clear hH6 hb6 hz6 hk6 hx1 hx2)))
      go_roundw
      case rel => exact ⟨a6, k6, j + 8 + m, done ++ [rec], by simp, by go_num, by omega, by rw [List.length_append]; simp; omega, by rw [List.length_append]; exact HS6.out, HST.out, Hb6.out⟩
      case measure => simp [intOf]; omega
end Go.Proofs.Ytifdoneffnfogaa

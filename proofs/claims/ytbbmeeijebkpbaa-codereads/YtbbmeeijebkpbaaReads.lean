/- The law CodeReads: any bytes, read by any row of questions, are answered as the document says. -/
import Derived.Test.YtbbmeeijebkpbaaRefInt
import Derived.Test.YtbbmeeijebkpbaaArg
import Derived.WalkSmall
namespace Go.Proofs.Ytbbmeeijebkpbaa
open Go.RowKit

theorem textR_len (r : Nat × St) : (textR r).2.1.length ≤ r.2.1.length := by
  unfold textR
  split
  · simp
  · unfold failS
    split <;> simp

theorem failS_len (s : St) (e : Int) : (failS s e).1.length ≤ s.1.length := by
  unfold failS
  split <;> simp

set_option maxRecDepth 100000 in
set_option maxHeartbeats 4000000 in
theorem reads_any (v : Value) (l : List UInt8) (la : Nat) (va : Value) (w : World) (hl : l.length ≤ maxLen) (hr : Reads w v (B l)) (aoa : Option Addr) (capa : Nat) (hva : va = .slice aoa la capa)
    (hcs : Hid (∀ j, j < la → ∃ b off x, aoa = some ⟨b, off, none⟩ ∧ w.cell? ⟨b, off + j, none⟩ = some (.int .i64 x) ∧ -9223372036854775808 ≤ x ∧ x ≤ 9223372036854775807)) :
    Calls Try.prog 4 #[v, va] w fun x w' => x = .returned (.bool true) ∧ Below w.heap.size w w' := by
  subst hva
  obtain ⟨i0, hi, hz0, hz1, hz2⟩ := info_parts Try.infoByte
  unfold maxLen at hl
  have HR : Hid (Reads w v (B l)) := hr
  obtain ⟨ao, c, rfl, hc, hn, hcell⟩ := hr
  rw [B_length] at hc HR ⊢
  clear hn hcell
  by_cases hl500 : l.length ≤ 500
  case neg =>
    have hl' : (500 : Int) < l.length := by omega
    go_enter Try.func4, Try.ntmps4
    go_wp2_with fail
    refine (known_any _).mono ?_
    rintro e w1 ⟨rfl, hb1⟩
    go_wp2_with fail
    go_ret
    exact ⟨rfl, hb1⟩
  have hl' : (l.length : Int) ≤ 500 := by omega
  go_enter Try.func4, Try.ntmps4
  go_wp2_with fail
  refine (known_any _).mono ?_
  rintro e w1 ⟨rfl, hb1⟩
  go_wp2_with (at_builtin; go_must (refine wpList_append_src _ rfl _ _ 22 22 rfl 5 i0 (.int .u8 0) Try.underlying22 hi hz0 hz1 hz2 rfl w1.heap.size 0 0 [] rfl (Owns.empty _ _) (.slice ao l.length c) l.length (B l) rfl (Src.ofBytes _ Try.underlying22 rfl (HR.out.later (hb1.alloc hb1.size _))) (by omega) ?_); intro g2 cap2 w2 hG2)
  have hO2 : Owns w2 5 g2 cap2 l.length (B l) := by have := hG2.own; rwa [Nat.zero_add, List.nil_append] at this
  have hb2 : Below w.heap.size w w2 := hG2.below (hb1.alloc hb1.size _) hb1.size
  clear hG2 hb1
  refine (New_any _ l _ hO2.reads (by omega)).mono ?_
  rintro e w3 ⟨p, rfl, hp, hR3, h3⟩
  have hb3 := below_seq hb2 h3
  have HP := hid (Nat.le_trans hb2.size hp)
  clear hO2 hb2 h3 hp
  go_wp2_with fail
  refine (frNew_any _ l _ (HR.out.later hb3) (by omega)).mono ?_
  rintro e w4 ⟨q, rfl, hq, hF4, h4⟩
  have HB4 := hid (below_seq hb3 h4)
  have HQ := hid (Nat.le_trans hb3.size hq)
  have HNE := hid (show p ≠ q by have := hR3.lt; omega)
  have HR4 := hid (hR3.later h4)
  have HF4 := hid hF4
  clear hb3 hq hR3 hF4 h4
  go_wp2_with fail
  go_loopw [7] (fun i wr => ∃ (j : Nat) (s : St), j ≤ la ∧ j ≤ 30 ∧ i = .int .i64 j ∧ RD wr p s ∧ FR wr q s ∧ s.1.length ≤ 500 ∧ Below w.heap.size w wr) (fun i _ => 30 - (intOf i).toNat)
  case atStart => exact ⟨0, (l, 0), Nat.zero_le _, Nat.zero_le _, rfl, HR4.out, HF4.out, hl500, HB4.out⟩
  case round =>
    clear HR4 HF4 HB4
    obtain ⟨j, s, hj1, hj2, rfl, hR, hF, hs, hB⟩ := hrel
    have HR1 := hid hR
    have HF1 := hid hF
    have HS := hid hs
    have HB := hid hB
    clear hR hF hs hB
    by_cases hlt : j < la ∧ j < 30
    · obtain ⟨h1, h2⟩ := hlt
      have h1' : (j : Int) < la := by omega
      have h2' : (j : Int) < 30 := by omega
      obtain ⟨b, off, x, rfl, hcx, hx1, hx2⟩ := hcs.out j h1
      have hc := cell_later HB.out hcx
      have HCX : Hid (∀ w6 : World, Below w.heap.size w w6 → w6.cell? ⟨b, off + j, none⟩ = some (.int .i64 x)) := fun w6 h => cell_later h hcx
      have HRX := hid (And.intro hx1 hx2)
      clear hcx hx1 hx2
      go_wp2_with fail
      refine (within_any x 7 (by omega) (by omega) _).mono ?_
      rintro _ w5 ⟨rfl, rfl⟩
      have hm : x % 7 = 0 ∨ x % 7 = 1 ∨ x % 7 = 2 ∨ x % 7 = 3 ∨ x % 7 = 4 ∨ x % 7 = 5 ∨ x % 7 = 6 := by omega
      rcases hm with hm | hm | hm | hm | hm | hm | hm
      · rw [hm]
        have HM := hid (show s.1.length ≤ maxLen by have := HS.out; unfold maxLen; omega)
        go_wp2_with fail
        refine (Int_any p s _ HR1.out HM.out).mono ?_
        rintro _ w6 ⟨rfl, hR6, hg6⟩
        have HF6 := hid (HF1.out.other HR1.out hg6 (Ne.symm HNE.out))
        have HB6 := hid (below_at HB.out hg6 HP.out)
        have HR6 := hid hR6
        clear hR6 hg6
        go_wp2_with fail
        refine (frInt_any q s _ HF6.out).mono ?_
        rintro _ w7 ⟨rfl, hF7, hg7⟩
        have HR7 := hid (HR6.out.otherF HF6.out hg7 HNE.out)
        have HB7 := hid (below_at HB6.out hg7 HQ.out)
        have HF7 := hid hF7
        have H7 := hid (Nat.le_trans (jn_len 8 0 0 s) HS.out)
        clear hF7 hg7
        obtain ⟨s7, hs7⟩ : ∃ s7, (jn 8 0 0 s).2 = s7 := ⟨_, rfl⟩
        rw [hs7] at HR7 HF7 H7
        clear hs7
        have HM7 := hid (show s7.1.length ≤ maxLen by have := H7.out; unfold maxLen; omega)
        go_wp2_with fail
        refine (End_any p s7 _ HR7.out HM7.out).mono ?_
        rintro _ w8 ⟨rfl, rfl⟩
        go_wp2_with fail
        refine (frEnd_any q s7 _ HF7.out).mono ?_
        rintro _ w9 ⟨rfl, nq, rfl⟩
        go_wp2_with fail
        go_roundw
        case rel => exact ⟨j + 1, s7, by omega, by omega, by go_num, HR7.out, HF7.out, H7.out, below_drewN HB7.out nq⟩
        case measure => simp [intOf]; omega
      · rw [hm]
        have HM := hid (show s.1.length ≤ maxLen by have := HS.out; unfold maxLen; omega)
        go_wp2_with fail
        refine (Int_any p s _ HR1.out HM.out).mono ?_
        rintro _ w6 ⟨rfl, hR6, hg6⟩
        have HF6 := hid (HF1.out.other HR1.out hg6 (Ne.symm HNE.out))
        have HB6 := hid (below_at HB.out hg6 HP.out)
        have HR6 := hid hR6
        clear hR6 hg6
        go_wp2_with fail
        refine (frInt_any q s _ HF6.out).mono ?_
        rintro _ w7 ⟨rfl, hF7, hg7⟩
        have HR7 := hid (HR6.out.otherF HF6.out hg7 HNE.out)
        have HB7 := hid (below_at HB6.out hg7 HQ.out)
        have HF7 := hid hF7
        have H7 := hid (Nat.le_trans (jn_len 8 0 0 s) HS.out)
        clear hF7 hg7
        obtain ⟨s7, hs7⟩ : ∃ s7, (jn 8 0 0 s).2 = s7 := ⟨_, rfl⟩
        rw [hs7] at HR7 HF7 H7
        clear hs7
        have HM7 := hid (show s7.1.length ≤ maxLen by have := H7.out; unfold maxLen; omega)
        go_wp2_with fail
        refine (End_any p s7 _ HR7.out HM7.out).mono ?_
        rintro _ w8 ⟨rfl, rfl⟩
        go_wp2_with fail
        refine (frEnd_any q s7 _ HF7.out).mono ?_
        rintro _ w9 ⟨rfl, nq, rfl⟩
        go_wp2_with fail
        go_roundw
        case rel => exact ⟨j + 1, s7, by omega, by omega, by go_num, HR7.out, HF7.out, H7.out, below_drewN HB7.out nq⟩
        case measure => simp [intOf]; omega
      · rw [hm]
        have HM := hid (show s.1.length ≤ maxLen by have := HS.out; unfold maxLen; omega)
        go_wp2_with fail
        refine (Byte_any p s _ HR1.out HM.out).mono ?_
        rintro _ w6 ⟨rfl, hR6, hg6⟩
        have HF6 := hid (HF1.out.other HR1.out hg6 (Ne.symm HNE.out))
        have HB6 := hid (below_at HB.out hg6 HP.out)
        have HR6 := hid hR6
        clear hR6 hg6
        go_wp2_with fail
        refine (frByte_any q s _ HF6.out).mono ?_
        rintro _ w7 ⟨rfl, hF7, hg7⟩
        have HR7 := hid (HR6.out.otherF HF6.out hg7 HNE.out)
        have HB7 := hid (below_at HB6.out hg7 HQ.out)
        have HF7 := hid hF7
        have H7 := hid (Nat.le_trans (nextS_len s) HS.out)
        clear hF7 hg7
        obtain ⟨s7, hs7⟩ : ∃ s7, nextS s = s7 := ⟨_, rfl⟩
        rw [hs7] at HR7 HF7 H7
        clear hs7
        have HM7 := hid (show s7.1.length ≤ maxLen by have := H7.out; unfold maxLen; omega)
        go_wp2_with fail
        refine (End_any p s7 _ HR7.out HM7.out).mono ?_
        rintro _ w8 ⟨rfl, rfl⟩
        go_wp2_with fail
        refine (frEnd_any q s7 _ HF7.out).mono ?_
        rintro _ w9 ⟨rfl, nq, rfl⟩
        go_wp2_with fail
        go_roundw
        case rel => exact ⟨j + 1, s7, by omega, by omega, by go_num, HR7.out, HF7.out, H7.out, below_drewN HB7.out nq⟩
        case measure => simp [intOf]; omega
      · rw [hm]
        have HM := hid (show s.1.length ≤ maxLen by have := HS.out; unfold maxLen; omega)
        go_wp2_with fail
        refine (Byte_any p s _ HR1.out HM.out).mono ?_
        rintro _ w6 ⟨rfl, hR6, hg6⟩
        have HF6 := hid (HF1.out.other HR1.out hg6 (Ne.symm HNE.out))
        have HB6 := hid (below_at HB.out hg6 HP.out)
        have HR6 := hid hR6
        clear hR6 hg6
        go_wp2_with fail
        refine (frByte_any q s _ HF6.out).mono ?_
        rintro _ w7 ⟨rfl, hF7, hg7⟩
        have HR7 := hid (HR6.out.otherF HF6.out hg7 HNE.out)
        have HB7 := hid (below_at HB6.out hg7 HQ.out)
        have HF7 := hid hF7
        have H7 := hid (Nat.le_trans (nextS_len s) HS.out)
        clear hF7 hg7
        obtain ⟨s7, hs7⟩ : ∃ s7, nextS s = s7 := ⟨_, rfl⟩
        rw [hs7] at HR7 HF7 H7
        clear hs7
        have HM7 := hid (show s7.1.length ≤ maxLen by have := H7.out; unfold maxLen; omega)
        go_wp2_with fail
        refine (End_any p s7 _ HR7.out HM7.out).mono ?_
        rintro _ w8 ⟨rfl, rfl⟩
        go_wp2_with fail
        refine (frEnd_any q s7 _ HF7.out).mono ?_
        rintro _ w9 ⟨rfl, nq, rfl⟩
        go_wp2_with fail
        go_roundw
        case rel => exact ⟨j + 1, s7, by omega, by omega, by go_num, HR7.out, HF7.out, H7.out, below_drewN HB7.out nq⟩
        case measure => simp [intOf]; omega
      · rw [hm]
        have HM := hid (show s.1.length ≤ maxLen by have := HS.out; unfold maxLen; omega)
        go_wp2_with fail
        refine (Text_any p s _ HR1.out HM.out).mono ?_
        rintro _ w6 ⟨rfl, hR6, hg6⟩
        have HF6 := hid (HF1.out.other HR1.out hg6 (Ne.symm HNE.out))
        have HB6 := hid (below_at HB.out hg6 HP.out)
        have HR6 := hid hR6
        clear hR6 hg6
        go_wp2_with fail
        refine (frText_any q s _ HF6.out).mono ?_
        rintro _ w7 ⟨rfl, hF7, hg7⟩
        have HR7 := hid (HR6.out.otherF HF6.out hg7 HNE.out)
        have HB7 := hid (below_at HB6.out hg7 HQ.out)
        have HF7 := hid hF7
        have H7 := hid (Nat.le_trans (Nat.le_trans (textR_len (jn 2 0 0 s)) (jn_len 2 0 0 s)) HS.out)
        clear hF7 hg7
        obtain ⟨s7, hs7⟩ : ∃ s7, (textR (jn 2 0 0 s)).2 = s7 := ⟨_, rfl⟩
        rw [hs7] at HR7 HF7 H7
        clear hs7
        have HM7 := hid (show s7.1.length ≤ maxLen by have := H7.out; unfold maxLen; omega)
        go_wp2_with fail
        refine (End_any p s7 _ HR7.out HM7.out).mono ?_
        rintro _ w8 ⟨rfl, rfl⟩
        go_wp2_with fail
        refine (frEnd_any q s7 _ HF7.out).mono ?_
        rintro _ w9 ⟨rfl, nq, rfl⟩
        go_wp2_with fail
        go_roundw
        case rel => exact ⟨j + 1, s7, by omega, by omega, by go_num, HR7.out, HF7.out, H7.out, below_drewN HB7.out nq⟩
        case measure => simp [intOf]; omega
      · rw [hm]
        have HM := hid (show s.1.length ≤ maxLen by have := HS.out; unfold maxLen; omega)
        go_wp2_with fail
        refine (Text_any p s _ HR1.out HM.out).mono ?_
        rintro _ w6 ⟨rfl, hR6, hg6⟩
        have HF6 := hid (HF1.out.other HR1.out hg6 (Ne.symm HNE.out))
        have HB6 := hid (below_at HB.out hg6 HP.out)
        have HR6 := hid hR6
        clear hR6 hg6
        go_wp2_with fail
        refine (frText_any q s _ HF6.out).mono ?_
        rintro _ w7 ⟨rfl, hF7, hg7⟩
        have HR7 := hid (HR6.out.otherF HF6.out hg7 HNE.out)
        have HB7 := hid (below_at HB6.out hg7 HQ.out)
        have HF7 := hid hF7
        have H7 := hid (Nat.le_trans (Nat.le_trans (textR_len (jn 2 0 0 s)) (jn_len 2 0 0 s)) HS.out)
        clear hF7 hg7
        obtain ⟨s7, hs7⟩ : ∃ s7, (textR (jn 2 0 0 s)).2 = s7 := ⟨_, rfl⟩
        rw [hs7] at HR7 HF7 H7
        clear hs7
        have HM7 := hid (show s7.1.length ≤ maxLen by have := H7.out; unfold maxLen; omega)
        go_wp2_with fail
        refine (End_any p s7 _ HR7.out HM7.out).mono ?_
        rintro _ w8 ⟨rfl, rfl⟩
        go_wp2_with fail
        refine (frEnd_any q s7 _ HF7.out).mono ?_
        rintro _ w9 ⟨rfl, nq, rfl⟩
        go_wp2_with fail
        go_roundw
        case rel => exact ⟨j + 1, s7, by omega, by omega, by go_num, HR7.out, HF7.out, H7.out, below_drewN HB7.out nq⟩
        case measure => simp [intOf]; omega
      · rw [hm]
        go_wp2_with fail
        refine (within_any _ 20 (by omega) (by omega) _).mono ?_
        rintro _ w6 ⟨rfl, rfl⟩
        go_wp2_with fail
        refine (Fail_any p s _ _ HR1.out).mono ?_
        rintro _ w6 ⟨rfl, hR6, hg6⟩
        have HF6 := hid (HF1.out.other HR1.out hg6 (Ne.symm HNE.out))
        have HB6 := hid (below_at HB.out hg6 HP.out)
        have HR6 := hid hR6
        have hc6 := HCX.out _ HB6.out
        clear hR6 hg6 hc
        go_wp2_with fail
        refine (within_any _ 20 (by omega) (by omega) _).mono ?_
        rintro _ w7 ⟨rfl, rfl⟩
        go_wp2_with fail
        refine (frFail_any q s _ _ HF6.out).mono ?_
        rintro _ w7 ⟨rfl, hF7, hg7⟩
        have HR7 := hid (HR6.out.otherF HF6.out hg7 HNE.out)
        have HB7 := hid (below_at HB6.out hg7 HQ.out)
        have HF7 := hid hF7
        have H7 := hid (Nat.le_trans (failS_len s (wrap64 (x.tdiv 7) % 20)) HS.out)
        clear hF7 hg7
        obtain ⟨s7, hs7⟩ : ∃ s7, failS s (wrap64 (x.tdiv 7) % 20) = s7 := ⟨_, rfl⟩
        rw [hs7] at HR7 HF7 H7
        clear hs7
        have HM7 := hid (show s7.1.length ≤ maxLen by have := H7.out; unfold maxLen; omega)
        go_wp2_with fail
        refine (End_any p s7 _ HR7.out HM7.out).mono ?_
        rintro _ w8 ⟨rfl, rfl⟩
        go_wp2_with fail
        refine (frEnd_any q s7 _ HF7.out).mono ?_
        rintro _ w9 ⟨rfl, nq, rfl⟩
        go_wp2_with fail
        go_roundw
        case rel => exact ⟨j + 1, s7, by omega, by omega, by go_num, HR7.out, HF7.out, H7.out, below_drewN HB7.out nq⟩
        case measure => simp [intOf]; omega
    · have hm : s.1.length ≤ maxLen := by have := HS.out; unfold maxLen; omega
      have HM := hid hm
      clear hm
      by_cases h1 : j < la
      · have h1' : (j : Int) < la := by omega
        have h2' : ¬ (j : Int) < 30 := by omega
        have h2'' : (30 : Int) ≤ j := by omega
        go_wp2_with fail
        refine (End_any p s _ HR1.out HM.out).mono ?_
        rintro _ w8 ⟨rfl, rfl⟩
        go_wp2_with fail
        refine (frEnd_any q s _ HF1.out).mono ?_
        rintro _ w9 ⟨rfl, nq, rfl⟩
        go_wp2_with fail
        go_ret
        exact ⟨rfl, below_drewN HB.out nq⟩
      · have h1' : ¬ (j : Int) < la := by omega
        have h1'' : (la : Int) ≤ j := by omega
        go_wp2_with fail
        refine (End_any p s _ HR1.out HM.out).mono ?_
        rintro _ w8 ⟨rfl, rfl⟩
        go_wp2_with fail
        refine (frEnd_any q s _ HF1.out).mono ?_
        rintro _ w9 ⟨rfl, nq, rfl⟩
        go_wp2_with fail
        go_ret
        exact ⟨rfl, below_drewN HB.out nq⟩

theorem ints_of_row {w : World} {a : Option Addr} {len cap : Nat} {zs : List Int} (h : IsRow .i64 w a len cap zs) :
    ∀ j, j < len → ∃ b off x, a = some ⟨b, off, none⟩ ∧ w.cell? ⟨b, off + j, none⟩ = some (.int .i64 x) ∧ -9223372036854775808 ≤ x ∧ x ≤ 9223372036854775807 := by
  rcases h with ⟨rfl, rfl, rfl, rfl⟩ | ⟨ad, rfl, h1, h2, h3, h4, h5⟩
  · exact fun j hj => absurd hj (Nat.not_lt_zero j)
  · intro j hj
    obtain ⟨b, off, sp⟩ := ad
    have h0 := h4 0 (by omega)
    have hsp : sp = none := by
      cases sp with
      | none => rfl
      | some z => simp [Addr.add, World.cell?] at h0; split at h0 <;> simp at h0
    subst hsp
    have hjz : j < zs.length := by omega
    have hw := wf_i64 (h5 zs[j] (List.getElem_mem hjz))
    have e1 : zs.getD j 0 = zs[j] := by rw [List.getD_eq_getElem?_getD, List.getElem?_eq_getElem hjz]; rfl
    have hc := h4 j hjz
    rw [Addr.add_lit, e1] at hc
    exact ⟨b, off, zs[j], rfl, hc, hw.1, hw.2⟩

theorem reads_row (a0 : Option Addr) (len0 cap0 : Nat) (z0 : List Int) (a1 : Option Addr) (len1 cap1 : Nat) (z1 : List Int) (w : World) (w0 : IsRow .u8 w a0 len0 cap0 z0) (w1 : IsRow .i64 w a1 len1 cap1 z1) :
    Calls Try.prog 4 #[.slice a0 len0 cap0, .slice a1 len1 cap1] w fun e w' => e = .returned (.bool true) ∧ Below w.heap.size w w' := by
  obtain ⟨l, rfl, hm, hr⟩ := bytes_of_row w0
  exact reads_any _ l len1 _ w hm hr a1 cap1 rfl (ints_of_row w1)
end Go.Proofs.Ytbbmeeijebkpbaa

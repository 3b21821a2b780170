/- The contract of Hex: a sum as 64 digits. -/
import Derived.Test.YtmfmbcghknknjaaDoorGen2
namespace Go.Proofs.YtmfmbcghknknjaaDoor
open Go.RowKit
set_option linter.unusedSimpArgs false
set_option linter.unusedVariables false

def dig (d : Nat) : UInt8 := if d < 10 then UInt8.ofNat (48 + d) else UInt8.ofNat (87 + d)
def hex2 (b : UInt8) : List UInt8 := [dig (b.toNat / 16), dig (b.toNat % 16)]
def hexL (l : List UInt8) : List UInt8 := l.flatMap hex2
def hexS (l : List UInt8) : ByteArray := ⟨(hexL l).toArray⟩

theorem hexL_step (l : List UInt8) (k : Nat) (h : k < l.length) : hexL (l.take (k + 1)) = hexL (l.take k) ++ hex2 (l.getD k 0) := by
  have e : l.getD k 0 = l[k] := by rw [List.getD_eq_getElem?_getD, List.getElem?_eq_getElem h]; rfl
  rw [List.take_succ_eq_append_getElem h, e, hexL, hexL, List.flatMap_append, List.flatMap_singleton]

theorem run_index_hex (w : World) (h : Nat) (hh : h < 16) : (Instr.index 9 (.string ⟨#[48, 49, 50, 51, 52, 53, 54, 55, 56, 57, 97, 98, 99, 100, 101, 102]⟩) (.int .u8 (h : Int))).run Tryd.prog w = .ok (.int .u8 (dig h).toNat) w := by
  have hs : (⟨#[48, 49, 50, 51, 52, 53, 54, 55, 56, 57, 97, 98, 99, 100, 101, 102]⟩ : ByteArray)[h]? = some (dig h) := by
    match h, hh with
    | 0, _ | 1, _ | 2, _ | 3, _ | 4, _ | 5, _ | 6, _ | 7, _ | 8, _ | 9, _ | 10, _ | 11, _ | 12, _ | 13, _ | 14, _ | 15, _ => rfl
    | n + 16, h => omega
  simp [Instr.index, asIntOf, run_underlying Tryd.underlying9, hs]

set_option maxRecDepth 100000 in
set_option maxHeartbeats 4000000 in
theorem Hex_any (l : List UInt8) (hl : l.length = 32) (w : World) :
    Calls Tryd.prog 12 #[.agg (B l).toArray] w fun e w' => e = .returned (.string (hexS l)) ∧ Below w.heap.size w w' := by
  obtain ⟨i0, hi, hz0, hz1, hz2⟩ := info_parts Tryd.infoByte
  obtain ⟨bs, hbs⟩ : ∃ bs, B l = bs := ⟨_, rfl⟩
  rw [hbs]
  obtain ⟨L, hL⟩ : ∃ L, w.heap.size = L := ⟨_, rfl⟩
  have hbl : bs.length = 32 := by rw [← hbs, B_length, hl]
  have hi32 := hid (show (Tryd.prog.info? 24).map (·.size) = some bs.length by rw [hbl]; kernel_rfl)
  have HBS := hid hbs
  have HLl := hid hl
  clear hbs hl hbl
  go_enter Tryd.func12, Tryd.ntmps12
  go_wp2_with (first
    | (show wpList _ _ _ (⟨some 1, Op.box _ _, _, _, _, _⟩ :: _) _ _; go_must (refine wpList_box_blk rfl 24 _ rfl bs rfl L hL ?_); intro w1 hB1 hb1 hs1; replace hB1 := hid hB1; replace hb1 := hid hb1)
    | (at_make; go_must (refine wpList_make_row _ rfl _ _ 26 rfl 5 i0 (.int .u8 0) Tryd.underlying26 hi hz0 hz1 hz2 .i64 .i64 _ _ 0 64 rfl rfl rfl rfl (by omega) (by omega) ?_); intro w2 zs hO2 hg2 hs2; replace hO2 := hid hO2; replace hg2 := hid hg2; have hr2 := hid (show w2.rangeAt L 0 bs from (hB1.out.kept (hg2.out.block L (by omega) (by rw [hs1]; intro e; injection e; omega))).range fun j v hv => by rw [Nat.zero_add]; exact hv))
    | (show wpList _ _ _ (⟨some 7, Op.load _ _, _, _, _, _⟩ :: _) _ _; go_must (refine wpList_load_mid rfl 24 _ rfl L 0 rfl bs _ hr2.out Tryd.underlying24 rfl hi32.out ?_)))
  have hb2 := hid (show Below L w w2 from hb1.out.trans (grown_below hg2.out L (by intro k hk; rw [hs1] at hk; cases hk; omega) (by omega)))
  have hH2 := hid (show Has w2 5 L (.slice (some ⟨L + 1, 0, none⟩) 0 64) 0 [] from .inr ⟨L + 1, 64, rfl, by omega, by
    have h := hO2.out
    rw [hs1] at h
    have hz : zs = [] := List.eq_nil_of_length_eq_zero h.1
    rw [hz] at h
    exact h⟩)
  clear hB1 hb1 hO2 hg2 hr2 hi32
  have hs2' : L + 2 ≤ w2.heap.size := by omega
  clear hs2 hs1
  go_loopw [3, 8] (fun out i wr => ∃ j : Nat, j ≤ 32 ∧ i = .int .i64 j ∧ Has wr 5 L out (2 * j) (B (hexL (l.take j))) ∧ Below L w wr) (fun _ i _ => 32 - (intOf i).toNat)
  case atStart => exact ⟨0, Nat.zero_le _, rfl, hH2.out, hb2.out⟩
  case round =>
    obtain ⟨j, hj, rfl, hH, hb⟩ := hrel
    have HH := hid hH
    have Hb := hid hb
    have hsz := hb.size
    clear hH hb
    by_cases hlt : j < 32
    · have hlt' : (j : Int) < 32 := by omega
      obtain ⟨b, hb⟩ : ∃ b, l.getD j 0 = b := ⟨_, rfl⟩
      have hix := hid (show bs.toArray[j]? = some (.int .u8 b.toNat) by rw [List.getElem?_toArray, ← HBS.out, ← hb]; exact B_getD l j (by rw [HLl.out]; exact hlt))
      have HST := hid (show hexL (l.take (j + 1)) = hexL (l.take j) ++ hex2 b by rw [← hb]; exact hexL_step l j (by rw [HLl.out]; exact hlt))
      have hb255 : (b.toNat : Int) ≤ 255 := by have := b.toNat_lt; omega
      have hb255n : b.toNat ≤ 255 := by have := b.toNat_lt; omega
      have hand : bits .and .u8 (b.toNat : Int) 15 = (b.toNat : Int) % 16 := by
        rw [show (15 : Int) = ((15 : Nat) : Int) from rfl, u8_and_nat _ _ (by omega) (by omega), show (15 : Nat) = 2 ^ 4 - 1 from rfl, Nat.and_two_pow_sub_one_eq_mod]
        omega
      clear hb
      go_wp2_with (show wpList _ _ _ (⟨_, Op.index _ _ _, _, _, _, _⟩ :: _) _ _; go_must (refine wpList_index_agg rfl 24 _ _ rfl 5 32 .u8 Tryd.underlying24 Tryd.underlying5 Tryd.size1 _ .i64 j rfl rfl hlt (.int .u8 b.toNat) hix.out ?_))
      refine wp_region_held_drew (S := fun w' => True) (by kernel_rfl) (trivial) (fun hHeld => ?_)
      refine wpAnyH_take (i := 0) (v := u3) rfl (by kernel_rfl) (by kernel_rfl) (by kernel_rfl) (fun _ _ _ h => h) (Or.inl ⟨by rfl, by intro w hSw; go_simp⟩) hHeld ?_
      try simp only [Act.put, List.setIfInBounds_toArray, List.set_cons_zero, List.set_cons_succ, List.getElem_toArray, List.getElem_cons_zero, List.getElem_cons_succ]
      refine wpAnyH_take (i := 1) (v := .int .u8 b.toNat) rfl (by kernel_rfl) (by kernel_rfl) (by kernel_rfl) (fun _ _ _ h => h) (Or.inl ⟨by rfl, by intro w hSw; go_simp⟩) hHeld ?_
      try simp only [Act.put, List.setIfInBounds_toArray, List.set_cons_zero, List.set_cons_succ, List.getElem_toArray, List.getElem_cons_zero, List.getElem_cons_succ]
      refine wpAnyH_take (i := 2) (v := .int .u8 ((b.toNat / 16 : Nat) : Int)) rfl (by kernel_rfl) (by kernel_rfl) (by kernel_rfl) (fun _ _ _ h => h) (Or.inl ⟨by rfl, by intro w hSw; go_simp⟩) hHeld ?_
      try simp only [Act.put, List.setIfInBounds_toArray, List.set_cons_zero, List.set_cons_succ, List.getElem_toArray, List.getElem_cons_zero, List.getElem_cons_succ]
      refine wpAnyH_take (i := 3) (v := .int .u8 (dig (b.toNat / 16)).toNat) rfl (by kernel_rfl) (by kernel_rfl) (by kernel_rfl) (fun _ _ _ h => h) (Or.inl ⟨by rfl, fun w _ => exec_index (by rfl) (by rfl) (by rfl) (run_index_hex w _ (by omega))⟩) hHeld ?_
      try simp only [Act.put, List.setIfInBounds_toArray, List.set_cons_zero, List.set_cons_succ, List.getElem_toArray, List.getElem_cons_zero, List.getElem_cons_succ]
      refine wpAnyH_take (i := 4) (v := .int .u8 b.toNat) rfl (by kernel_rfl) (by kernel_rfl) (by kernel_rfl) (fun _ _ _ h => h) (Or.inl ⟨by rfl, by intro w hSw; go_simp⟩) hHeld ?_
      try simp only [Act.put, List.setIfInBounds_toArray, List.set_cons_zero, List.set_cons_succ, List.getElem_toArray, List.getElem_cons_zero, List.getElem_cons_succ]
      refine wpAnyH_take (i := 5) (v := .int .u8 ((b.toNat % 16 : Nat) : Int)) rfl (by kernel_rfl) (by kernel_rfl) (by kernel_rfl) (fun _ _ _ h => h) (Or.inl ⟨by rfl, by intro w hSw; go_simp⟩) hHeld ?_
      try simp only [Act.put, List.setIfInBounds_toArray, List.set_cons_zero, List.set_cons_succ, List.getElem_toArray, List.getElem_cons_zero, List.getElem_cons_succ]
      refine wpAnyH_take (i := 6) (v := .int .u8 (dig (b.toNat % 16)).toNat) rfl (by kernel_rfl) (by kernel_rfl) (by kernel_rfl) (fun _ _ _ h => h) (Or.inl ⟨by rfl, fun w _ => exec_index (by rfl) (by rfl) (by rfl) (run_index_hex w _ (by omega))⟩) hHeld ?_
      try simp only [Act.put, List.setIfInBounds_toArray, List.set_cons_zero, List.set_cons_succ, List.getElem_toArray, List.getElem_cons_zero, List.getElem_cons_succ]
      refine wpAnyH_ready (rs := [7]) (by kernel_rfl) (by simp) ?_
      refine AllReadyH.cons rfl (fun K hK => ?_) AllReadyH.nil
      go_simp
      refine hK.out _ _ (trivial) (fun hHeld => ?_)
      clear hK K
      try simp only [Act.put, List.setIfInBounds_toArray, List.set_cons_zero, List.set_cons_succ, List.getElem_toArray, List.getElem_cons_zero, List.getElem_cons_succ]
      refine wpAnyH_ready (rs := [8]) (by kernel_rfl) (by simp) ?_
      refine AllReadyH.cons rfl (fun K hK => ?_) AllReadyH.nil
      refine Eq.mpr (if_pos (by rfl)) ?_
      refine wp_append_has _ _ _ 26 26 rfl 5 i0 (.int .u8 0) Tryd.underlying26 hi hz0 hz1 hz2 rfl L _ (2 * j) _ rfl (HH.out.alloc _) (by simp; omega) _ 2 (B (hex2 b)) rfl (Src.ofBytes _ Tryd.underlying26 rfl (Blk.reads (Blk.new wr.drew 5 (B (hex2 b))) 2 2 (Nat.le_refl _) (Nat.le_refl _))) (by omega) (by omega) ?_
      intro v2 w2 hH2 hb2
      refine hK.out _ _ trivial (fun hHeld => ?_)
      clear hK K
      try simp only [Act.put, List.setIfInBounds_toArray, List.set_cons_zero, List.set_cons_succ, List.getElem_toArray, List.getElem_cons_zero, List.getElem_cons_succ]
      refine wpAnyH_take (i := 9) (v := v2) rfl (by kernel_rfl) (by kernel_rfl) (by kernel_rfl) (fun _ _ _ h => h) (Or.inl ⟨by rfl, by intro w hSw; go_simp⟩) hHeld ?_
      try simp only [Act.put, List.setIfInBounds_toArray, List.set_cons_zero, List.set_cons_succ, List.getElem_toArray, List.getElem_cons_zero, List.getElem_cons_succ]
      refine wpAnyH_done (by kernel_rfl) ?_ _
      go_wp2_with fail
      go_roundw
      case rel => exact ⟨j + 1, by omega, by go_num, by rw [HST.out, B_append]; exact hH2, (Hb.out.drew.alloc (by show L ≤ wr.heap.size; omega) _).trans hb2⟩
      case measure => simp [intOf]; omega
    · have hj8 : j = 32 := by omega
      subst hj8
      have hcv : (convert 26 9 u3).run Tryd.prog wr = .ok (.string (hexS l)) wr := by
        have h := HH.out
        rw [List.take_of_length_le (by rw [HLl.out]; omega)] at h
        exact run_string wr 26 9 5 Tryd.underlying26 Tryd.underlying5 Tryd.underlying9 h.reads
      go_wp2_with fail
      go_ret
      exact ⟨rfl, by rw [hL]; exact Hb.out⟩
end Go.Proofs.YtmfmbcghknknjaaDoor

/- The contract of spread: a word for each round. -/
import Derived.Test.YtinifnpajkldbaaDoorPk7
import Derived.Test.YtinifnpajkldbaaDoorPk1
import Derived.BigQuiet
import Derived.Deep.RegionHeld3
namespace Go.Proofs.YtinifnpajkldbaaDoor
open Go.RowKit
set_option linter.unusedSimpArgs false
set_option linter.unusedVariables false
attribute [local go_sem] wadd wadd' wxor wand wnot

theorem zero64 : (Tryd.prog.info? 109).bind (fun i => i.zero.map fun z => z.cells.toList) = some (U (List.replicate 64 0)) := by kernel_rfl

set_option maxRecDepth 100000 in
set_option maxHeartbeats 400000 in
theorem spread_any (g o : Nat) (m : List UInt8) (hm : m.length = 64) (w : World) (hr : w.rangeAt g o (B m)) :
    Calls Tryd.prog 99 #[.pointer (some ⟨g, o, none⟩)] w fun e w' => e = .returned (.agg (U (spreadS m)).toArray) ∧ Below w.heap.size w w' := by
  have HR := hid hr
  have HM := hid hm
  clear hr hm
  obtain ⟨L, hL⟩ : ∃ L, w.heap.size = L := ⟨_, rfl⟩
  rw [hL]
  go_enter Tryd.func99, Tryd.ntmps99
  go_wp2_with (show wpList _ _ _ (⟨some 2, Op.alloc _, _, _, _, _⟩ :: _) _ _; go_must (refine wpList_alloc_blk rfl 109 rfl _ zero64 L hL ?_); intro w1 hB1 hb1 hs1)
  have HB1 := hid hB1
  have Hb1 := hid hb1
  clear hB1 hb1
  refine wp_scope_at 0 (fun a' w' => ∃ (i : Nat) (z : List UInt32), a' = ⟨#[.pointer (some ⟨g, o, none⟩), undef, .pointer (some ⟨L, 0, none⟩), .pointer (some ⟨L + 1, 0, none⟩), a'.tmps.getD 4 undef, a'.tmps.getD 5 undef, .int .i64 (i : Nat), a'.tmps.getD 7 undef, a'.tmps.getD 8 undef, a'.tmps.getD 9 undef, a'.tmps.getD 10 undef, a'.tmps.getD 11 undef, a'.tmps.getD 12 undef, a'.tmps.getD 13 undef, a'.tmps.getD 14 undef, a'.tmps.getD 15 undef, a'.tmps.getD 16 undef, a'.tmps.getD 17 undef, a'.tmps.getD 18 undef, a'.tmps.getD 19 undef, a'.tmps.getD 20 undef, a'.tmps.getD 21 undef, a'.tmps.getD 22 undef, a'.tmps.getD 23 undef, a'.tmps.getD 24 undef, a'.tmps.getD 25 undef, a'.tmps.getD 26 undef, a'.tmps.getD 27 undef, a'.tmps.getD 28 undef, a'.tmps.getD 29 undef, a'.tmps.getD 30 undef, a'.tmps.getD 31 undef, a'.tmps.getD 32 undef, a'.tmps.getD 33 undef, a'.tmps.getD 34 undef, a'.tmps.getD 35 undef, a'.tmps.getD 36 undef, a'.tmps.getD 37 undef, a'.tmps.getD 38 undef, a'.tmps.getD 39 undef, a'.tmps.getD 40 undef, a'.tmps.getD 41 undef, a'.tmps.getD 42 undef, a'.tmps.getD 43 undef, a'.tmps.getD 44 undef, a'.tmps.getD 45 undef, a'.tmps.getD 46 undef, a'.tmps.getD 47 undef, a'.tmps.getD 48 undef, a'.tmps.getD 49 undef, a'.tmps.getD 50 undef, a'.tmps.getD 51 undef, a'.tmps.getD 52 undef, a'.tmps.getD 53 undef, a'.tmps.getD 54 undef, a'.tmps.getD 55 undef, a'.tmps.getD 56 undef, a'.tmps.getD 57 undef, a'.tmps.getD 58 undef, a'.tmps.getD 59 undef, a'.tmps.getD 60 undef, a'.tmps.getD 61 undef, a'.tmps.getD 62 undef, a'.tmps.getD 63 undef, a'.tmps.getD 64 undef, a'.tmps.getD 65 undef, a'.tmps.getD 66 undef, a'.tmps.getD 67 undef, a'.tmps.getD 68 undef, a'.tmps.getD 69 undef, a'.tmps.getD 70 undef, a'.tmps.getD 71 undef], []⟩ ∧ 16 ≤ i ∧ i < 64 ∧ z.length = 64 - i ∧ Blk w' 109 (L + 1) (U (extN (parts m 64 16) (i - 16) ++ z)) ∧ Blk w' 109 L (U (List.replicate 64 0)) ∧ Below L w w')
    (fun a' _ => 64 - (intOf (a'.tmps.getD 6 undef)).toNat) rfl ?pass ?first
  case first =>
    intro hy
    go_wp2_with (show wpList _ _ _ (⟨some 3, Op.alloc _, _, _, _, _⟩ :: _) _ _; go_must (refine wpList_alloc_blk rfl 109 rfl _ zero64 (L + 1) hs1 ?_); intro w2 hB2 hb2 hs2)
    have H0 := hid (HB1.out.later (by rw [hs1]; exact hb2))
    have H1 := hid hB2
    have HB := hid (show Below L w w2 from Hb1.out.trans (hb2.mono (by omega)))
    have HY := hid hy
    clear hB2 hb2 hs2 hs1 hy HB1 Hb1
    go_loopw [10] (fun i wr => ∃ k : Nat, k ≤ 64 ∧ i = .int .i64 k ∧ Blk wr 109 (L + 1) (U (parts m k 64)) ∧ Blk wr 109 L (U (List.replicate 64 0)) ∧ Below L w wr) (fun i _ => 64 - (intOf i).toNat)
    case atStart => exact ⟨0, Nat.zero_le _, rfl, by rw [parts_zero]; exact H1.out, H0.out, HB.out⟩
    case round =>
      obtain ⟨k, hk, rfl, hW, hZ, hb⟩ := hrel
      by_cases hlt : k < 64
      · have hlt' : (k : Int) < 64 := by omega
        have hge' : (0 : Int) ≤ (k : Int) := by omega
        obtain ⟨x, hx⟩ : ∃ x, (parts m k 64).getD (k / 4) 0 = x := ⟨_, rfl⟩
        obtain ⟨b, hb8⟩ : ∃ b, m.getD k 0 = b := ⟨_, rfl⟩
        have hb255 : (b.toNat : Int) ≤ 255 := by have := b.toNat_lt; omega
        have hc : wr.cell? ⟨g, o + k, none⟩ = some (.int .u8 b.toNat) := by rw [← hb8]; exact cell_later (by rw [hL]; exact hb) (HR.out k _ (B_getD m k (by rw [HM.out]; exact hlt)))
        have hcw : wr.cell? ⟨L + 1, k / 4, none⟩ = some (.int .u32 (nt x)) := by rw [← hx]; exact hW.cell (U_getD _ _ (by rw [parts_len]; omega))
        have hfw := hW.frozen (k / 4)
        have HX := hid (show U (parts m (k + 1) 64) = (U (parts m k 64)).set (k / 4) (.int .u32 (nt (byteOn x b))) by
          rw [parts_step m k 64 (by rw [HM.out]; exact hlt) (by omega), hx, hb8, U, U, List.map_set])
        have hor := wbyte x b
        have HW := hid hW
        have HZ := hid hZ
        have Hb := hid hb
        clear hW hZ hb hx hb8
        go_wp2_with fail
        go_quiet (fail)
        go_wp2_with fail
        go_roundw
        case rel => exact ⟨k + 1, by omega, rfl, by rw [HX.out]; exact (HW.out.drewN nq).setCell _ _, (HZ.out.drewN nq).kept (heap_setCell_other _ _ _ _ (by simp)), (below_drewN Hb.out nq).setCell (by simp) _⟩
        case measure => simp [intOf]; omega
      · have hk64 : k = 64 := by omega
        subst hk64
        obtain ⟨z, hz⟩ := parts_pre m
        have hzl : z.length = 48 := by have := congrArg List.length hz; rw [List.length_append, parts_len, parts_len] at this; omega
        rw [hz] at hW
        have HW := hid hW
        have HZ := hid hZ
        have Hb := hid hb
        clear hW hZ hb hz
        go_wp2_with fail
        rename_i hK
        exact wp_label (hK _ _ (HY.out _ _ ⟨16, z, rfl, by omega, by omega, by omega, HW.out, HZ.out, Hb.out⟩))
  case pass =>
    rintro a' w' ⟨i, z, ha, h16, h64, hz, hW, hZ, hb⟩
    obtain ⟨f, ha2⟩ : ∃ f : Nat → Value, a' = ⟨#[.pointer (some ⟨g, o, none⟩), undef, .pointer (some ⟨L, 0, none⟩), .pointer (some ⟨L + 1, 0, none⟩), f 4, f 5, .int .i64 (i : Nat), f 7, f 8, f 9, f 10, f 11, f 12, f 13, f 14, f 15, f 16, f 17, f 18, f 19, f 20, f 21, f 22, f 23, f 24, f 25, f 26, f 27, f 28, f 29, f 30, f 31, f 32, f 33, f 34, f 35, f 36, f 37, f 38, f 39, f 40, f 41, f 42, f 43, f 44, f 45, f 46, f 47, f 48, f 49, f 50, f 51, f 52, f 53, f 54, f 55, f 56, f 57, f 58, f 59, f 60, f 61, f 62, f 63, f 64, f 65, f 66, f 67, f 68, f 69, f 70, f 71], []⟩ := ⟨fun j => a'.tmps.getD j undef, ha⟩
    clear ha
    subst ha2
    obtain ⟨l, hl⟩ : ∃ l, extN (parts m 64 16) (i - 16) = l := ⟨_, rfl⟩
    have hll : l.length = i := by rw [← hl, extN_len, parts_len]; omega
    rw [hl] at hW
    have gl : ∀ j, j < i → (U (l ++ z))[j]? = some (.int .u32 (nt (l.getD j 0))) := by
      intro j hj
      rw [U_append, List.getElem?_append_left (by rw [U_length]; omega), U_getD _ _ (by omega)]
    obtain ⟨x16, e16⟩ : ∃ x, l.getD (i - 16) 0 = x := ⟨_, rfl⟩
    obtain ⟨x15, e15⟩ : ∃ x, l.getD (i - 15) 0 = x := ⟨_, rfl⟩
    obtain ⟨x7, e7⟩ : ∃ x, l.getD (i - 7) 0 = x := ⟨_, rfl⟩
    obtain ⟨x2, e2⟩ : ∃ x, l.getD (i - 2) 0 = x := ⟨_, rfl⟩
    have c16 := hW.cell (gl (i - 16) (by omega))
    have c15 := hW.cell (gl (i - 15) (by omega))
    have c7 := hW.cell (gl (i - 7) (by omega))
    have c2 := hW.cell (gl (i - 2) (by omega))
    rw [e16] at c16
    rw [e15] at c15
    rw [e7] at c7
    rw [e2] at c2
    have hfr := hW.frozen i
    cases z with
    | nil => simp at hz; omega
    | cons z0 z =>
    have c0 := hW.cell (j := i) (u := .int .u32 (nt z0)) (by rw [U_append, List.getElem?_append_right (by rw [U_length]; omega), U_length, hll, Nat.sub_self]; rfl)
    have HX := hid (show extN (parts m 64 16) (i + 1 - 16) = l ++ [x16 + sml0 x15 + x7 + sml1 x2] by
      rw [show i + 1 - 16 = (i - 16) + 1 by omega, extN, hl, ext, hll, e16, e15, e7, e2])
    have HU := hid (show ∀ v, (U (l ++ z0 :: z)).set i (.int .u32 (nt v)) = U ((l ++ [v]) ++ z) by
      intro v
      rw [U_append, List.set_append_right _ _ (by rw [U_length]; omega), U_length, hll, Nat.sub_self]
      simp [U])
    have HW := hid hW
    have HZ := hid hZ
    have Hb := hid hb
    have HL := hid hll
    have Hz := hid hz
    clear hW hZ hb hll hl gl e16 e15 e7 e2 hz
    have hi16 : (16 : Int) ≤ (i : Int) := by omega
    have hi64 : (i : Int) < 64 := by omega
    have s3 : nt x15 / 8 = nt (shr x15 3) := wshr x15 3
    have s10 : nt x2 / 1024 = nt (shr x2 10) := wshr x2 10
    have lo15 := nt_lo x15
    have hi15 := nt_hi x15
    have lo2 := nt_lo x2
    have hi2 := nt_hi x2
    go_wp2_with fail
    go_quiet (fail)
    go_wp2_with fail
    refine (rotl_any x15 _ 7 (by rfl) (by omega) (by omega) _).mono ?_
    rintro e w2 ⟨rfl, rfl⟩
    go_wp2_with fail
    refine (rotl_any x15 _ 18 (by rfl) (by omega) (by omega) _).mono ?_
    rintro e w2 ⟨rfl, rfl⟩
    go_wp2_with fail
    refine (rotl_any x2 _ 17 (by rfl) (by omega) (by omega) _).mono ?_
    rintro e w2 ⟨rfl, rfl⟩
    go_wp2_with fail
    refine (rotl_any x2 _ 19 (by rfl) (by omega) (by omega) _).mono ?_
    rintro e w2 ⟨rfl, rfl⟩
    go_wp2_with fail
    have b16 : (0 : Int) ≤ (i : Int) - 16 := by omega
    have b16' : (i : Int) - 16 < 64 := by omega
    have b7 : (0 : Int) ≤ (i : Int) - 7 := by omega
    have b7' : (i : Int) - 7 < 64 := by omega
    have t16 : ((i : Int) - 16).toNat = i - 16 := by omega
    have t7 : ((i : Int) - 7).toNat = i - 7 := by omega
    have w16 : IntKind.i64.wrap ((i : Int) - 16) = (i : Int) - 16 := IntWalk.i64_in _ (by omega)
    have w7 : IntKind.i64.wrap ((i : Int) - 7) = (i : Int) - 7 := IntWalk.i64_in _ (by omega)
    have n7 : (7 : Int) ≤ (i : Int) := by omega
    replace c0 := cellD_of c0
    have HS : Hid (∀ (w'' : World) (v : Value), (w''.cell? ⟨L + 1, i - 16, none⟩ = some (.int .u32 (nt x16)) ∧ w''.cell? ⟨L + 1, i - 7, none⟩ = some (.int .u32 (nt x7)) ∧ w''.cell? ⟨L + 1, i, none⟩ = some (cellD w'' ⟨L + 1, i, none⟩) ∧ w''.frozen? ⟨L + 1, i, none⟩ = false) → (w''.setCell ⟨L + 1, i, none⟩ v).cell? ⟨L + 1, i - 16, none⟩ = some (.int .u32 (nt x16)) ∧ (w''.setCell ⟨L + 1, i, none⟩ v).cell? ⟨L + 1, i - 7, none⟩ = some (.int .u32 (nt x7)) ∧ (w''.setCell ⟨L + 1, i, none⟩ v).cell? ⟨L + 1, i, none⟩ = some (cellD (w''.setCell ⟨L + 1, i, none⟩ v) ⟨L + 1, i, none⟩) ∧ (w''.setCell ⟨L + 1, i, none⟩ v).frozen? ⟨L + 1, i, none⟩ = false) := by
      rintro w'' v ⟨a1, a2, a3, a4⟩
      refine ⟨?_, ?_, cellD_set a3, by rw [World.frozen?_setCell]; exact a4⟩
      · rw [World.cell?_setCell_other _ _ _ _ (by intro h; injection h; omega)]; exact a1
      · rw [World.cell?_setCell_other _ _ _ _ (by intro h; injection h; omega)]; exact a2
    go_region_held3 (fun w'' => w''.cell? ⟨L + 1, i - 16, none⟩ = some (.int .u32 (nt x16)) ∧ w''.cell? ⟨L + 1, i - 7, none⟩ = some (.int .u32 (nt x7)) ∧ w''.cell? ⟨L + 1, i, none⟩ = some (cellD w'' ⟨L + 1, i, none⟩) ∧ w''.frozen? ⟨L + 1, i, none⟩ = false) (first | (refine HS.out _ _ ?_; go_split_ands; refine ⟨?_, ?_, ?_, ?_⟩ <;> first | assumption | go_keep) | (go_split_ands; refine ⟨?_, ?_, ?_, ?_⟩ <;> first | assumption | go_keep)) (fail)
    by_cases hlt : i + 1 < 64
    · have hlt' : (i : Int) + 1 < 64 := by omega
      go_wp2_with fail
      go_step3
      exact ⟨rfl, ⟨i + 1, z, rfl, by omega, hlt, by have := Hz.out; simp at this; omega, by rw [HX.out, ← HU.out]; exact (HW.out.drewN _).setCell _ _, (HZ.out.drewN _).kept (heap_setCell_other _ _ _ _ (by simp)), (below_drewN Hb.out _).setCell (by simp) _⟩, by simp [intOf]; omega⟩
    · have hlt' : ¬ (i : Int) + 1 < 64 := by omega
      have hi63 : i = 63 := by omega
      subst hi63
      have hz0 : z = [] := List.eq_nil_of_length_eq_zero (by have := Hz.out; simpa using this)
      subst hz0
      have HE := hid (show ∀ n, Blk ((w'.drewN n).setCell ⟨L + 1, 63, none⟩ (.int .u32 (nt (x16 + sml0 x15 + x7 + sml1 x2)))) 109 (L + 1) (U (spreadS m)) ∧ Blk ((w'.drewN n).setCell ⟨L + 1, 63, none⟩ (.int .u32 (nt (x16 + sml0 x15 + x7 + sml1 x2)))) 109 L (U (List.replicate 64 0)) ∧ Below L w ((w'.drewN n).setCell ⟨L + 1, 63, none⟩ (.int .u32 (nt (x16 + sml0 x15 + x7 + sml1 x2)))) by
        intro n
        refine ⟨?_, (HZ.out.drewN _).kept (heap_setCell_other _ _ _ _ (by simp)), (below_drewN Hb.out _).setCell (by simp) _⟩
        rw [show spreadS m = l ++ [x16 + sml0 x15 + x7 + sml1 x2] ++ [] by rw [List.append_nil]; exact HX.out, ← HU.out]
        exact (HW.out.drewN _).setCell _ _)
      obtain ⟨h1, h2, h3⟩ := HE.out (nq + 1)
      obtain ⟨W, hW⟩ : ∃ W, (w'.drewN (nq + 1)).setCell ⟨L + 1, 63, none⟩ (.int .u32 (nt (x16 + sml0 x15 + x7 + sml1 x2))) = W := ⟨_, rfl⟩
      rw [hW] at h1 h2 h3
      show Exit.then _ _ _ _ (World.setCell _ _ (Value.int IntKind.u32 (nt (x16 + sml0 x15 + x7 + sml1 x2))))
      rw [hW]
      obtain ⟨us, hus⟩ : ∃ us, U (spreadS m) = us := ⟨_, rfl⟩
      have hul : us.length = 64 := by rw [← hus, U_length, spreadS_len]
      have hu1 : ∀ u ∈ us, u.oneCell' = true := by rw [← hus]; exact U_one _
      have HUS := hid hus
      rw [hus] at h1
      have Hu1 := hid hu1
      have hi : (Tryd.prog.info? 109).map (·.size) = some us.length := by rw [hul]; kernel_rfl
      have Hi := hid hi
      have H1 := hid h1
      have H2 := hid h2
      have H3 := hid h3
      have H1r := hid (show W.rangeAt (L + 1) 0 us from h1.range fun j v hv => by rw [Nat.zero_add]; exact hv)
      have H2t := hid (show W.there L 0 us.length by
        refine h2.there ?_
        simp [U_length, hul])
      have HWT := hid (show (W.setCells L 0 us).rangeAt L 0 us ∧ Below L w (W.setCells L 0 us) from
        ⟨World.rangeAt_setCells_same W L 0 _ (by simpa using H2t.out), below_setCells (Nat.le_refl _) _ _ h3⟩)
      clear hus hul hu1 hi h1 h2 h3 hW HE HX HU HS c16 c15 c7 c2 hfr c0
      go_wp2_with (first
        | (show wpList _ _ _ (⟨some 71, Op.load _ _, _, _, _, _⟩ :: _) _ _; go_must (refine wpList_load_mid rfl 109 _ rfl (L + 1) 0 rfl us _ H1r.out Tryd.underlying109 rfl Hi.out ?_))
        | (show wpList _ _ _ (⟨none, Op.store _ _ _, _, _, _, _⟩ :: _) _ _; go_must (refine wpList_store_mid rfl 109 _ _ rfl L 0 us.toArray rfl rfl (by simpa using H2t.out) (by simpa using Hi.out) (all_oneCell_toArray Hu1.out) ?_)))
      simp only [Exit.jump]
      refine ret_cell 2 109 rfl L rfl us _ HWT.out.1 Tryd.underlying109 rfl Hi.out rfl ⟨by rw [HUS.out], HWT.out.2⟩
end Go.Proofs.YtinifnpajkldbaaDoor

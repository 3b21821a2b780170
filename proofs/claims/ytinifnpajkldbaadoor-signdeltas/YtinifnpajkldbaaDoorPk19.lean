/- Texts laid together: RefSum, Laid2, EqH. -/
import Derived.Test.YtinifnpajkldbaaDoorRef1
import Derived.Test.YtinifnpajkldbaaDoorPk12
import Derived.Test.YtinifnpajkldbaaDoorCards
import Derived.Test.YtinifnpajkldbaaDoorTie
import Derived.ProofKit
import Derived.LaidMore
import Derived.OpenShut
import Derived.Stop.Joined
import Derived.Lib.LaidTab
import Derived.Stop.LaidErr

/- The second say's Sum, whole: SHA-256. -/
namespace Go.Proofs.YtinifnpajkldbaaDoor
open Go.RowKit
set_option linter.unusedSimpArgs false
set_option linter.unusedVariables false
attribute [local go_sem] wadd wadd' wxor wand wnot

theorem grew_ge {e : TypeId} {w w' : World} {g cap n g' cap' n' Bd : Nat} {xs xs' : List Value} (h : Grew e w g cap n xs w' g' cap' n' xs') (h1 : Bd ≤ g) (h2 : Bd ≤ w.heap.size) : Bd ≤ g' := by
  rcases h.blk with ⟨rfl, _⟩ | hb <;> omega

theorem beginZ_eq : (U H0.l) = (H0.l.map nt).map (Value.int .u32) := by simp [U]

set_option maxRecDepth 1000000 in
set_option maxHeartbeats 8000000 in
theorem refSum_any (m : List UInt8) (ao : Option Addr) (bl cap : Nat) (hbl : m.length = bl) (w : World) (hr : Reads w (.slice ao bl cap) (B m)) (hm : bl ≤ 10000) :
    Calls Tryd.prog 46 #[.slice ao bl cap] w fun e w' => e = .returned (.agg (B (shaS m)).toArray) ∧ Below w.heap.size w w' := by
  obtain ⟨i0, hi, hz0, hz1, hz2⟩ := info_parts Tryd.infoByte
  obtain ⟨L, hL⟩ : ∃ L, w.heap.size = L := ⟨_, rfl⟩
  have HRd := hid hr
  have HBL := hid hbl
  clear hr hbl
  go_enter Tryd.func46, Tryd.ntmps46
  go_wp2_with (show wpList _ _ _ (⟨some 2, Op.alloc _, _, _, _, _⟩ :: _) _ _; go_must (refine wpList_alloc_blk rfl 26 rfl _ zeroHash L hL ?_); intro w1 hB1 hb1 hs1; replace hB1 := hid hB1; replace hb1 := hid hb1)
  refine (words_any _).mono ?_
  rintro e w2 ⟨rfl, hb2⟩
  have hs2 := hb2.size
  have HB2 := hid (hB1.out.later hb2)
  have Hb2 := hid (show Below L w w2 from hb1.out.trans (hb2.mono (by omega)))
  obtain ⟨us, hus⟩ : ∃ us, U K = us := ⟨_, rfl⟩
  have hul : us.length = 64 := by rw [← hus, U_length, K_len]
  have hiK := hid (show (Tryd.prog.info? 109).map (·.size) = some us.length by rw [hul]; kernel_rfl)
  have hoK := hid (show ∀ v ∈ us, v.oneCell' = true by rw [← hus]; exact U_one K)
  have hi8 := hid (show (Tryd.prog.info? 111).map (·.size) = some (U H0.l).length by kernel_rfl)
  have ho8 := hid (U_one H0.l)
  have HE := hid hus
  have HUL := hid hul
  rw [hus]
  obtain ⟨Lk, hLk⟩ : ∃ Lk, w2.heap.size = Lk := ⟨_, rfl⟩
  have dLk : L < Lk := by omega
  clear hB1 hb1 hb2 hus hul hs2 hs1
  go_wp2_with (first
    | (show wpList _ _ _ (⟨some 3, Op.alloc _, _, _, _, _⟩ :: _) _ _; go_must (refine wpList_alloc_blk rfl 109 rfl _ zero64 Lk hLk ?_); intro w3 hB3 hb3 hs3; replace hB3 := hid hB3; replace hb3 := hid hb3; have ht3 := hid (show w3.there Lk 0 us.length from hB3.out.there (by rw [U_length, List.length_replicate, HUL.out]; omega)))
    | (show wpList _ _ _ (⟨none, Op.store 109 _ _, _, _, _, _⟩ :: _) _ _; go_must (refine wpList_store_list rfl 109 _ _ rfl Lk 0 us rfl rfl ht3.out hiK.out hoK.out ?_); intro w4 hw4; replace hw4 := hid hw4; have hs4 : w4.heap.size = Lk + 1 := (by rw [hw4.out, setCells_size]; exact hs3))
    | (show wpList _ _ _ (⟨some 24, Op.build _ _, _, _, _, _⟩ :: _) _ _; go_must (refine wpList_buildFlatArrTo rfl 111 108 8 _ rfl .u32 (H0.l.map nt) (some 24) rfl Tryd.underlying111 Tryd.sizeWord (by kernel_rfl) (by kernel_rfl) ?_); rw [← beginZ_eq])
    | (show wpList _ _ _ (⟨some 4, Op.alloc _, _, _, _, _⟩ :: _) _ _; go_must (refine wpList_alloc_blk rfl 111 rfl _ zero8 (Lk + 1) hs4 ?_); intro w5 hB5 hb5 hs5; replace hB5 := hid hB5; replace hb5 := hid hb5; have ht5 := hid (show w5.there (Lk + 1) 0 (U H0.l).length from hB5.out.there (by rw [U_length, U_length, S8.len, List.length_replicate]; omega)))
    | (show wpList _ _ _ (⟨none, Op.store 111 _ _, _, _, _, _⟩ :: _) _ _; go_must (refine wpList_store_list rfl 111 _ _ rfl (Lk + 1) 0 (U H0.l) rfl rfl ht5.out hi8.out ho8.out ?_); intro w6 hw6; replace hw6 := hid hw6; have hs6 : w6.heap.size = Lk + 2 := (by rw [hw6.out, setCells_size]; exact hs5); have H4 := hid (show Below L w w4 by rw [hw4.out]; exact below_setCells (by omega) _ _ (Hb2.out.trans (hb3.out.mono (by omega)))); have H6 := hid (show Below L w w6 by rw [hw6.out]; exact below_setCells (by omega) _ _ (H4.out.trans (hb5.out.mono (by omega)))); have HO6 := hid (show Owns (w6.alloc (.cells #[] 5)) 5 (Lk + 2) 0 0 [] by have := Owns.empty w6 5; rw [hs6] at this; exact this); have HR6 := hid (show Reads (w6.alloc (.cells #[] 5)) (.slice ao bl cap) (B m) from HRd.out.later (by rw [hL]; exact H6.out.alloc (by omega) _)))
    | (show wpList _ _ _ (⟨some 27, _, _, _, _, _⟩ :: _) _ _; go_must (refine wpList_append_src _ rfl _ _ 22 22 rfl 5 i0 (.int .u8 0) Tryd.underlying22 hi hz0 hz1 hz2 rfl (Lk + 2) 0 0 [] rfl HO6.out _ bl _ rfl (Src.ofBytes _ Tryd.underlying22 HBL.out HR6.out) (by omega) ?_); intro g7 cap7 w7 hG7; replace hG7 := hid hG7; have H7 := hid (show Below (Lk + 2) w6 w7 from hG7.out.below ((Below.refl _ _).alloc (by omega) _) (Nat.le_refl _)); have HH7 := hid (show Has w7 5 (Lk + 2) (.slice (some ⟨g7, 0, none⟩) bl cap7) bl (B m) from .inr ⟨g7, cap7, rfl, grew_ge hG7.out (Nat.le_refl _) (by simp; omega), (by have h := hG7.out.own; rw [Nat.zero_add, List.nil_append] at h; exact h)⟩); have hs7 := H7.out.size)
    | (show wpList _ _ _ (⟨some 30, _, _, _, _, _⟩ :: _) _ _; go_must (refine wpList_append_has _ rfl _ _ 22 22 rfl 5 i0 (.int .u8 0) Tryd.underlying22 hi hz0 hz1 hz2 rfl (Lk + 2) _ bl _ rfl (HH7.out.alloc _) (by simp; omega) _ 1 _ rfl (Src.ofSlice _ Tryd.underlying22 ⟨w7.heap.size, 0, none⟩ 1 1 [_] rfl (cell_one_new _ _ _) (by intro u hu; simp at hu; subst hu; rfl)) (by omega) (by omega) ?_); intro v8 w8 hH8 hb8; replace hH8 := hid hH8; replace hb8 := hid hb8))
  have H8 := hid (show Below (Lk + 2) w6 w8 from (H7.out.alloc (by omega) _).trans hb8.out)
  have hs8 := H8.out.size
  have HB6 := hid (show Blk w6 26 L (B (List.replicate 32 0)) by
    rw [hw6.out]
    refine Blk.kept ?_ (setCells_heap (by omega) _ _ _)
    refine Blk.kept ?_ (hb5.out.block L (by omega))
    rw [hw4.out]
    refine Blk.kept ?_ (setCells_heap (by omega) _ _ _)
    exact HB2.out.kept (hb3.out.block L (by omega)))
  have HK6 := hid (show Blk w6 109 Lk (U K) by
    rw [hw6.out]
    refine Blk.kept ?_ (setCells_heap (by omega) _ _ _)
    refine Blk.kept ?_ (hb5.out.block Lk (by omega))
    rw [hw4.out, HE.out]
    have := Blk.setCells (t := 109) (g := Lk) us [] (U (List.replicate 64 0)) [] (w := w3) (o := 0) (by rw [List.nil_append, List.append_nil]; exact hB3.out) (by rw [U_length, List.length_replicate, HUL.out]) rfl
    rw [List.nil_append, List.append_nil] at this
    exact this)
  have HS6 := hid (show Blk w6 111 (Lk + 1) (U H0.l) by
    rw [hw6.out]
    have := Blk.setCells (t := 111) (g := Lk + 1) (U H0.l) [] (U (List.replicate 8 0)) [] (w := w5) (o := 0) (by rw [List.nil_append, List.append_nil]; exact hB5.out) (by rw [U_length, U_length, S8.len, List.length_replicate]) rfl
    rw [List.nil_append, List.append_nil] at this
    exact this)
  obtain ⟨at5, ct, hf8⟩ := hH8.out.form
  subst hf8
  have HH8 := hid (show Has w8 5 (Lk + 2) (.slice at5 (bl + 1) ct) (bl + 1) (B (m ++ [128] ++ List.replicate 0 0)) by
    have h := hH8.out
    rw [show B (m ++ [128] ++ List.replicate 0 0) = B m ++ [Value.int .u8 128] by simp [B]]
    exact h)
  clear hB3 hb3 ht3 hw4 hs4 hB5 hb5 ht5 hw6 hG7 HO6 HR6 HH7 H7 hH8 hb8 HB2 Hb2 hiK hoK hi8 ho8 HE HUL H4 hs3 hs5 hs7
  go_wp2_with fail
  refine ref0 ao bl cap L Lk (Lk + 1) (Lk + 2) m (by have := HBL.out; omega) w8 (by omega) _ ?ex0 _ _ ⟨0, at5, bl + 1, ct, by kernel_rfl, by have := HBL.out; omega, by omega, HH8.out, Below.refl _ _⟩
  case ex0 =>
    rintro a9 w9 ⟨at5, n5, ct, ha9, hn9, hH9, hb9⟩
    obtain ⟨f, hf⟩ : ∃ f : Nat → Value, a9 = ⟨#[.slice ao bl cap, f 1, .pointer (some ⟨L, 0, none⟩), .pointer (some ⟨Lk, 0, none⟩), .pointer (some ⟨Lk + 1, 0, none⟩), .slice at5 n5 ct, f 6, f 7, f 8, f 9, f 10, f 11, f 12, f 13, f 14, f 15, f 16, f 17, f 18, f 19, f 20, f 21, f 22, f 23, f 24, f 25, f 26, f 27, f 28, f 29, f 30, f 31, f 32, f 33, f 34, f 35, f 36, f 37, f 38, f 39, f 40, f 41, f 42, f 43, f 44, f 45, f 46, f 47, f 48, f 49, f 50, f 51, f 52, f 53, f 54, f 55, f 56, f 57, f 58, f 59, f 60, f 61, f 62, f 63, f 64, f 65, f 66, f 67, f 68, f 69, f 70, f 71, f 72, f 73, f 74, f 75, f 76, f 77, f 78, f 79, f 80, f 81, f 82, f 83, f 84, f 85, f 86, f 87, f 88, f 89, f 90, f 91, f 92, f 93, f 94, f 95, f 96, f 97, f 98, f 99, f 100, f 101, f 102, f 103, f 104, f 105, f 106, f 107, f 108, f 109, f 110, f 111, f 112, f 113, f 114, f 115, f 116, f 117, f 118, f 119, f 120, f 121, f 122, f 123, f 124, f 125, f 126, f 127, f 128, f 129, f 130, f 131, f 132, f 133, f 134, f 135, f 136, f 137, f 138, f 139, f 140, f 141, f 142, f 143, f 144, f 145, f 146, f 147, f 148, f 149, f 150, f 151, f 152, f 153, f 154, f 155, f 156, f 157, f 158, f 159, f 160, f 161, f 162, f 163, f 164, f 165, f 166, f 167, f 168, f 169, f 170, f 171, f 172, f 173, f 174, f 175, f 176, f 177, f 178, f 179, f 180, f 181, f 182, f 183, f 184, f 185, f 186, f 187, f 188, f 189, f 190, f 191, f 192, f 193, f 194, f 195, f 196, f 197, f 198, f 199, f 200, f 201, f 202, f 203, f 204, f 205, f 206, f 207, f 208, f 209, f 210, f 211, f 212, f 213, f 214, f 215, f 216, f 217, f 218, f 219, f 220, f 221, f 222, f 223, f 224, f 225, f 226, f 227, f 228, f 229, f 230, f 231, f 232, f 233, f 234, f 235, f 236, f 237, f 238, f 239, f 240, f 241, f 242, f 243, f 244, f 245, f 246, f 247, f 248, f 249, f 250, f 251, f 252, f 253, f 254, f 255, f 256, f 257, f 258, f 259, f 260, f 261, f 262, f 263, f 264, f 265, f 266, f 267, f 268, f 269, f 270, f 271, f 272, f 273, f 274, f 275, f 276, f 277], []⟩ := ⟨fun j => a9.tmps.getD j undef, ha9⟩
    clear ha9
    subst hf
    have HH9 := hid hH9
    have H9 := hid (H8.out.trans hb9)
    have hs9 := hb9.size
    have Hn9 := hid hn9
    have hn5 : n5 ≤ 20000 := by have := HBL.out; omega
    clear hH9 hb9 hn9
    obtain ⟨pre, hpre⟩ : ∃ pre, m ++ [128] ++ List.replicate ((120 - (m.length + 1) % 64) % 64) 0 = pre := ⟨_, rfl⟩
    rw [hpre] at HH9
    have Hpre := hid hpre
    clear hpre
    go_wp2_with fail
    refine ref1 ao bl cap L Lk (Lk + 1) (Lk + 2) (bl * 8) n5 (by omega) pre hn5 w9 (by omega) _ ?ex1 _ _ ⟨8, pre, at5, n5, ct, by kernel_rfl, rfl, Nat.le_refl _, rfl, HH9.out, Below.refl _ _⟩
    case ex1 =>
      rintro a10 w10 ⟨at10, n10, ct, ha10, hn10, hH10, hb10⟩
      obtain ⟨f, hf⟩ : ∃ f : Nat → Value, a10 = ⟨#[.slice ao bl cap, f 1, .pointer (some ⟨L, 0, none⟩), .pointer (some ⟨Lk, 0, none⟩), .pointer (some ⟨Lk + 1, 0, none⟩), .slice at10 n10 ct, .int .u64 ((bl * 8 : Nat) : Int), f 7, f 8, f 9, f 10, f 11, f 12, f 13, f 14, f 15, f 16, f 17, f 18, f 19, f 20, f 21, f 22, f 23, f 24, f 25, f 26, f 27, f 28, f 29, f 30, f 31, f 32, f 33, f 34, f 35, f 36, f 37, f 38, f 39, f 40, f 41, f 42, f 43, f 44, f 45, f 46, f 47, f 48, f 49, f 50, f 51, f 52, f 53, f 54, f 55, f 56, f 57, f 58, f 59, f 60, f 61, f 62, f 63, f 64, f 65, f 66, f 67, f 68, f 69, f 70, f 71, f 72, f 73, f 74, f 75, f 76, f 77, f 78, f 79, f 80, f 81, f 82, f 83, f 84, f 85, f 86, f 87, f 88, f 89, f 90, f 91, f 92, f 93, f 94, f 95, f 96, f 97, f 98, f 99, f 100, f 101, f 102, f 103, f 104, f 105, f 106, f 107, f 108, f 109, f 110, f 111, f 112, f 113, f 114, f 115, f 116, f 117, f 118, f 119, f 120, f 121, f 122, f 123, f 124, f 125, f 126, f 127, f 128, f 129, f 130, f 131, f 132, f 133, f 134, f 135, f 136, f 137, f 138, f 139, f 140, f 141, f 142, f 143, f 144, f 145, f 146, f 147, f 148, f 149, f 150, f 151, f 152, f 153, f 154, f 155, f 156, f 157, f 158, f 159, f 160, f 161, f 162, f 163, f 164, f 165, f 166, f 167, f 168, f 169, f 170, f 171, f 172, f 173, f 174, f 175, f 176, f 177, f 178, f 179, f 180, f 181, f 182, f 183, f 184, f 185, f 186, f 187, f 188, f 189, f 190, f 191, f 192, f 193, f 194, f 195, f 196, f 197, f 198, f 199, f 200, f 201, f 202, f 203, f 204, f 205, f 206, f 207, f 208, f 209, f 210, f 211, f 212, f 213, f 214, f 215, f 216, f 217, f 218, f 219, f 220, f 221, f 222, f 223, f 224, f 225, f 226, f 227, f 228, f 229, f 230, f 231, f 232, f 233, f 234, f 235, f 236, f 237, f 238, f 239, f 240, f 241, f 242, f 243, f 244, f 245, f 246, f 247, f 248, f 249, f 250, f 251, f 252, f 253, f 254, f 255, f 256, f 257, f 258, f 259, f 260, f 261, f 262, f 263, f 264, f 265, f 266, f 267, f 268, f 269, f 270, f 271, f 272, f 273, f 274, f 275, f 276, f 277], []⟩ := ⟨fun j => a10.tmps.getD j undef, ha10⟩
      clear ha10
      subst hf
      have hfill : pre ++ be 8 (bl * 8) = fill m := by
        rw [← Hpre.out, fill, HBL.out, show bl * 8 % 18446744073709551616 = bl * 8 by omega]
      rw [hfill] at hH10
      have hlen : (fill m).length = n10 := by
        have := hH10.len
        rwa [B_length] at this
      obtain ⟨gt, hgt, hB10, hO10⟩ : ∃ gt, at10 = some ⟨gt, 0, none⟩ ∧ Lk + 2 ≤ gt ∧ Owns w10 5 gt ct n10 (B (fill m)) := by
        rcases hH10 with ⟨h, h', _⟩ | ⟨gt, c, h, h1, h2⟩
        · omega
        · injection h with e1 e2 e3
          subst e1
          subst e3
          exact ⟨gt, rfl, h1, h2⟩
      subst hgt
      have hn64 : n10 % 64 = 0 := by rw [← hlen]; exact fill_len m
      have H10 := hid (show Below (Lk + 2) w6 w10 from H9.out.trans hb10)
      have hs10 := hb10.size
      have HO10 := hid hO10
      have Hlen := hid hlen
      have hgl := hO10.lt
      have hn10' : n10 ≤ 100000 := by omega
      obtain ⟨Lw, hLw⟩ : ∃ Lw, w10.heap.size = Lw := ⟨_, rfl⟩
      have dgt : gt < Lw := by omega
      clear hH10 hb10 hO10 hlen hfill HH9 H9 Hpre hn10 Hn9
      go_wp2_with (show wpList _ _ _ (⟨some 8, Op.alloc _, _, _, _, _⟩ :: _) _ _; go_must (refine wpList_alloc_blk rfl 109 rfl _ zero64 Lw hLw ?_); intro w11 hB11 hb11 hs11; replace hB11 := hid hB11; replace hb11 := hid hb11)
      refine ref2 L Lk (Lk + 1) gt n10 ct Lw (fill m) w hn64 hn10' dLk (by omega) (by omega) dgt _ ?ex2 _ _ ⟨0, 0, List.replicate 64 0, by kernel_rfl, rfl, Nat.zero_le _,
        { out := (HB6.out.kept (H10.out.block L (by omega))).kept (hb11.out.block L (by omega))
          k := (HK6.out.kept (H10.out.block Lk (by omega))).kept (hb11.out.block Lk (by omega))
          s := (HS6.out.kept (H10.out.block (Lk + 1) (by omega))).kept (hb11.out.block (Lk + 1) (by omega))
          wl := List.length_replicate
          wd := hB11.out
          t := HO10.out.kept (hb11.out.block gt (by omega))
          b := (H6.out.trans (H10.out.mono (by omega))).trans (hb11.out.mono (by omega)) }⟩
      case ex2 =>
        rintro a12 w12 ⟨ws, ha12, R⟩
        obtain ⟨f, hf⟩ : ∃ f : Nat → Value, a12 = ⟨#[f 0, f 1, .pointer (some ⟨L, 0, none⟩), .pointer (some ⟨Lk, 0, none⟩), .pointer (some ⟨Lk + 1, 0, none⟩), .slice (some ⟨gt, 0, none⟩) n10 ct, f 6, f 7, .pointer (some ⟨Lw, 0, none⟩), f 9, f 10, f 11, f 12, f 13, f 14, f 15, f 16, f 17, f 18, f 19, f 20, f 21, f 22, f 23, f 24, f 25, f 26, f 27, f 28, f 29, f 30, f 31, f 32, f 33, f 34, f 35, f 36, f 37, f 38, f 39, f 40, f 41, f 42, f 43, f 44, f 45, f 46, f 47, f 48, f 49, f 50, f 51, f 52, f 53, f 54, f 55, f 56, f 57, f 58, f 59, f 60, f 61, f 62, f 63, f 64, f 65, f 66, f 67, f 68, f 69, f 70, f 71, f 72, f 73, f 74, f 75, f 76, f 77, f 78, f 79, f 80, f 81, f 82, f 83, f 84, f 85, f 86, f 87, f 88, f 89, f 90, f 91, f 92, f 93, f 94, f 95, f 96, f 97, f 98, f 99, f 100, f 101, f 102, f 103, f 104, f 105, f 106, f 107, f 108, f 109, f 110, f 111, f 112, f 113, f 114, f 115, f 116, f 117, f 118, f 119, f 120, f 121, f 122, f 123, f 124, f 125, f 126, f 127, f 128, f 129, f 130, f 131, f 132, f 133, f 134, f 135, f 136, f 137, f 138, f 139, f 140, f 141, f 142, f 143, f 144, f 145, f 146, f 147, f 148, f 149, f 150, f 151, f 152, f 153, f 154, f 155, f 156, f 157, f 158, f 159, f 160, f 161, f 162, f 163, f 164, f 165, f 166, f 167, f 168, f 169, f 170, f 171, f 172, f 173, f 174, f 175, f 176, f 177, f 178, f 179, f 180, f 181, f 182, f 183, f 184, f 185, f 186, f 187, f 188, f 189, f 190, f 191, f 192, f 193, f 194, f 195, f 196, f 197, f 198, f 199, f 200, f 201, f 202, f 203, f 204, f 205, f 206, f 207, f 208, f 209, f 210, f 211, f 212, f 213, f 214, f 215, f 216, f 217, f 218, f 219, f 220, f 221, f 222, f 223, f 224, f 225, f 226, f 227, f 228, f 229, f 230, f 231, f 232, f 233, f 234, f 235, f 236, f 237, f 238, f 239, f 240, f 241, f 242, f 243, f 244, f 245, f 246, f 247, f 248, f 249, f 250, f 251, f 252, f 253, f 254, f 255, f 256, f 257, f 258, f 259, f 260, f 261, f 262, f 263, f 264, f 265, f 266, f 267, f 268, f 269, f 270, f 271, f 272, f 273, f 274, f 275, f 276, f 277], []⟩ := ⟨fun j => a12.tmps.getD j undef, ha12⟩
        clear ha12
        subst hf
        obtain ⟨l, hl⟩ : ∃ l, (runS (fill m) (n10 / 64)).l = l := ⟨_, rfl⟩
        have hll : l.length = 8 := by rw [← hl]; exact S8.len _
        have hsha : shaS m = bytesOf l := by rw [shaS, Hlen.out, hl]; rfl
        have hS12 : Blk w12 111 (Lk + 1) (U l) := by have h := R.s; rw [hl] at h; exact h
        have hO12 := R.out
        have hb12 := R.b
        have lo := hO12.lt
        have lsl := hS12.lt
        have HS12 := hid hS12
        have HO12 := hid hO12
        have Hb12 := hid hb12
        have Hsha := hid hsha
        have Hll := hid hll
        obtain ⟨Lo, hLo⟩ : ∃ Lo, w12.heap.size = Lo := ⟨_, rfl⟩
        clear R hl hll hsha hS12 hO12 hb12 H10 HB6 HK6 HS6 H6 HO10 hB11 hb11 H8
        go_wp2_with (show wpList _ _ _ (⟨some 21, Op.alloc _, _, _, _, _⟩ :: _) _ _; go_must (refine wpList_alloc_blk rfl 26 rfl _ zeroHash Lo hLo ?_); intro w13 hB13 hb13 hs13; replace hB13 := hid hB13; replace hb13 := hid hb13)
        refine ref7 L (Lk + 1) Lo l Hll.out w13 (HS12.out.kept (hb13.out.block _ (by omega))) (by omega) _ ?ex7 _ _ ⟨0, List.replicate 32 0, by kernel_rfl, by omega, by rw [List.length_replicate], hB13.out, World.grownBy.refl _ _⟩
        case ex7 =>
          rintro a14 w14 ⟨ha14, hB14, hg14⟩
          obtain ⟨f, hf⟩ : ∃ f : Nat → Value, a14 = ⟨#[f 0, f 1, .pointer (some ⟨L, 0, none⟩), f 3, .pointer (some ⟨Lk + 1, 0, none⟩), f 5, f 6, f 7, f 8, f 9, f 10, f 11, f 12, f 13, f 14, f 15, f 16, f 17, f 18, f 19, f 20, .pointer (some ⟨Lo, 0, none⟩), f 22, f 23, f 24, f 25, f 26, f 27, f 28, f 29, f 30, f 31, f 32, f 33, f 34, f 35, f 36, f 37, f 38, f 39, f 40, f 41, f 42, f 43, f 44, f 45, f 46, f 47, f 48, f 49, f 50, f 51, f 52, f 53, f 54, f 55, f 56, f 57, f 58, f 59, f 60, f 61, f 62, f 63, f 64, f 65, f 66, f 67, f 68, f 69, f 70, f 71, f 72, f 73, f 74, f 75, f 76, f 77, f 78, f 79, f 80, f 81, f 82, f 83, f 84, f 85, f 86, f 87, f 88, f 89, f 90, f 91, f 92, f 93, f 94, f 95, f 96, f 97, f 98, f 99, f 100, f 101, f 102, f 103, f 104, f 105, f 106, f 107, f 108, f 109, f 110, f 111, f 112, f 113, f 114, f 115, f 116, f 117, f 118, f 119, f 120, f 121, f 122, f 123, f 124, f 125, f 126, f 127, f 128, f 129, f 130, f 131, f 132, f 133, f 134, f 135, f 136, f 137, f 138, f 139, f 140, f 141, f 142, f 143, f 144, f 145, f 146, f 147, f 148, f 149, f 150, f 151, f 152, f 153, f 154, f 155, f 156, f 157, f 158, f 159, f 160, f 161, f 162, f 163, f 164, f 165, f 166, f 167, f 168, f 169, f 170, f 171, f 172, f 173, f 174, f 175, f 176, f 177, f 178, f 179, f 180, f 181, f 182, f 183, f 184, f 185, f 186, f 187, f 188, f 189, f 190, f 191, f 192, f 193, f 194, f 195, f 196, f 197, f 198, f 199, f 200, f 201, f 202, f 203, f 204, f 205, f 206, f 207, f 208, f 209, f 210, f 211, f 212, f 213, f 214, f 215, f 216, f 217, f 218, f 219, f 220, f 221, f 222, f 223, f 224, f 225, f 226, f 227, f 228, f 229, f 230, f 231, f 232, f 233, f 234, f 235, f 236, f 237, f 238, f 239, f 240, f 241, f 242, f 243, f 244, f 245, f 246, f 247, f 248, f 249, f 250, f 251, f 252, f 253, f 254, f 255, f 256, f 257, f 258, f 259, f 260, f 261, f 262, f 263, f 264, f 265, f 266, f 267, f 268, f 269, f 270, f 271, f 272, f 273, f 274, f 275, f 276, f 277], []⟩ := ⟨fun j => a14.tmps.getD j undef, ha14⟩
          clear ha14
          subst hf
          rw [← Hsha.out] at hB14
          obtain ⟨bs, hbs⟩ : ∃ bs, B (shaS m) = bs := ⟨_, rfl⟩
          rw [hbs] at hB14
          have hbl : bs.length = 32 := by rw [← hbs, B_length, shaS_len]
          have ho := hid (show ∀ v ∈ bs, v.oneCell' = true by rw [← hbs]; exact B_one _)
          have hi32 := hid (show (Tryd.prog.info? 26).map (·.size) = some bs.length by rw [hbl]; kernel_rfl)
          have hr14 := hid (show w14.rangeAt Lo 0 bs from hB14.range fun j v hv => by rw [Nat.zero_add]; exact hv)
          have ht14 := hid (show w14.there L 0 bs.length from Blk.there ((HO12.out.kept (hb13.out.block L (by omega))).kept (hg14.block L (by omega) (by intro e; injection e; omega))) (by rw [B_length, List.length_replicate, hbl]; omega))
          have Hb14 := hid (show Below L w w14 from (Hb12.out.trans (hb13.out.mono (by omega))).trans (grown_below hg14 L (by intro k hk; cases hk; omega) (by omega)))
          have HE := hid hbs
          clear hbs hbl hB14 hg14 hb13 hB13
          go_wp2_with (first
            | (show wpList _ _ _ (⟨some 277, Op.load _ _, _, _, _, _⟩ :: _) _ _; go_must (refine wpList_load_mid rfl 26 _ rfl Lo 0 rfl bs _ hr14.out Tryd.underlying26 rfl hi32.out ?_))
            | (show wpList _ _ _ (⟨none, Op.store _ _ _, _, _, _, _⟩ :: _) _ _; go_must (refine wpList_store_list rfl 26 _ _ rfl L 0 bs rfl rfl ht14.out hi32.out ho.out ?_); intro w15 hw15; replace hw15 := hid hw15))
          refine ret_cell 2 26 rfl L rfl bs _ ?_ Tryd.underlying26 rfl hi32.out rfl ⟨by rw [HE.out], ?_⟩
          · rw [hw15.out]
            exact World.rangeAt_setCells_same w14 L 0 bs ht14.out
          · rw [hw15.out, hL]
            exact below_setCells (Nat.le_refl _) _ _ Hb14.out
end Go.Proofs.YtinifnpajkldbaaDoor

/- What a law's frame needs: the two tables as the program lays them, and an array of bytes that came in. -/
namespace Go.Proofs.YtinifnpajkldbaaDoor
open Go.ChangeShapes Go.WideShapes Go.ChangeAt Go.RowKit
set_option linter.unusedSimpArgs false
set_option linter.unusedVariables false

theorem lawOwn : ownKnob Tryd.prog.godebug = none := by kernel_rfl
theorem laidOut : laidOutB Tryd.prog = true := by kernel_rfl
def laid2 : List (String × DataW Unit) := [("comitia/sha.begin", Rows.laid_comitia_sha_begin), ("comitia/sha.keys", Rows.laid_comitia_sha_keys)]
theorem door_met (os : Os) (args : Array Value) : laidMetH Tryd.prog laid2 ((World.doorLaid Tryd.prog 400 os).forCall (fun _ _ => 0) ⟨#[], args, []⟩).memory :=
  laidMetH_of_parts3 (fuel := 8) (laidMet_of_run' 8 (by kernel_rfl) (by kernel_rfl)) (by kernel_rfl) (by kernel_rfl)

def beginZ : List Int := H0.l.map nt
def keysZ : List Int := K.map nt
theorem begin_tab : (Rows.laid_comitia_sha_begin : DataW Unit) = Lib.tabData .u32 beginZ := by kernel_rfl
theorem keys_tab : (Rows.laid_comitia_sha_keys : DataW Unit) = Lib.tabData .u32 keysZ := by kernel_rfl
theorem gBegin : Tryd.prog.globalNamed "comitia/sha.begin" = some 0 := by kernel_rfl
theorem gKeys : Tryd.prog.globalNamed "comitia/sha.keys" = some 1 := by kernel_rfl
theorem tBegin : (Tryd.prog.globals[0]?).map (·.type) = some 111 := by kernel_rfl
theorem tKeys : (Tryd.prog.globals[1]?).map (·.type) = some 109 := by kernel_rfl

theorem range_of_tab {W : World} {name : String} {g : Nat} {zs : List Int} {l : List UInt32} (h : Lib.TabIs Tryd.prog W name .u32 zs) (hg : Tryd.prog.globalNamed name = some g) (hl : zs = l.map nt) : W.rangeAt g 0 (U l) := by
  intro j v hv
  have := World.var?_cell hg h j
  rw [Nat.zero_add, this]
  subst hl
  unfold U at hv
  simpa using hv

theorem tabs_of_laid {W : World} (h : laidMetH Tryd.prog laid2 W) : Tabs W := by
  rw [MakeChecks.laidMetH_plain _ _ _ (by kernel_rfl)] at h
  unfold laid2 at h
  rw [begin_tab, keys_tab] at h
  have h1 := Lib.tabIs_of_head gBegin tBegin Tryd.underlying111 Tryd.underlying108 (by kernel_rfl) (by kernel_rfl) h
  have h2 := Lib.tabIs_of_head gKeys tKeys Tryd.underlying109 Tryd.underlying108 (by kernel_rfl) (by kernel_rfl) (laidMet.tail h)
  exact ⟨range_of_tab h1 gBegin rfl, range_of_tab h2 gKeys rfl⟩

set_option maxRecDepth 100000 in
/-- A sum that came in: its bytes. -/
theorem open_hash {H : Type} {enc : TypeId × Value → H} {W : World} {base b0 : Nat} {sp : Nat → Bool} {held : Bool} {r : Reach} {v : Value} {d : DataW H} {p : List MemPlace}
    (hv : Value.okWide Tryd.prog W r b0 26 v) (h : DataW.Trod enc Tryd.prog W base sp held 26 v d p) : ∃ l : List UInt8, l.length = 32 ∧ v = .agg (B l).toArray := by
  have hu := Tryd.underlying26
  simp only [Value.okWide, hu] at hv
  obtain ⟨cs, rfl, hs, _⟩ := hv
  have hs' : cs.size = 32 := by rw [hs]; kernel_rfl
  obtain ⟨fuel, hf⟩ := h
  obtain ⟨xs, m, _, _, hl, hn, hel⟩ := DataW.trod_array hu hf
  have c1 : Tryd.prog.cellsOf 5 = 1 := by kernel_rfl
  refine ⟨cs.toList.map fun v => match v with | .int _ n => UInt8.ofNat n.toNat | _ => 0, by simp [hs'], ?_⟩
  congr 1
  apply Array.ext'
  apply List.ext_getElem?
  intro i
  by_cases hi : i < 32
  · have := hel i hi
    rw [c1, Nat.mul_one] at this
    have hx : xs[i]? = some xs[i] := List.getElem?_eq_getElem (by omega)
    rw [hx] at this
    obtain ⟨n, e1, _, hw⟩ := DataW.trod_int Tryd.underlying5 this
    have hci : cs.toList[i]? = some (.int .u8 n) := by
      have := congrArg (·[0]?) e1
      simpa [List.getElem?_take, List.getElem?_drop, Value.cells] using this
    rw [hci]
    have hb := bounds_u8 hw
    simp only [B, List.map_map, List.getElem?_map, hci, Option.map_some, Function.comp]
    rw [UInt8.toNat_ofNat']
    congr 2
    omega
  · rw [List.getElem?_eq_none (by simp; omega), List.getElem?_eq_none (by simp [B]; omega)]
end Go.Proofs.YtinifnpajkldbaaDoor

/- Sums compared, and a row of bytes that is written to. -/
namespace Go.Proofs.YtinifnpajkldbaaDoor
open Go.RowKit
set_option linter.unusedSimpArgs false
set_option linter.unusedVariables false

theorem eqH (l : List UInt8) (hl : l.length = 32) (w : World) : (Op.equalIn 10000 26 (.agg (B l).toArray) (.agg (B l).toArray)).run Tryd.prog w = .ok true w := by
  have h := run_equalIn_bytes (P := Tryd.prog) w 9998 26 5 32 Tryd.underlying26 Tryd.underlying5 Tryd.sizeByte l l hl hl
  rw [show (l == l) = true by simp] at h
  exact h

theorem u8_val (v : Int) (h0 : 0 ≤ v) (h1 : v < 256) : Value.int .u8 v = Value.int .u8 (UInt8.ofNat v.toNat).toNat := by
  rw [UInt8.toNat_ofNat']
  congr 1
  omega

theorem Owns.setByte {w : World} {e : TypeId} {g cap n : Nat} {l : List UInt8} (h : Owns w e g cap n (B l)) (j : Nat) (v : Int) (h0 : 0 ≤ v) (h1 : v < 256) :
    Owns (w.setCell ⟨g, j, none⟩ (.int .u8 v)) e g cap n (B (l.set j (UInt8.ofNat v.toNat))) := by
  obtain ⟨l1, l2, l3, cur, hg, h4, h5⟩ := h
  rw [setCell_eq_setRow w g j cur e (0, 0) _ hg, u8_val v h0 h1]
  refine ⟨by rw [B_length, List.length_set]; rw [B_length] at l1; exact l1, l2, l3, _, setRow_heap w g cur _ e _ hg, by rw [Array.size_setIfInBounds]; exact h4, ?_⟩
  rw [Array.toList_setIfInBounds, List.take_set, h5]
  simp [B, List.map_set]
end Go.Proofs.YtinifnpajkldbaaDoor

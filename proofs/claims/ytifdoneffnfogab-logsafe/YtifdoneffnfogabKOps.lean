/- The contracts of package disk's New, Append, Cut. -/
import Derived.Test.YtifdoneffnfogabKSt
import Derived.Test.YtifdoneffnfogabMakeB
import Derived.Test.YtifdoneffnfogabByteI
import Derived.Test.YtifdoneffnfogabJump
namespace Go.Proofs.Ytifdoneffnfogab
open Go.RowKit
set_option linter.unusedSimpArgs false
set_option linter.unusedVariables false

theorem run_store_complex {P : Program} {w : World} {a : Addr} {m : Mode} (k : FloatKind) (x y : Nat) : (store a (.complex k x y) m).run P w = stored P w a (.complex k x y) m := run_store P w a _ m rfl
attribute [local go_sem] run_store_complex
/-- The room behind a place. -/
theorem room_cut (r R e : Nat) (he : e ≤ R) : ∃ off, (e ≠ R → off = e) ∧ ∀ wx, (Instr.slice 31 (.slice (some ⟨r, 0, none⟩) R R) (some (.int .i64 (e : Int))) none none).run Try.prog wx = .ok (.slice (some ⟨r, off, none⟩) (R - e) (R - e)) wx := by
  by_cases h0 : R = e
  · subst h0
    refine ⟨0, fun h => absurd rfl h, fun wx => ?_⟩
    rw [Nat.sub_self]
    go_simp
  · refine ⟨e, fun _ => rfl, fun wx => ?_⟩
    go_simp

/-- What New answers. -/
def KNewR (n : Int) (w : World) (e : Ending) (w' : World) : Prop := ∃ d r, e = .returned (.pointer (some ⟨d, 0, none⟩)) ∧ DK w' d r (Dk.new n) ∧ w.heap.size ≤ d ∧ w.heap.size ≤ r ∧ Below w.heap.size w w'

theorem knew_lies (n : Int) (k N : Nat) (w w1 w2 : World) (hN : w.heap.size = N) (hk : (Dk.new n).size = k) (h1 : Blk w1 5 N (B (List.replicate k 0))) (hb1 : Below N w w1) (h2 : Blk w2 40 (N + 1) [.slice (some ⟨N, 0, none⟩) k k, st 0 0, .int .i64 0, .bool false]) (hb2 : Below (N + 1) w1 w2) :
    DK w2 (N + 1) N (Dk.new n) ∧ w.heap.size ≤ N + 1 ∧ w.heap.size ≤ N ∧ Below w.heap.size w w2 := by
  refine ⟨⟨?_, ⟨List.replicate k 0, ?_, ?_⟩, Dk.new_ok n, by omega⟩, by omega, by omega, by rw [hN]; exact hb1.trans (hb2.mono (by omega))⟩
  · show Blk _ _ _ [.slice _ (Dk.new n).size (Dk.new n).size, _, _, _]
    rw [hk]
    exact h2
  · show Blk w2 _ N (B ([] ++ List.replicate k 0))
    rw [List.nil_append]
    exact h1.kept (hb2.block N (by omega))
  · show 0 + (List.replicate k (0 : UInt8)).length = (Dk.new n).size
    rw [hk, List.length_replicate]; omega

set_option maxRecDepth 100000 in
set_option maxHeartbeats 1000000 in
theorem kNew_any (n : Int) (w : World) : Calls Try.prog 5 #[.int .i64 n] w (KNewR n w) := by
  obtain ⟨i0, hi, hz0, hz1, hz2⟩ := info_parts Try.infoByte
  obtain ⟨N, hN⟩ : ∃ N, w.heap.size = N := ⟨_, rfl⟩
  by_cases h0 : n < 0
  · have hk : (Dk.new n).size = 0 := by show (max 0 (min n 65536)).toNat = _; omega
    have HK := hid hk
    clear hk
    go_enter Try.func5, Try.ntmps5
    go_wp2_with (first
      | (at_make; go_must (refine wpList_make_blk rfl _ _ 31 rfl 5 i0 Try.underlying31 hi hz0 hz1 hz2 .i64 .i64 0 rfl rfl (by omega) N hN ?_); intro w1 hB1 hb1 hs1; have HB1 := hid hB1; have Hb1 := hid hb1; clear hB1 hb1)
      | (show wpList _ _ _ (⟨some 8, Op.box _ _, _, _, _, _⟩ :: _) _ _; go_must (refine wpList_box_blk rfl 40 _ rfl [.slice (some ⟨N, 0, none⟩) 0 0, st 0 0, .int .i64 0, .bool false] rfl (N + 1) hs1 ?_); intro w2 hB2 hb2 hs2; have HB2 := hid hB2; have Hb2 := hid hb2; clear hB2 hb2))
    go_ret
    exact ⟨N + 1, N, rfl, knew_lies n 0 N w w1 w2 hN HK.out HB1.out Hb1.out HB2.out Hb2.out⟩
  by_cases h1 : 65536 < n
  · have hk : (Dk.new n).size = 65536 := by show (max 0 (min n 65536)).toNat = _; omega
    have HK := hid hk
    clear hk
    go_enter Try.func5, Try.ntmps5
    go_wp2_with (first
      | (at_make; go_must (refine wpList_make_blk rfl _ _ 31 rfl 5 i0 Try.underlying31 hi hz0 hz1 hz2 .i64 .i64 65536 rfl rfl (by omega) N hN ?_); intro w1 hB1 hb1 hs1; have HB1 := hid hB1; have Hb1 := hid hb1; clear hB1 hb1)
      | (show wpList _ _ _ (⟨some 8, Op.box _ _, _, _, _, _⟩ :: _) _ _; go_must (refine wpList_box_blk rfl 40 _ rfl [.slice (some ⟨N, 0, none⟩) 65536 65536, st 0 0, .int .i64 0, .bool false] rfl (N + 1) hs1 ?_); intro w2 hB2 hb2 hs2; have HB2 := hid hB2; have Hb2 := hid hb2; clear hB2 hb2))
    go_ret
    exact ⟨N + 1, N, rfl, knew_lies n 65536 N w w1 w2 hN HK.out HB1.out Hb1.out HB2.out Hb2.out⟩
  obtain ⟨k, rfl⟩ : ∃ k : Nat, n = (k : Int) := ⟨n.toNat, by omega⟩
  have hk : (Dk.new k).size = k := by show (max 0 (min (k : Int) 65536)).toNat = _; omega
  have HK := hid hk
  clear hk
  go_enter Try.func5, Try.ntmps5
  go_wp2_with (first
    | (at_make; go_must (refine wpList_make_blk rfl _ _ 31 rfl 5 i0 Try.underlying31 hi hz0 hz1 hz2 .i64 .i64 k rfl rfl (by omega) N hN ?_); intro w1 hB1 hb1 hs1; have HB1 := hid hB1; have Hb1 := hid hb1; clear hB1 hb1)
    | (show wpList _ _ _ (⟨some 8, Op.box _ _, _, _, _, _⟩ :: _) _ _; go_must (refine wpList_box_blk rfl 40 _ rfl [.slice (some ⟨N, 0, none⟩) k k, st 0 0, .int .i64 0, .bool false] rfl (N + 1) hs1 ?_); intro w2 hB2 hb2 hs2; have HB2 := hid hB2; have Hb2 := hid hb2; clear hB2 hb2))
  go_ret
  exact ⟨N + 1, N, rfl, knew_lies k k N w w1 w2 hN HK.out HB1.out Hb1.out HB2.out Hb2.out⟩

set_option maxRecDepth 100000 in
set_option maxHeartbeats 2000000 in
theorem kCut_any (d r : Nat) (s : Dk) (n : Int) (w : World) (h : DK w d r s) :
    Calls Try.prog 15 #[.pointer (some ⟨d, 0, none⟩), .int .i64 n] w fun e w' => e = .returned (.int .i64 (s.cut n).1) ∧ DK w' d r (s.cut n).2 ∧ Only w w' d r := by
  have HK := hid h
  have c1 := h.c1
  have c3 := h.c3
  have hk1 := h.ok.kept
  have hk2 := h.ok.len
  have hk3 := h.ok.size
  have hk4 := h.ok.left
  have HCTX := hid (show True from trivial)
  clear h
  go_enter Try.func15, Try.ntmps15
  go_wp2_with fail
  refine wp_scope_at 0 (fun a' w' => ∃ s1, a' = ⟨#[.pointer (some ⟨d, 0, none⟩), a'.tmps.getD 1 undef, a'.tmps.getD 2 undef, a'.tmps.getD 3 undef, a'.tmps.getD 4 undef, a'.tmps.getD 5 undef, a'.tmps.getD 6 undef, a'.tmps.getD 7 undef, a'.tmps.getD 8 undef, a'.tmps.getD 9 undef, a'.tmps.getD 10 undef, a'.tmps.getD 11 undef, a'.tmps.getD 12 undef, a'.tmps.getD 13 undef, a'.tmps.getD 14 undef, a'.tmps.getD 15 undef, a'.tmps.getD 16 undef, a'.tmps.getD 17 undef, a'.tmps.getD 18 undef, a'.tmps.getD 19 undef, a'.tmps.getD 20 undef, a'.tmps.getD 21 undef, a'.tmps.getD 22 undef, a'.tmps.getD 23 undef, a'.tmps.getD 24 undef, a'.tmps.getD 25 undef, a'.tmps.getD 26 undef, a'.tmps.getD 27 undef, a'.tmps.getD 28 undef, a'.tmps.getD 29 undef], []⟩ ∧ DK w' d r s1 ∧ Only w w' d r ∧ (s.cut n) = (18, ⟨s1.b, s1.kept, s1.size, s1.left, true⟩)) (fun _ _ => 0) rfl ?pass ?first
  case pass =>
    clear HCTX HK c1 c3 hk1 hk2 hk3 hk4
    rintro a' w' ⟨s1, ha, hD, ho, he⟩
    obtain ⟨f, ha2⟩ : ∃ f : Nat → Value, a' = ⟨#[.pointer (some ⟨d, 0, none⟩), f 1, f 2, f 3, f 4, f 5, f 6, f 7, f 8, f 9, f 10, f 11, f 12, f 13, f 14, f 15, f 16, f 17, f 18, f 19, f 20, f 21, f 22, f 23, f 24, f 25, f 26, f 27, f 28, f 29], []⟩ := ⟨fun j => a'.tmps.getD j undef, ha⟩
    clear ha
    subst ha2
    have c3 := hD.c3
    have f3 := hD.blk.frozen 3
    have HX := hid (show DK (w'.setCell ⟨d, 3, none⟩ (.bool true)) d r ⟨s1.b, s1.kept, s1.size, s1.left, true⟩ ∧ Only w (w'.setCell ⟨d, 3, none⟩ (.bool true)) d r from ⟨hD.setGone true, ho.trans (Only.set _ _ _ _ _)⟩)
    have HE := hid he
    clear hD ho he
    go_wp2_with fail
    try simp only [Exit.jump]
    go_ret
    exact ⟨by rw [HE.out]; rfl, by rw [HE.out]; exact HX.out.1, HX.out.2⟩
  case first =>
    intro hy
    have HY := hid hy
    clear hy HCTX
    cases hg : s.gone with
    | true =>
      rw [hg] at c3
      have HE := hid (show s.cut n = (18, ⟨s.b, s.kept, s.size, s.left, true⟩) by
        rw [Dk.cut, if_pos hg]
        obtain ⟨b, k, z, l, g⟩ := s
        cases hg
        rfl)
      clear hg
      go_wp2_with fail
      refine wp_goto ?_
      exact ⟨rfl, s, rfl, HK.out, Only.refl _ _ _, HE.out⟩
    | false =>
    rw [hg] at c3
    have HG := hid hg
    clear hg
    by_cases h0 : n < 0
    · have HE := hid (show s.cut n = (1, s) by rw [Dk.cut, if_neg (by rw [HG.out]; simp), if_pos (Or.inl h0)])
      go_wp2_with fail
      try simp only [Exit.jump]
      go_ret
      exact ⟨by rw [HE.out]; rfl, by rw [HE.out]; exact HK.out, Only.refl _ _ _⟩
    go_wp2_with fail
    refine (kend_any s.kept (s.b.length - s.kept) (by omega) _).mono ?_
    rintro _ w1 ⟨rfl, rfl⟩
    rw [show s.kept + (s.b.length - s.kept) = s.b.length by omega]
    by_cases h1 : (s.b.length : Int) < n
    · have HE := hid (show s.cut n = (1, s) by rw [Dk.cut, if_neg (by rw [HG.out]; simp), if_pos (Or.inr h1)])
      go_wp2_with fail
      try simp only [Exit.jump]
      go_ret
      exact ⟨by rw [HE.out]; rfl, by rw [HE.out]; exact HK.out, Only.refl _ _ _⟩
    go_wp2_with fail
    refine (kstops_any d r s _ HK.out).mono ?_
    rintro _ w2 ⟨rfl, hD, ho⟩
    have HD := hid hD
    have Ho := hid ho
    clear hD ho
    by_cases h2 : s.left = 1
    · have HE := hid (show s.cut n = (18, ⟨s.b, s.kept, s.size, s.left - 1, true⟩) by rw [Dk.cut, if_neg (by rw [HG.out]; simp), if_neg (by omega), if_pos h2, h2])
      rw [decide_eq_true h2]
      clear h2
      go_wp2_with fail
      refine wp_goto ?_
      exact ⟨rfl, _, rfl, HD.out, Ho.out, HE.out⟩
    obtain ⟨m, rfl⟩ : ∃ m : Nat, n = (m : Int) := ⟨n.toNat, by omega⟩
    have HE := hid (show s.cut (m : Int) = (0, ⟨s.b.take m, m, s.size, s.left - 1, false⟩) by rw [Dk.cut, if_neg (by rw [HG.out]; simp), if_neg (by omega), if_neg h2]; rfl)
    rw [decide_eq_false h2]
    have hm : m ≤ s.b.length := by omega
    clear h2 c1 c3
    go_wp2_with fail
    refine (knone_any m _).mono ?_
    rintro _ w3 ⟨rfl, rfl⟩
    have c1 := HD.out.c1
    have f1 := HD.out.blk.frozen 1
    have HX := hid (show DK (w3.setCell ⟨d, 1, none⟩ (st m 0)) d r ⟨s.b.take m, m, s.size, s.left - 1, false⟩ ∧ Only w1 (w3.setCell ⟨d, 1, none⟩ (st m 0)) d r from
      ⟨by have := HD.out.setCut m hm; rw [HG.out] at this; exact this, Ho.out.trans (Only.set _ _ _ _ _)⟩)
    clear HD Ho
    have hone : st m 0 = .complex .f64 (fl m) (fl 0) := rfl
    go_wp2_with fail
    try simp only [Exit.jump]
    go_ret
    exact ⟨by rw [HE.out]; rfl, by rw [HE.out]; exact HX.out.1, HX.out.2⟩

set_option maxRecDepth 100000 in
set_option maxHeartbeats 2000000 in
theorem kAppend_any (d r : Nat) (s : Dk) (v : Value) (l : List UInt8) (w : World) (h : DK w d r s) (hv : Reads w v (B l)) (hll : l.length ≤ 140737488355328) :
    Calls Try.prog 18 #[.pointer (some ⟨d, 0, none⟩), v] w fun e w' => e = .returned (.int .i64 (s.app l).1) ∧ DK w' d r (s.app l).2 ∧ Only w w' d r := by
  have HK := hid h
  have HV := hid hv
  have c0 := h.c0
  have c1 := h.c1
  have c3 := h.c3
  have hk1 := h.ok.kept
  have hk2 := h.ok.len
  have hk3 := h.ok.size
  have hk4 := h.ok.left
  obtain ⟨ao, cap, rfl, hcap, _, _⟩ := hv
  rw [B_length] at hcap HV ⊢
  have HS1 := hid (show (Try.prog.info? 5).map (·.size) = some 1 by kernel_rfl)
  have HCTX := hid (show True from trivial)
  clear h
  go_enter Try.func18, Try.ntmps18
  go_wp2_with fail
  refine wp_scope_at 0 (fun a' w' => ∃ s1, a' = ⟨#[.pointer (some ⟨d, 0, none⟩), a'.tmps.getD 1 undef, a'.tmps.getD 2 undef, a'.tmps.getD 3 undef, a'.tmps.getD 4 undef, a'.tmps.getD 5 undef, a'.tmps.getD 6 undef, a'.tmps.getD 7 undef, a'.tmps.getD 8 undef, a'.tmps.getD 9 undef, a'.tmps.getD 10 undef, a'.tmps.getD 11 undef, a'.tmps.getD 12 undef, a'.tmps.getD 13 undef, a'.tmps.getD 14 undef, a'.tmps.getD 15 undef, a'.tmps.getD 16 undef, a'.tmps.getD 17 undef, a'.tmps.getD 18 undef, a'.tmps.getD 19 undef, a'.tmps.getD 20 undef, a'.tmps.getD 21 undef, a'.tmps.getD 22 undef, a'.tmps.getD 23 undef, a'.tmps.getD 24 undef, a'.tmps.getD 25 undef, a'.tmps.getD 26 undef, a'.tmps.getD 27 undef, a'.tmps.getD 28 undef, a'.tmps.getD 29 undef, a'.tmps.getD 30 undef, a'.tmps.getD 31 undef, a'.tmps.getD 32 undef, a'.tmps.getD 33 undef, a'.tmps.getD 34 undef, a'.tmps.getD 35 undef, a'.tmps.getD 36 undef, a'.tmps.getD 37 undef, a'.tmps.getD 38 undef, a'.tmps.getD 39 undef, a'.tmps.getD 40 undef, a'.tmps.getD 41 undef, a'.tmps.getD 42 undef, a'.tmps.getD 43 undef, a'.tmps.getD 44 undef, a'.tmps.getD 45 undef, a'.tmps.getD 46 undef, a'.tmps.getD 47 undef], []⟩ ∧ DK w' d r s1 ∧ Only w w' d r ∧ (s.app l) = (18, ⟨s1.b, s1.kept, s1.size, s1.left, true⟩)) (fun _ _ => 0) rfl ?pass ?first
  case pass =>
    clear HCTX HK HV HS1 c0 c1 c3 hk1 hk2 hk3 hk4 hcap hll
    rintro a' w' ⟨s1, ha, hD, ho, he⟩
    obtain ⟨f, ha2⟩ : ∃ f : Nat → Value, a' = ⟨#[.pointer (some ⟨d, 0, none⟩), f 1, f 2, f 3, f 4, f 5, f 6, f 7, f 8, f 9, f 10, f 11, f 12, f 13, f 14, f 15, f 16, f 17, f 18, f 19, f 20, f 21, f 22, f 23, f 24, f 25, f 26, f 27, f 28, f 29, f 30, f 31, f 32, f 33, f 34, f 35, f 36, f 37, f 38, f 39, f 40, f 41, f 42, f 43, f 44, f 45, f 46, f 47], []⟩ := ⟨fun j => a'.tmps.getD j undef, ha⟩
    clear ha
    subst ha2
    have c3 := hD.c3
    have f3 := hD.blk.frozen 3
    have HX := hid (show DK (w'.setCell ⟨d, 3, none⟩ (.bool true)) d r ⟨s1.b, s1.kept, s1.size, s1.left, true⟩ ∧ Only w (w'.setCell ⟨d, 3, none⟩ (.bool true)) d r from ⟨hD.setGone true, ho.trans (Only.set _ _ _ _ _)⟩)
    have HE := hid he
    clear hD ho he
    go_wp2_with fail
    try simp only [Exit.jump]
    go_ret
    exact ⟨by rw [HE.out]; rfl, by rw [HE.out]; exact HX.out.1, HX.out.2⟩
  case first =>
    intro hy
    have HY := hid hy
    clear hy HCTX
    go_wp2_with fail
    refine (kend_any s.kept (s.b.length - s.kept) (by omega) _).mono ?_
    rintro _ w1 ⟨rfl, rfl⟩
    rw [show s.kept + (s.b.length - s.kept) = s.b.length by omega]
    cases hg : s.gone with
    | true =>
      rw [hg] at c3
      have HE := hid (show s.app l = (18, ⟨s.b, s.kept, s.size, s.left, true⟩) by
        rw [Dk.app, if_pos hg]
        obtain ⟨b, k, z, lf, g⟩ := s
        cases hg
        rfl)
      clear hg
      go_wp2_with fail
      refine wp_goto ?_
      exact ⟨rfl, s, rfl, HK.out, Only.refl _ _ _, HE.out⟩
    | false =>
    rw [hg] at c3
    have HG := hid hg
    clear hg
    by_cases h1 : s.size - s.b.length < l.length
    · have h1' : (s.size : Int) - (s.b.length : Int) < (l.length : Int) := by omega
      have HE := hid (show s.app l = (19, s) by rw [Dk.app, if_neg (by rw [HG.out]; simp), if_pos h1])
      clear h1
      go_wp2_with fail
      try simp only [Exit.jump]
      go_ret
      exact ⟨by rw [HE.out]; rfl, by rw [HE.out]; exact HK.out, Only.refl _ _ _⟩
    have h1' : ¬ (s.size : Int) - (s.b.length : Int) < (l.length : Int) := by omega
    obtain ⟨off, hoff, hcut⟩ := room_cut r s.size s.b.length hk2
    have HW := hid (show w1.setCells r off (B l) = w1.setCells r s.b.length (B l) by
      by_cases he : s.b.length = s.size
      · have hl0 : l = [] := List.eq_nil_of_length_eq_zero (by omega)
        subst hl0
        rfl
      · rw [hoff he])
    have HTH := hid (show w1.there r off l.length by
      by_cases he : s.b.length = s.size
      · have hl0 : l.length = 0 := by omega
        rw [hl0]
        exact fun j hj => absurd hj (Nat.not_lt_zero j)
      · rw [hoff he]; exact HK.out.there _ (by omega))
    have HLE := hid h1
    clear hoff h1
    go_wp2_with (show wpList _ _ _ (⟨some 32, _, _, _, _, _⟩ :: _) _ _; go_must (refine wpList_copy_list rfl _ _ 31 31 rfl 5 Try.underlying31 HS1.out r off (s.size - s.b.length) (s.size - s.b.length) rfl _ rfl (B l) HV.out l.length (by rw [B_length]; exact (Nat.min_eq_left (by have := HLE.out; omega)).symm) HTH.out (B_one l) ?_); go_must (intro w2 hw2; rw [List.take_of_length_le (by rw [B_length]; exact Nat.le_refl _), HW.out] at hw2; have c1' : w2.cell? ⟨d, 1, none⟩ = some (st s.kept (s.b.length - s.kept)) := hw2 ▸ (HK.out.blk.kept (setCells_heap HK.out.ne (B l) s.b.length w1)).cell (j := 1) rfl; have f1' : w2.frozen? ⟨d, 1, none⟩ = false := hw2 ▸ (HK.out.blk.kept (setCells_heap HK.out.ne (B l) s.b.length w1)).frozen 1; have HW2 := hid hw2; clear hw2))
    refine (klonger_any s.kept (s.b.length - s.kept) l.length (by have := HLE.out; omega) (by omega) _).mono ?_
    rintro _ w3 ⟨rfl, rfl⟩
    have HX := hid (show DK (w3.setCell ⟨d, 1, none⟩ (st s.kept (s.b.length - s.kept + l.length))) d r ⟨s.b ++ l, s.kept, s.size, s.left, s.gone⟩ ∧ Only w1 (w3.setCell ⟨d, 1, none⟩ (st s.kept (s.b.length - s.kept + l.length))) d r by
      rw [HW2.out]
      exact ⟨HK.out.setApp l (by have := HLE.out; omega), (Only.sets _ _ _ _ _).trans (Only.set _ _ _ _ _)⟩)
    clear HW2 HTH HW hcut c0 c1 c3
    have hone : st s.kept (s.b.length - s.kept + l.length) = .complex .f64 (fl s.kept) (fl (s.b.length - s.kept + l.length)) := rfl
    go_wp2_with fail
    refine (kstops_any d r _ _ HX.out.1).mono ?_
    rintro _ w4 ⟨rfl, hD, ho⟩
    have HD := hid hD
    have Ho := hid (HX.out.2.trans ho)
    clear hD ho HX c1' f1'
    simp only
    by_cases h2 : s.left = 1
    · have HE := hid (show s.app l = (18, ⟨s.b ++ l, s.kept, s.size, s.left - 1, true⟩) by rw [Dk.app, if_neg (by rw [HG.out]; simp), if_neg HLE.out, if_pos h2, h2])
      rw [decide_eq_true h2]
      clear h2
      go_wp2_with fail
      refine wp_goto ?_
      exact ⟨rfl, _, rfl, HD.out, Ho.out, HE.out⟩
    have HE := hid (show s.app l = (0, ⟨s.b ++ l, s.kept, s.size, s.left - 1, s.gone⟩) by rw [Dk.app, if_neg (by rw [HG.out]; simp), if_neg HLE.out, if_neg h2, HG.out])
    rw [decide_eq_false h2]
    clear h2
    go_wp2_with fail
    try simp only [Exit.jump]
    go_ret
    exact ⟨by rw [HE.out]; rfl, by rw [HE.out]; exact HD.out, Ho.out⟩
end Go.Proofs.Ytifdoneffnfogab

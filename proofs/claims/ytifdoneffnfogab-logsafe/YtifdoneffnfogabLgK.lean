/- The contracts of package log: Open, Append, Sync, Count, Safe (chapter 11). -/
import Derived.Test.YtifdoneffnfogabLgW
import Derived.Test.YtifdoneffnfogabKMore
namespace Go.Proofs.Ytifdoneffnfogab
open Go.RowKit
set_option linter.unusedSimpArgs false
set_option linter.unusedVariables false

/-- The program's log in the block q, on the disk in d. -/
def LB (w : World) (q d n k : Nat) : Prop := Blk w 47 q [.pointer (some ⟨d, 0, none⟩), .int .i64 n, .int .i64 k]
theorem LB.kept {w w' : World} {q d n k : Nat} (h : LB w q d n k) (hb : w'.heap[q]? = w.heap[q]?) : LB w' q d n k := Blk.kept h hb
theorem LB.lt {w : World} {q d n k : Nat} (h : LB w q d n k) : q < w.heap.size := Blk.lt h
structure Only3 (w w' : World) (d r q : Nat) : Prop where
  os : w'.os = w.os
  tape : w'.tape = w.tape
  output : w'.output = w.output
  size : w.heap.size ≤ w'.heap.size
  block : ∀ k, k < w.heap.size → k ≠ d → k ≠ r → k ≠ q → w'.heap[k]? = w.heap[k]?
/-- What Open answers. -/
def KOpenR (s : Dk) (d r : Nat) (w : World) (e : Ending) (w' : World) : Prop :=
  DK w' d r (openS s).2.2 ∧ Only w w' d r ∧
    (((openS s).1 ≠ 0 ∧ e = .returned (.tuple #[.pointer none, .slice none 0 0, .int .i64 (openS s).1])) ∨
     ((openS s).1 = 0 ∧ ∃ q rv, e = .returned (.tuple #[.pointer (some ⟨q, 0, none⟩), rv, .int .i64 0]) ∧ w.heap.size ≤ q ∧ LB w' q d (openS s).2.1.length (openS s).2.1.length ∧ RowsW w' w.heap.size rv (openS s).2.1))

section
variable {w w1 : World} {d r q n k : Nat}
theorem Only3.of_only (h : Only w w1 d r) (q : Nat) : Only3 w w1 d r q := ⟨h.os, h.tape, h.output, h.size, fun k h1 h2 h3 _ => h.block k h1 h2 h3⟩
theorem Only3.set (h : Only3 w w1 d r q) (j : Nat) (v : Value) : Only3 w (w1.setCell ⟨q, j, none⟩ v) d r q :=
  ⟨h.os, h.tape, h.output, by simpa [World.setCell] using h.size, fun k h1 h2 h3 h4 => by rw [heap_setCell_other _ _ _ _ h4]; exact h.block k h1 h2 h3 h4⟩
theorem LB.c0 (h : LB w q d n k) : w.cell? ⟨q, 0, none⟩ = some (.pointer (some ⟨d, 0, none⟩)) := Blk.cell h rfl
theorem LB.c1 (h : LB w q d n k) : w.cell? ⟨q, 1, none⟩ = some (.int .i64 n) := Blk.cell h rfl
theorem LB.c2 (h : LB w q d n k) : w.cell? ⟨q, 2, none⟩ = some (.int .i64 k) := Blk.cell h rfl
theorem LB.set1 (h : LB w q d n k) (m : Nat) : LB (w.setCell ⟨q, 1, none⟩ (.int .i64 m)) q d m k := Blk.setCell h 1 (.int .i64 m)
theorem LB.set2 (h : LB w q d n k) (m : Nat) : LB (w.setCell ⟨q, 2, none⟩ (.int .i64 m)) q d n m := Blk.setCell h 2 (.int .i64 m)
theorem DK.setQ {s : Dk} (h : DK w d r s) (h1 : q ≠ d) (h2 : q ≠ r) (j : Nat) (v : Value) : DK (w.setCell ⟨q, j, none⟩ v) d r s := h.kept (heap_setCell_other _ _ _ _ (Ne.symm h1)) (heap_setCell_other _ _ _ _ (Ne.symm h2))
end

set_option maxRecDepth 100000 in
theorem lgUnder_any (q d n k : Nat) (w : World) (hq : LB w q d n k) : Calls Try.prog 16 #[.pointer (some ⟨q, 0, none⟩)] w fun e w' => e = .returned (.pointer (some ⟨d, 0, none⟩)) ∧ w' = w := by
  have c0 := hq.c0
  clear hq
  go_enter Try.func16, Try.ntmps16
  go_wp2_with fail
  go_ret
  exact ⟨rfl, rfl⟩
set_option maxRecDepth 100000 in
theorem lgCount_any (q d n k : Nat) (w : World) (hq : LB w q d n k) : Calls Try.prog 12 #[.pointer (some ⟨q, 0, none⟩)] w fun e w' => e = .returned (.int .i64 (n : Int)) ∧ w' = w := by
  have c1 := hq.c1
  clear hq
  go_enter Try.func12, Try.ntmps12
  go_wp2_with fail
  go_ret
  exact ⟨rfl, rfl⟩
set_option maxRecDepth 100000 in
theorem lgSafe_any (q d n k : Nat) (w : World) (hq : LB w q d n k) : Calls Try.prog 11 #[.pointer (some ⟨q, 0, none⟩)] w fun e w' => e = .returned (.int .i64 (k : Int)) ∧ w' = w := by
  have c2 := hq.c2
  clear hq
  go_enter Try.func11, Try.ntmps11
  go_wp2_with fail
  go_ret
  exact ⟨rfl, rfl⟩

set_option maxRecDepth 100000 in
set_option maxHeartbeats 1000000 in
theorem lgAppend_any (d r q : Nat) (s : Dk) (n k : Nat) (hn : n ≤ 1000000000) (u : Value) (l : List UInt8) (w : World) (h : DK w d r s) (hq : LB w q d n k) (hne : q ≠ d ∧ q ≠ r) (hu : Reads w u (B l)) (hll : l.length ≤ 1000000000) :
    Calls Try.prog 9 #[.pointer (some ⟨q, 0, none⟩), u] w fun e w' => e = .returned (.int .i64 (appL s n l).1) ∧ DK w' d r (appL s n l).2.2 ∧ LB w' q d (appL s n l).2.1 k ∧ Only3 w w' d r q := by
  obtain ⟨m, hm⟩ : ∃ m, l.length = m := ⟨_, rfl⟩
  have HM := hid hm
  have HU := hid hu
  have HD := hid h
  have HQ := hid hq
  have HNE := hid hne
  have hu' := hu
  obtain ⟨ao, cap, rfl, _⟩ := hu'
  rw [B_length, hm] at HU ⊢
  rw [hm] at hll
  clear hu h hq hne hm
  by_cases h0 : 16384 < m
  · have HO := hid (show appL s n l = (5, n, s) by rw [appL, if_pos (by rw [HM.out]; exact h0)])
    have h0' : (16384 : Int) < (m : Int) := by omega
    go_enter Try.func9, Try.ntmps9
    go_wp2_with fail
    go_ret
    rw [HO.out]
    exact ⟨rfl, HD.out, HQ.out, Only3.of_only (Only.refl _ _ _) _⟩
  have h0' : ¬ (16384 : Int) < (m : Int) := by omega
  go_enter Try.func9, Try.ntmps9
  go_wp2_with fail
  refine (lgUnder_any q d n k _ HQ.out).mono ?_
  rintro _ w1 ⟨rfl, rfl⟩
  go_wp2_with fail
  refine (stored_any (.slice ao m cap) l m HM.out _ HU.out hll).mono ?_
  rintro _ w2 ⟨a2, c2, rfl, hH2, hb2⟩
  have HH2 := hid hH2
  have Hb2 := hid hb2
  clear hH2 hb2
  go_wp2_with fail
  refine (kAppend_any d r s (.slice a2 (8 + m) c2) (enc l) _ (HD.out.later Hb2.out) HH2.out.reads (by rw [enc_len, HM.out]; omega)).mono ?_
  rintro _ w3 ⟨rfl, hD3, ho3⟩
  have HD3 := hid hD3
  have hox := (Only.of_below Hb2.out d r).trans ho3
  have HO3 := hid (Only3.of_only hox q)
  have HQ3 := hid (HQ.out.kept (hox.block q HQ.out.lt HNE.out.1 HNE.out.2))
  clear hox
  obtain ⟨z, hz⟩ : ∃ z, (s.app (enc l)).1 = z := ⟨_, rfl⟩
  have HA := hid (show appL s n l = (z, if z = 0 then n + 1 else n, (s.app (enc l)).2) by rw [appL, if_neg (by rw [HM.out]; exact h0), hz])
  rw [hz]
  clear hD3 ho3 hz
  by_cases hz0 : z = 0
  · subst hz0
    have c1 := HQ3.out.c1
    have f1 := Blk.frozen HQ3.out 1
    have HX := hid (show DK (w3.setCell ⟨q, 1, none⟩ (.int .i64 ((n : Int) + 1))) d r (s.app (enc l)).2 ∧ LB (w3.setCell ⟨q, 1, none⟩ (.int .i64 ((n : Int) + 1))) q d (n + 1) k ∧ Only3 w1 (w3.setCell ⟨q, 1, none⟩ (.int .i64 ((n : Int) + 1))) d r q from
      ⟨HD3.out.setQ HNE.out.1 HNE.out.2 _ _, HQ3.out.set1 (n + 1), HO3.out.set _ _⟩)
    go_wp2_with fail
    go_ret
    rw [HA.out, if_pos trivial]
    exact ⟨rfl, HX.out⟩
  · have hz1 : (z == 0) = false := by simpa using hz0
    go_wp2_with fail
    go_ret
    rw [HA.out, if_neg hz0]
    exact ⟨rfl, HD3.out, HQ3.out, HO3.out⟩

set_option maxRecDepth 100000 in
set_option maxHeartbeats 1000000 in
theorem lgSync_any (d r q : Nat) (s : Dk) (n k : Nat) (w : World) (h : DK w d r s) (hq : LB w q d n k) (hne : q ≠ d ∧ q ≠ r) :
    Calls Try.prog 8 #[.pointer (some ⟨q, 0, none⟩)] w fun e w' => e = .returned (.int .i64 (syncL s n k).1) ∧ DK w' d r (syncL s n k).2.2 ∧ LB w' q d n (syncL s n k).2.1 ∧ Only3 w w' d r q := by
  have HD := hid h
  have HQ := hid hq
  have HNE := hid hne
  clear h hq hne
  go_enter Try.func8, Try.ntmps8
  go_wp2_with fail
  refine (lgUnder_any q d n k _ HQ.out).mono ?_
  rintro _ w1 ⟨rfl, rfl⟩
  go_wp2_with fail
  refine (kSync_any d r s _ HD.out).mono ?_
  rintro _ w3 ⟨rfl, hD3, ho3⟩
  have HD3 := hid hD3
  have HO3 := hid (Only3.of_only ho3 q)
  have HQ3 := hid (HQ.out.kept (ho3.block q HQ.out.lt HNE.out.1 HNE.out.2))
  obtain ⟨z, hz⟩ : ∃ z, s.sync.1 = z := ⟨_, rfl⟩
  have HA := hid (show syncL s n k = (z, if z = 0 then n else k, s.sync.2) by rw [syncL, hz])
  rw [hz]
  clear hD3 ho3 hz
  by_cases hz0 : z = 0
  · subst hz0
    have c1 := HQ3.out.c1
    have c2 := HQ3.out.c2
    have f2 := Blk.frozen HQ3.out 2
    have HX := hid (show DK (w3.setCell ⟨q, 2, none⟩ (.int .i64 (n : Int))) d r s.sync.2 ∧ LB (w3.setCell ⟨q, 2, none⟩ (.int .i64 (n : Int))) q d n n ∧ Only3 w1 (w3.setCell ⟨q, 2, none⟩ (.int .i64 (n : Int))) d r q from
      ⟨HD3.out.setQ HNE.out.1 HNE.out.2 _ _, HQ3.out.set2 n, HO3.out.set _ _⟩)
    go_wp2_with fail
    go_ret
    rw [HA.out, if_pos trivial]
    exact ⟨rfl, HX.out⟩
  · have hz1 : (z == 0) = false := by simpa using hz0
    go_wp2_with fail
    go_ret
    rw [HA.out, if_neg hz0]
    exact ⟨rfl, HD3.out, HQ3.out, HO3.out⟩

set_option maxRecDepth 100000 in
set_option maxHeartbeats 2000000 in
theorem lgOpen_any (d r : Nat) (s : Dk) (w : World) (h : DK w d r s) : Calls Try.prog 6 #[.pointer (some ⟨d, 0, none⟩)] w (KOpenR s d r w) := by
  have HD := hid h
  have HLT := hid (show d < w.heap.size ∧ r < w.heap.size from ⟨h.lt, h.ltr⟩)
  have HSZ := hid (show s.b.length ≤ 65536 from Nat.le_trans h.ok.len h.ok.size)
  clear h
  go_enter Try.func6, Try.ntmps6
  go_wp2_with fail
  refine wp_scope_at 0 (fun a' w' => ∃ e : Int, a' = ⟨#[.pointer (some ⟨d, 0, none⟩), a'.tmps.getD 1 undef, a'.tmps.getD 2 undef, a'.tmps.getD 3 undef, .int .i64 e, a'.tmps.getD 5 undef, a'.tmps.getD 6 undef, a'.tmps.getD 7 undef, a'.tmps.getD 8 undef, a'.tmps.getD 9 undef, a'.tmps.getD 10 undef, a'.tmps.getD 11 undef, a'.tmps.getD 12 undef, a'.tmps.getD 13 undef, a'.tmps.getD 14 undef, a'.tmps.getD 15 undef, a'.tmps.getD 16 undef, a'.tmps.getD 17 undef, a'.tmps.getD 18 undef, a'.tmps.getD 19 undef, a'.tmps.getD 20 undef, a'.tmps.getD 21 undef, a'.tmps.getD 22 undef, a'.tmps.getD 23 undef, a'.tmps.getD 24 undef, a'.tmps.getD 25 undef, a'.tmps.getD 26 undef, a'.tmps.getD 27 undef, a'.tmps.getD 28 undef, a'.tmps.getD 29 undef, a'.tmps.getD 30 undef, a'.tmps.getD 31 undef, a'.tmps.getD 32 undef], []⟩ ∧ e = (openS s).1 ∧ e ≠ 0 ∧ DK w' d r (openS s).2.2 ∧ Only w w' d r) (fun _ _ => 0) rfl ?pass ?first
  case pass =>
    rintro a' w' ⟨e, ha, he, hne, hD, ho⟩
    obtain ⟨f, ha2⟩ : ∃ f : Nat → Value, a' = ⟨#[.pointer (some ⟨d, 0, none⟩), f 1, f 2, f 3, .int .i64 e, f 5, f 6, f 7, f 8, f 9, f 10, f 11, f 12, f 13, f 14, f 15, f 16, f 17, f 18, f 19, f 20, f 21, f 22, f 23, f 24, f 25, f 26, f 27, f 28, f 29, f 30, f 31, f 32], []⟩ := ⟨fun j => a'.tmps.getD j undef, ha⟩
    clear ha
    subst ha2
    have HD' := hid hD
    have HO := hid ho
    have HE := hid he
    have HNE := hid hne
    clear hD ho he hne
    go_wp2_with fail
    try simp only [Exit.jump]
    go_ret3
    exact ⟨HD'.out, HO.out, .inl ⟨by rw [← HE.out]; exact HNE.out, by rw [HE.out]; rfl⟩⟩
  case first =>
    intro hy
    have HY := hid hy
    clear hy
    go_wp2_with fail
    refine (kRead_any d r s _ HD.out).mono ?_
    rintro _ w1 ⟨v1, rfl, hH1, hb1⟩
    have HO1 := hid (Only.of_below hb1 d r)
    have HD1 := hid (HD.out.later hb1)
    have HZ1 := hid hb1.size
    clear hb1
    cases hg : s.gone with
    | true =>
      have HO := hid (show openS s = (18, [], s) by rw [openS, if_pos hg])
      rw [show s.read = ([], 18) by rw [Dk.read, if_pos hg]] at hH1 ⊢
      clear hg hH1
      go_wp2_with fail
      refine wp_goto ?_
      exact ⟨rfl, 18, rfl, by rw [HO.out], by decide, by rw [HO.out]; exact HD1.out, HO1.out⟩
    | false =>
    have HG := hid hg
    rw [show s.read = (s.b, 0) by rw [Dk.read, hg, if_neg (by simp)]] at hH1 ⊢
    simp only at hH1 ⊢
    have HR1 := hid hH1.reads
    clear hg hH1
    go_wp2_with fail
    refine (whole_any v1 s.b _ HR1.out HSZ.out).mono ?_
    rintro _ w2 ⟨rv, z, rfl, hz, hW2, hb2⟩
    obtain ⟨ro, rc, rfl⟩ := hW2.form
    have HZ := hid hz
    have HW2 := hid hW2
    have HO2 := hid (HO1.out.trans (Only.of_below hb2 d r))
    have HD2 := hid (HD1.out.later hb2)
    have HBZ := hid hb2.size
    clear hz hW2 hb2
    go_wp2_with fail
    refine (kCut_any d r s z _ HD2.out).mono ?_
    rintro _ w3 ⟨rfl, hD3, ho3⟩
    have HD3 := hid hD3
    have HO3 := hid (HO2.out.trans ho3)
    have HW3 := hid (HW2.out.keptAt fun k h1 h2 => ho3.block k h2 (by have := HLT.out; have := HZ1.out; omega) (by have := HLT.out; have := HZ1.out; omega))
    obtain ⟨c, hc⟩ : ∃ c, (s.cut z).1 = c := ⟨_, rfl⟩
    have HO := hid (show openS s = if c ≠ 0 then (c, [], (s.cut z).2) else (0, (recs s.b).1, (s.cut z).2) by rw [openS, HG.out, if_neg (by simp), ← HZ.out, hc])
    rw [hc]
    clear hD3 ho3 hc
    by_cases hc0 : c = 0
    · subst hc0
      rw [if_neg (by simp)] at HO
      obtain ⟨m, hm⟩ : ∃ m, (recs s.b).1.length = m := ⟨_, rfl⟩
      have HML := hid hm
      rw [hm] at HW3 ⊢
      obtain ⟨q, hq⟩ : ∃ q, w3.heap.size = q := ⟨_, rfl⟩
      have HQQ := hid hq
      clear hm
      go_wp2_with (show wpList _ _ _ (⟨some 30, Op.box _ _, _, _, _, _⟩ :: _) _ _; go_must (refine wpList_box_blk rfl 47 _ rfl [.pointer (some ⟨d, 0, none⟩), .int .i64 m, .int .i64 m] rfl q hq ?_); go_must (intro wg hBg hbg hsg; have HBG := hid hBg; have Hbg := hid hbg; clear hBg hbg))
      try simp only [Exit.jump]
      go_ret3
      have hbg : Below w3.heap.size w3 wg := by rw [HQQ.out]; exact Hbg.out
      refine ⟨by rw [HO.out]; exact HD3.out.later hbg, HO3.out.trans (Only.of_below hbg d r), .inr ⟨by rw [HO.out], q, _, rfl, by rw [← HQQ.out]; exact HO3.out.size, ?_, ?_⟩⟩
      · rw [HO.out]
        show LB wg q d (recs s.b).1.length (recs s.b).1.length
        rw [HML.out]
        exact HBG.out
      · rw [HO.out]
        exact (HW3.out.later hbg).mono HZ1.out
    · rw [if_pos hc0] at HO
      have hcb : (c == 0) = false := by simpa using hc0
      go_wp2_with fail
      refine wp_goto ?_
      exact ⟨rfl, c, rfl, by rw [HO.out], hc0, by rw [HO.out]; exact HD3.out, HO3.out⟩
end Go.Proofs.Ytifdoneffnfogab

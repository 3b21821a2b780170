/- The law OpRows: each bound of a part by itself: at it, and beyond it. -/
import Derived.Test.YtmphckpmlkgkkaaLongOp
import Derived.Test.YtmphckpmlkgkkaaChkV
namespace Go.Proofs.Ytmphckpmlkgkkaa
open Go.RowKit
set_option linter.unusedSimpArgs false
set_option linter.unusedVariables false

def lenV : Value → Nat
  | .slice _ n _ => n
  | _ => 0
theorem blk_make (w : World) {w4 : World} (hg : (w.alloc (.cells #[.int .i64 1, .int .i64 5, .string ⟨#[]⟩] 42)).grownBy w4 (some (w.alloc (.cells #[.int .i64 1, .int .i64 5, .string ⟨#[]⟩] 42)).heap.size)) : Blk w4 42 w.heap.size [.int .i64 1, .int .i64 5, .string ⟨#[]⟩] :=
  (Blk.new w 42 [.int .i64 1, .int .i64 5, .string ⟨#[]⟩]).kept (hg.block _ (by simp) (by simp))
theorem zeros_str2 {w w4 : World} {ob : Obj} {n : Nat} (h : Owns w4 5 (w.alloc ob).heap.size n n (B (List.replicate n 0))) : (convert 22 9 (.slice (some ⟨w.heap.size + 1, 0, none⟩) n n)).run Try.prog w4 = .ok (.string (zeros n)) w4 := by
  have := zeros_str h
  rwa [show (w.alloc ob).heap.size = w.heap.size + 1 by simp] at this
theorem put_over {w4 : World} {g : Nat} (z : ByteArray) (h : Blk w4 42 g [.int .i64 1, .int .i64 5, .string ⟨#[]⟩]) :
    HasC (((w4.setCell ⟨g, 0, none⟩ (.int .i64 2)).setCell ⟨g, 1, none⟩ (.int .i64 0)).setCell ⟨g, 2, none⟩ (.string z)) g (.slice (some ⟨g, 0, none⟩) 1 1) [pP z] :=
  HasK.built (((h.setCell 0 _).setCell 1 _).setCell 2 _) rfl (Nat.le_refl _)
theorem chk_put (n : Nat) (h : 1 ≤ n) : chkS [pP (zeros n)] = if 120 < n then 5 else 0 := by
  simp only [chkS, chkL, chkP, pP, zeros_size, List.length_cons, List.length_nil]
  by_cases h1 : 120 < n
  · simp [h1]; omega
  · simp [h1]; omega
theorem rep_new (w : World) : HasC (w.alloc (.cells #[.int .i64 1, .int .i64 5, .string ⟨#[]⟩] 42)) w.heap.size (.slice (some ⟨w.heap.size, 0, none⟩) 1 1) (List.replicate 1 (pK 5)) := parts_new w [pK 5] 1 rfl
theorem rep_chk (n : Nat) (h : n ≤ 40) : chkS (List.replicate n (pK 5)) = 0 := by
  refine chkS_val (fun c hc => ?_) (by simpa using h)
  rw [(List.mem_replicate.1 hc).2]
  exact .inl ⟨.inl rfl, by decide, by decide, rfl⟩
theorem rep_chk41 : chkS (List.replicate 41 (pK 5)) = 4 := by rw [chkS, if_pos (by simp)]

set_option maxRecDepth 100000 in
set_option maxHeartbeats 8000000 in
theorem rowsop_any (which : Int) (above : Bool) (w : World) :
    Calls Try.prog 6 #[.int .i64 which, .bool above] w fun e w' => e = .returned (.bool true) ∧ Below w.heap.size w w' := by
  obtain ⟨i0, hi, hz0, hz1, hz2⟩ := info_parts Try.infoByte
  obtain ⟨t, ht⟩ : ∃ t : Int, which % 8 = t := ⟨_, rfl⟩
  have ht8 : t = 0 ∨ t = 1 ∨ t = 2 ∨ t = 3 ∨ t = 4 ∨ t = 5 ∨ t = 6 ∨ t = 7 := by omega
  cases above
  · go_enter Try.func6, Try.ntmps6
    go_wp2_with fail
    refine (known_any _).mono ?_
    rintro _ w2 ⟨rfl, hb1⟩
    have Hb1 := hid hb1
    clear hb1
    go_wp2_with fail
    refine (within_any which 8 (by omega) (by omega) _).mono ?_
    rintro _ _ ⟨rfl, rfl⟩
    rw [ht]
    clear ht
    rcases ht8 with rfl | rfl | rfl | rfl | rfl | rfl | rfl | rfl
    · have Hb2 := hid (Hb1.out.alloc Hb1.out.size (.cells (C [⟨1, 120, ⟨#[]⟩⟩]).toArray 42))
      go_wp2_with fail
      refine (Check_any _ [⟨1, 120, ⟨#[]⟩⟩] _ (parts_new w2 [⟨1, 120, ⟨#[]⟩⟩] 1 rfl).reads (by intro c hc; simp only [List.mem_singleton] at hc; subst hc; decide) (by simp)).mono ?_
      rintro _ w3 ⟨rfl, hb3⟩
      rw [show chkS [⟨1, 120, ⟨#[]⟩⟩] = 0 from by decide]
      have Hb3 := hid (below_seq Hb2.out hb3)
      clear hb3
      go_wp2_with fail
      go_ret
      exact ⟨rfl, Hb3.out⟩
    · have Hb2 := hid (Hb1.out.alloc Hb1.out.size (.cells (C [⟨1, 1, ⟨#[]⟩⟩]).toArray 42))
      go_wp2_with fail
      refine (Check_any _ [⟨1, 1, ⟨#[]⟩⟩] _ (parts_new w2 [⟨1, 1, ⟨#[]⟩⟩] 1 rfl).reads (by intro c hc; simp only [List.mem_singleton] at hc; subst hc; decide) (by simp)).mono ?_
      rintro _ w3 ⟨rfl, hb3⟩
      rw [show chkS [⟨1, 1, ⟨#[]⟩⟩] = 0 from by decide]
      have Hb3 := hid (below_seq Hb2.out hb3)
      clear hb3
      go_wp2_with fail
      go_ret
      exact ⟨rfl, Hb3.out⟩
    · have Hb2 := hid (Hb1.out.alloc Hb1.out.size (.cells (C [⟨3, 120, ⟨#[]⟩⟩]).toArray 42))
      go_wp2_with fail
      refine (Check_any _ [⟨3, 120, ⟨#[]⟩⟩] _ (parts_new w2 [⟨3, 120, ⟨#[]⟩⟩] 1 rfl).reads (by intro c hc; simp only [List.mem_singleton] at hc; subst hc; decide) (by simp)).mono ?_
      rintro _ w3 ⟨rfl, hb3⟩
      rw [show chkS [⟨3, 120, ⟨#[]⟩⟩] = 0 from by decide]
      have Hb3 := hid (below_seq Hb2.out hb3)
      clear hb3
      go_wp2_with fail
      go_ret
      exact ⟨rfl, Hb3.out⟩
    · have hs1 := Hb1.out.size
      go_wp2_with (show wpList _ _ _ (⟨some 42, _, _, _, _, _⟩ :: _) _ _; go_must (refine wpList_make_bytes _ rfl _ _ 22 rfl 5 i0 Try.underlying22 hi hz0 hz1 hz2 .i64 .i64 _ _ 120 rfl rfl rfl rfl (by omega) ?_); intro w4 hO4 hg4 hs4; have hst := zeros_str2 hO4; have c0 : w4.cell? ⟨w2.heap.size, 0, none⟩ = _ := (blk_make w2 hg4).cell rfl; have c1 : w4.cell? ⟨w2.heap.size, 1, none⟩ = _ := (blk_make w2 hg4).cell rfl; have c2 : w4.cell? ⟨w2.heap.size, 2, none⟩ = _ := (blk_make w2 hg4).cell rfl; have f0 := (blk_make w2 hg4).frozen 0; have f1 := (blk_make w2 hg4).frozen 1; have f2 := (blk_make w2 hg4).frozen 2; replace hO4 := hid hO4; replace hg4 := hid hg4; replace hs4 := hid hs4)
      have Hb4 := hid (show Below w.heap.size w w4 from (Hb1.out.alloc hs1 _).trans ⟨hg4.out.os, hg4.out.tape, hg4.out.output, hg4.out.size, fun j hj => hg4.out.block j (by simp; omega) (by simp; omega)⟩)
      have H5 := hid (put_over (zeros 120) (blk_make w2 hg4.out))
      have Hb5 := hid (show Below w.heap.size w (((w4.setCell ⟨w2.heap.size, 0, none⟩ (.int .i64 2)).setCell ⟨w2.heap.size, 1, none⟩ (.int .i64 0)).setCell ⟨w2.heap.size, 2, none⟩ (.string (zeros 120))) from ((Hb4.out.setCell (p := ⟨w2.heap.size, 0, none⟩) hs1 _).setCell (p := ⟨w2.heap.size, 1, none⟩) hs1 _).setCell (p := ⟨w2.heap.size, 2, none⟩) hs1 _)
      refine (Check_any _ [pP (zeros 120)] _ H5.out.reads (by intro c hc; simp only [List.mem_singleton] at hc; subst hc; show (zeros 120).size ≤ _; rw [zeros_size]; omega) (by simp)).mono ?_
      rintro _ w6 ⟨rfl, hb6⟩
      rw [show chkS [pP (zeros 120)] = 0 from chk_put 120 (by omega)]
      have Hb6 := hid (below_seq Hb5.out hb6)
      clear hb6 hst c0 c1 c2 f0 f1 f2
      go_wp2_with fail
      go_ret
      exact ⟨rfl, Hb6.out⟩
    · have Hb2 := hid (Hb1.out.alloc Hb1.out.size (.cells (C [⟨2, 0, ⟨#[120]⟩⟩]).toArray 42))
      go_wp2_with fail
      refine (Check_any _ [⟨2, 0, ⟨#[120]⟩⟩] _ (parts_new w2 [⟨2, 0, ⟨#[120]⟩⟩] 1 rfl).reads (by intro c hc; simp only [List.mem_singleton] at hc; subst hc; decide) (by simp)).mono ?_
      rintro _ w3 ⟨rfl, hb3⟩
      rw [show chkS [⟨2, 0, ⟨#[120]⟩⟩] = 0 from by decide]
      have Hb3 := hid (below_seq Hb2.out hb3)
      clear hb3
      go_wp2_with fail
      go_ret
      exact ⟨rfl, Hb3.out⟩
    · have Hb2 := hid (Hb1.out.alloc Hb1.out.size (.cells (C [⟨1, 5, ⟨#[]⟩⟩]).toArray 42))
      go_wp2_with fail
      refine (Check_any _ [⟨1, 5, ⟨#[]⟩⟩] _ (parts_new w2 [⟨1, 5, ⟨#[]⟩⟩] 1 rfl).reads (by intro c hc; simp only [List.mem_singleton] at hc; subst hc; decide) (by simp)).mono ?_
      rintro _ w3 ⟨rfl, hb3⟩
      rw [show chkS [⟨1, 5, ⟨#[]⟩⟩] = 0 from by decide]
      have Hb3 := hid (below_seq Hb2.out hb3)
      clear hb3
      go_wp2_with fail
      go_ret
      exact ⟨rfl, Hb3.out⟩
    · go_wp2_with fail
      have Hb2 := hid (Hb1.out.alloc Hb1.out.size (.cells #[.int .i64 1, .int .i64 5, .string ⟨#[]⟩] 42))
      have H2 := hid ((rep_new w2).mono Hb1.out.size)
      generalize w2.alloc (.cells #[.int .i64 1, .int .i64 5, .string ⟨#[]⟩] 42) = w4 at *
      go_loopw [6] (fun vo wr => ∃ j : Nat, 1 ≤ j ∧ j ≤ 40 ∧ HasC wr w.heap.size vo (List.replicate j (pK 5)) ∧ Below w.heap.size w wr) (fun vo _ => 40 - lenV vo)
      case atStart => exact ⟨1, by omega, by omega, H2.out, Hb2.out⟩
      case round =>
        obtain ⟨j, hj1, hj2, hH, hb⟩ := hrel
        have hH' := hH
        obtain ⟨g, off, cap, e, hcp, hr, hg⟩ := hH'.reads.place (by rw [List.length_replicate]; omega)
        rw [List.length_replicate] at e hcp
        subst e
        have H5 := hid hH
        have Hb5 := hid hb
        have hjc : j ≤ cap := hcp
        obtain ⟨c0, c1, c2⟩ := RC.cells hr (j := 0) (c := pK 5) (by rw [List.getElem?_replicate, if_pos (by omega)])
        simp only [Nat.zero_mul, Nat.add_zero, pK] at c0 c1 c2
        clear hH hH' hb hr hcp
        by_cases hlt : j < 40
        · have hlt' : (j : Int) < 40 := by omega
          have hj0 : (0 : Int) < (j : Int) := by omega
          go_wp2_with (at_builtin; go_must (refine wpList_append_c rfl _ _ rfl w.heap.size _ (List.replicate j (pK 5)) rfl (H5.out.later ((Below.refl _ _).alloc (Nat.le_refl _) _)) ?hs _ [pK 5] rfl (one_new _ (pK 5) w.heap.size Hb5.out.size).reads ?hb ?_))
          case hs => have := Hb5.out.size; first | omega | (simp; omega)
          case hb => rw [List.length_replicate]; simp; omega
          intro v6 w6 hH6 hb6
          rw [show List.replicate j (pK 5) ++ [pK 5] = List.replicate (j + 1) (pK 5) from (List.replicate_succ').symm] at hH6
          have hf := hH6.form
          rw [List.length_replicate] at hf
          obtain ⟨a6, c6, rfl⟩ := hf
          have H6 := hid hH6
          have Hb6 := hid (show Below w.heap.size w w6 from (Hb5.out.alloc Hb5.out.size _).trans hb6)
          clear hH6 hb6
          go_wp2_with fail
          go_roundw
          case rel => exact ⟨j + 1, by omega, by omega, H6.out, Hb6.out⟩
          case measure => simp [lenV]; omega
        · have hjm : j = 40 := by omega
          subst hjm
          go_wp2_with fail
          refine (Check_any _ (List.replicate 40 (pK 5)) _ H5.out.reads (by intro c hc; rw [(List.mem_replicate.1 hc).2]; decide) (by simp)).mono ?_
          rintro _ w3 ⟨rfl, hb3⟩
          rw [show chkS (List.replicate 40 (pK 5)) = 0 from rep_chk 40 (by omega)]
          have Hb3 := hid (below_seq Hb5.out hb3)
          clear hb3
          go_wp2_with fail
          go_ret
          exact ⟨rfl, Hb3.out⟩
    · have Hb2 := hid (Hb1.out.alloc Hb1.out.size (.cells (C [⟨2, 0, ⟨#[120]⟩⟩]).toArray 42))
      go_wp2_with fail
      refine (Check_any _ [⟨2, 0, ⟨#[120]⟩⟩] _ (parts_new w2 [⟨2, 0, ⟨#[120]⟩⟩] 1 rfl).reads (by intro c hc; simp only [List.mem_singleton] at hc; subst hc; decide) (by simp)).mono ?_
      rintro _ w3 ⟨rfl, hb3⟩
      rw [show chkS [⟨2, 0, ⟨#[120]⟩⟩] = 0 from by decide]
      have Hb3 := hid (below_seq Hb2.out hb3)
      clear hb3
      go_wp2_with fail
      go_ret
      exact ⟨rfl, Hb3.out⟩
  · go_enter Try.func6, Try.ntmps6
    go_wp2_with fail
    refine (known_any _).mono ?_
    rintro _ w2 ⟨rfl, hb1⟩
    have Hb1 := hid hb1
    clear hb1
    go_wp2_with fail
    refine (within_any which 8 (by omega) (by omega) _).mono ?_
    rintro _ _ ⟨rfl, rfl⟩
    rw [ht]
    clear ht
    rcases ht8 with rfl | rfl | rfl | rfl | rfl | rfl | rfl | rfl
    · have Hb2 := hid (Hb1.out.alloc Hb1.out.size (.cells (C [⟨1, 121, ⟨#[]⟩⟩]).toArray 42))
      go_wp2_with fail
      refine (Check_any _ [⟨1, 121, ⟨#[]⟩⟩] _ (parts_new w2 [⟨1, 121, ⟨#[]⟩⟩] 1 rfl).reads (by intro c hc; simp only [List.mem_singleton] at hc; subst hc; decide) (by simp)).mono ?_
      rintro _ w3 ⟨rfl, hb3⟩
      rw [show chkS [⟨1, 121, ⟨#[]⟩⟩] = 1 from by decide]
      have Hb3 := hid (below_seq Hb2.out hb3)
      clear hb3
      go_wp2_with fail
      go_ret
      exact ⟨rfl, Hb3.out⟩
    · have Hb2 := hid (Hb1.out.alloc Hb1.out.size (.cells (C [⟨1, 0, ⟨#[]⟩⟩]).toArray 42))
      go_wp2_with fail
      refine (Check_any _ [⟨1, 0, ⟨#[]⟩⟩] _ (parts_new w2 [⟨1, 0, ⟨#[]⟩⟩] 1 rfl).reads (by intro c hc; simp only [List.mem_singleton] at hc; subst hc; decide) (by simp)).mono ?_
      rintro _ w3 ⟨rfl, hb3⟩
      rw [show chkS [⟨1, 0, ⟨#[]⟩⟩] = 1 from by decide]
      have Hb3 := hid (below_seq Hb2.out hb3)
      clear hb3
      go_wp2_with fail
      go_ret
      exact ⟨rfl, Hb3.out⟩
    · have Hb2 := hid (Hb1.out.alloc Hb1.out.size (.cells (C [⟨3, 121, ⟨#[]⟩⟩]).toArray 42))
      go_wp2_with fail
      refine (Check_any _ [⟨3, 121, ⟨#[]⟩⟩] _ (parts_new w2 [⟨3, 121, ⟨#[]⟩⟩] 1 rfl).reads (by intro c hc; simp only [List.mem_singleton] at hc; subst hc; decide) (by simp)).mono ?_
      rintro _ w3 ⟨rfl, hb3⟩
      rw [show chkS [⟨3, 121, ⟨#[]⟩⟩] = 1 from by decide]
      have Hb3 := hid (below_seq Hb2.out hb3)
      clear hb3
      go_wp2_with fail
      go_ret
      exact ⟨rfl, Hb3.out⟩
    · have hs1 := Hb1.out.size
      go_wp2_with (show wpList _ _ _ (⟨some 42, _, _, _, _, _⟩ :: _) _ _; go_must (refine wpList_make_bytes _ rfl _ _ 22 rfl 5 i0 Try.underlying22 hi hz0 hz1 hz2 .i64 .i64 _ _ 121 rfl rfl rfl rfl (by omega) ?_); intro w4 hO4 hg4 hs4; have hst := zeros_str2 hO4; have c0 : w4.cell? ⟨w2.heap.size, 0, none⟩ = _ := (blk_make w2 hg4).cell rfl; have c1 : w4.cell? ⟨w2.heap.size, 1, none⟩ = _ := (blk_make w2 hg4).cell rfl; have c2 : w4.cell? ⟨w2.heap.size, 2, none⟩ = _ := (blk_make w2 hg4).cell rfl; have f0 := (blk_make w2 hg4).frozen 0; have f1 := (blk_make w2 hg4).frozen 1; have f2 := (blk_make w2 hg4).frozen 2; replace hO4 := hid hO4; replace hg4 := hid hg4; replace hs4 := hid hs4)
      have Hb4 := hid (show Below w.heap.size w w4 from (Hb1.out.alloc hs1 _).trans ⟨hg4.out.os, hg4.out.tape, hg4.out.output, hg4.out.size, fun j hj => hg4.out.block j (by simp; omega) (by simp; omega)⟩)
      have H5 := hid (put_over (zeros 121) (blk_make w2 hg4.out))
      have Hb5 := hid (show Below w.heap.size w (((w4.setCell ⟨w2.heap.size, 0, none⟩ (.int .i64 2)).setCell ⟨w2.heap.size, 1, none⟩ (.int .i64 0)).setCell ⟨w2.heap.size, 2, none⟩ (.string (zeros 121))) from ((Hb4.out.setCell (p := ⟨w2.heap.size, 0, none⟩) hs1 _).setCell (p := ⟨w2.heap.size, 1, none⟩) hs1 _).setCell (p := ⟨w2.heap.size, 2, none⟩) hs1 _)
      refine (Check_any _ [pP (zeros 121)] _ H5.out.reads (by intro c hc; simp only [List.mem_singleton] at hc; subst hc; show (zeros 121).size ≤ _; rw [zeros_size]; omega) (by simp)).mono ?_
      rintro _ w6 ⟨rfl, hb6⟩
      rw [show chkS [pP (zeros 121)] = 5 from chk_put 121 (by omega)]
      have Hb6 := hid (below_seq Hb5.out hb6)
      clear hb6 hst c0 c1 c2 f0 f1 f2
      go_wp2_with fail
      go_ret
      exact ⟨rfl, Hb6.out⟩
    · have Hb2 := hid (Hb1.out.alloc Hb1.out.size (.cells (C [⟨2, 1, ⟨#[120]⟩⟩]).toArray 42))
      go_wp2_with fail
      refine (Check_any _ [⟨2, 1, ⟨#[120]⟩⟩] _ (parts_new w2 [⟨2, 1, ⟨#[120]⟩⟩] 1 rfl).reads (by intro c hc; simp only [List.mem_singleton] at hc; subst hc; decide) (by simp)).mono ?_
      rintro _ w3 ⟨rfl, hb3⟩
      rw [show chkS [⟨2, 1, ⟨#[120]⟩⟩] = 1 from by decide]
      have Hb3 := hid (below_seq Hb2.out hb3)
      clear hb3
      go_wp2_with fail
      go_ret
      exact ⟨rfl, Hb3.out⟩
    · have Hb2 := hid (Hb1.out.alloc Hb1.out.size (.cells (C [⟨1, 5, ⟨#[120]⟩⟩]).toArray 42))
      go_wp2_with fail
      refine (Check_any _ [⟨1, 5, ⟨#[120]⟩⟩] _ (parts_new w2 [⟨1, 5, ⟨#[120]⟩⟩] 1 rfl).reads (by intro c hc; simp only [List.mem_singleton] at hc; subst hc; decide) (by simp)).mono ?_
      rintro _ w3 ⟨rfl, hb3⟩
      rw [show chkS [⟨1, 5, ⟨#[120]⟩⟩] = 1 from by decide]
      have Hb3 := hid (below_seq Hb2.out hb3)
      clear hb3
      go_wp2_with fail
      go_ret
      exact ⟨rfl, Hb3.out⟩
    · go_wp2_with fail
      have Hb2 := hid (Hb1.out.alloc Hb1.out.size (.cells #[.int .i64 1, .int .i64 5, .string ⟨#[]⟩] 42))
      have H2 := hid ((rep_new w2).mono Hb1.out.size)
      generalize w2.alloc (.cells #[.int .i64 1, .int .i64 5, .string ⟨#[]⟩] 42) = w4 at *
      go_loopw [6] (fun vo wr => ∃ j : Nat, 1 ≤ j ∧ j ≤ 41 ∧ HasC wr w.heap.size vo (List.replicate j (pK 5)) ∧ Below w.heap.size w wr) (fun vo _ => 41 - lenV vo)
      case atStart => exact ⟨1, by omega, by omega, H2.out, Hb2.out⟩
      case round =>
        obtain ⟨j, hj1, hj2, hH, hb⟩ := hrel
        have hH' := hH
        obtain ⟨g, off, cap, e, hcp, hr, hg⟩ := hH'.reads.place (by rw [List.length_replicate]; omega)
        rw [List.length_replicate] at e hcp
        subst e
        have H5 := hid hH
        have Hb5 := hid hb
        have hjc : j ≤ cap := hcp
        obtain ⟨c0, c1, c2⟩ := RC.cells hr (j := 0) (c := pK 5) (by rw [List.getElem?_replicate, if_pos (by omega)])
        simp only [Nat.zero_mul, Nat.add_zero, pK] at c0 c1 c2
        clear hH hH' hb hr hcp
        by_cases hlt : j < 41
        · have hlt' : (j : Int) < 41 := by omega
          have hj0 : (0 : Int) < (j : Int) := by omega
          go_wp2_with (at_builtin; go_must (refine wpList_append_c rfl _ _ rfl w.heap.size _ (List.replicate j (pK 5)) rfl (H5.out.later ((Below.refl _ _).alloc (Nat.le_refl _) _)) ?hs _ [pK 5] rfl (one_new _ (pK 5) w.heap.size Hb5.out.size).reads ?hb ?_))
          case hs => have := Hb5.out.size; first | omega | (simp; omega)
          case hb => rw [List.length_replicate]; simp; omega
          intro v6 w6 hH6 hb6
          rw [show List.replicate j (pK 5) ++ [pK 5] = List.replicate (j + 1) (pK 5) from (List.replicate_succ').symm] at hH6
          have hf := hH6.form
          rw [List.length_replicate] at hf
          obtain ⟨a6, c6, rfl⟩ := hf
          have H6 := hid hH6
          have Hb6 := hid (show Below w.heap.size w w6 from (Hb5.out.alloc Hb5.out.size _).trans hb6)
          clear hH6 hb6
          go_wp2_with fail
          go_roundw
          case rel => exact ⟨j + 1, by omega, by omega, H6.out, Hb6.out⟩
          case measure => simp [lenV]; omega
        · have hjm : j = 41 := by omega
          subst hjm
          go_wp2_with fail
          refine (Check_any _ (List.replicate 41 (pK 5)) _ H5.out.reads (by intro c hc; rw [(List.mem_replicate.1 hc).2]; decide) (by simp)).mono ?_
          rintro _ w3 ⟨rfl, hb3⟩
          rw [show chkS (List.replicate 41 (pK 5)) = 4 from rep_chk41]
          have Hb3 := hid (below_seq Hb5.out hb3)
          clear hb3
          go_wp2_with fail
          go_ret
          exact ⟨rfl, Hb3.out⟩
    · have Hb2 := hid (Hb1.out.alloc Hb1.out.size (.cells (C [⟨2, 0, ⟨#[]⟩⟩]).toArray 42))
      go_wp2_with fail
      refine (Check_any _ [⟨2, 0, ⟨#[]⟩⟩] _ (parts_new w2 [⟨2, 0, ⟨#[]⟩⟩] 1 rfl).reads (by intro c hc; simp only [List.mem_singleton] at hc; subst hc; decide) (by simp)).mono ?_
      rintro _ w3 ⟨rfl, hb3⟩
      rw [show chkS [⟨2, 0, ⟨#[]⟩⟩] = 1 from by decide]
      have Hb3 := hid (below_seq Hb2.out hb3)
      clear hb3
      go_wp2_with fail
      go_ret
      exact ⟨rfl, Hb3.out⟩
theorem rowsop_row (a0 : Int) (b1 : Bool) (w : World) :
    Calls Try.prog 6 #[.int .i64 a0, .bool b1] w fun e w' => e = .returned (.bool true) ∧ Below w.heap.size w w' := rowsop_any a0 b1 w
end Go.Proofs.Ytmphckpmlkgkkaa

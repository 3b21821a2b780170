/- The contract of package transform's Pair. -/
import Derived.Test.YtlgdllbhddnokabTPairM
import Derived.Test.YtlgdllbhddnokabTSt
import Derived.Test.YtlgdllbhddnokabNormal
import Derived.Deep.DeepCutAuto
import Derived.OwnWalk
namespace Go.Proofs.Ytlgdllbhddnokab
open Go.RowKit
set_option linter.unusedSimpArgs false
set_option linter.unusedVariables false

set_option maxRecDepth 100000 in
set_option maxHeartbeats 8000000 in
theorem Pair_any (va vb : Value) (a b X Y : List Cp) (w : World) (ha : RC w va a) (hb : RC w vb b) (fa : Fit a) (fb : Fit b) (ga : Good a) (gb : Good b) (hi : inS a ≤ 1099511627776) (hj : inS b ≤ 1099511627776) (hu : outS a ≤ 549755813888) (ht : outS b ≤ 549755813888) (hl : a.length + b.length ≤ 1048576)
    (hX : inS a = inS b → PR (normS a) (normS b) X Y) :
    Calls Try.prog 8 #[va, vb] w fun e w' => (inS a ≠ inS b → e = .returned (.tuple #[.slice none 0 0, .slice none 0 0, .int .i64 7])) ∧ (inS a = inS b → ∃ vx vy, e = .returned (.tuple #[vx, vy, .int .i64 0]) ∧ HasC w' w.heap.size vx (normS X) ∧ HasC w' w.heap.size vy (normS Y)) ∧ Below w.heap.size w w' := by
  obtain ⟨ao, ac, rfl⟩ := ha.form
  obtain ⟨bo, bc, rfl⟩ := hb.form
  obtain ⟨I, hI⟩ : ∃ I : Nat, inS a = I := Int.eq_ofNat_of_zero_le ga.inS_nn
  have HA := hid ha
  have HB := hid hb
  have HFA := hid fa
  have HFB := hid fb
  have HGA := hid ga
  have HGB := hid gb
  have HIA := hid hI
  have HX := hid hX
  have hI2 : I ≤ 1099511627776 := by omega
  have HPA := hid (fun e : inS a = inS b => pr_pa (hX e) (norm_good ga) (norm_good gb) (by rw [in_norm _ ga, in_norm _ gb, e]))
  have HL := hid hl
  have HJ := hid hj
  have HU := hid hu
  have HT' := hid ht
  clear ha hb fa fb ga gb hX hi hj hu ht hl hI
  go_enter Try.func8, Try.ntmps8
  go_wp2_with fail
  refine wp_scope_at 0 (fun a' w' => inS a = inS b ∧ ∃ (W : World) (g : Nat) (va vb vx vy : Value) (c d : Cp) (s0 sn t0 tn : Nat) (al bl lx ly : List Cp), a' = ⟨#[va, vb, a'.tmps.getD 2 undef, a'.tmps.getD 3 undef, vx, vy, .int .i64 0, .pointer (some ⟨g, 0, none⟩), .pointer (some ⟨g + 1, 0, none⟩), st s0 sn, st t0 tn, a'.tmps.getD 11 undef, a'.tmps.getD 12 undef, a'.tmps.getD 13 undef, a'.tmps.getD 14 undef, a'.tmps.getD 15 undef, a'.tmps.getD 16 undef, a'.tmps.getD 17 undef, a'.tmps.getD 18 undef, a'.tmps.getD 19 undef, a'.tmps.getD 20 undef, a'.tmps.getD 21 undef, a'.tmps.getD 22 undef, a'.tmps.getD 23 undef, a'.tmps.getD 24 undef, a'.tmps.getD 25 undef, a'.tmps.getD 26 undef, a'.tmps.getD 27 undef, a'.tmps.getD 28 undef, a'.tmps.getD 29 undef, a'.tmps.getD 30 undef, a'.tmps.getD 31 undef, a'.tmps.getD 32 undef, a'.tmps.getD 33 undef, a'.tmps.getD 34 undef, a'.tmps.getD 35 undef, a'.tmps.getD 36 undef, a'.tmps.getD 37 undef, a'.tmps.getD 38 undef, a'.tmps.getD 39 undef, a'.tmps.getD 40 undef, a'.tmps.getD 41 undef, a'.tmps.getD 42 undef, a'.tmps.getD 43 undef, a'.tmps.getD 44 undef, a'.tmps.getD 45 undef, a'.tmps.getD 46 undef, a'.tmps.getD 47 undef, a'.tmps.getD 48 undef, a'.tmps.getD 49 undef, a'.tmps.getD 50 undef, a'.tmps.getD 51 undef, a'.tmps.getD 52 undef, a'.tmps.getD 53 undef, a'.tmps.getD 54 undef, a'.tmps.getD 55 undef, a'.tmps.getD 56 undef, a'.tmps.getD 57 undef, a'.tmps.getD 58 undef, a'.tmps.getD 59 undef, a'.tmps.getD 60 undef, a'.tmps.getD 61 undef, a'.tmps.getD 62 undef, a'.tmps.getD 63 undef, a'.tmps.getD 64 undef, a'.tmps.getD 65 undef, a'.tmps.getD 66 undef, a'.tmps.getD 67 undef, a'.tmps.getD 68 undef, a'.tmps.getD 69 undef, a'.tmps.getD 70 undef, a'.tmps.getD 71 undef, a'.tmps.getD 72 undef, a'.tmps.getD 73 undef, a'.tmps.getD 74 undef, a'.tmps.getD 75 undef, a'.tmps.getD 76 undef, a'.tmps.getD 77 undef, a'.tmps.getD 78 undef, a'.tmps.getD 79 undef, a'.tmps.getD 80 undef, a'.tmps.getD 81 undef, a'.tmps.getD 82 undef, a'.tmps.getD 83 undef, a'.tmps.getD 84 undef, a'.tmps.getD 85 undef, a'.tmps.getD 86 undef, a'.tmps.getD 87 undef, a'.tmps.getD 88 undef, a'.tmps.getD 89 undef, a'.tmps.getD 90 undef, a'.tmps.getD 91 undef, a'.tmps.getD 92 undef, a'.tmps.getD 93 undef, a'.tmps.getD 94 undef, a'.tmps.getD 95 undef, a'.tmps.getD 96 undef], []⟩ ∧ PT I X Y c d s0 sn t0 tn al bl lx ly ∧ PM W w' g va vb vx vy c d al bl lx ly ∧ Below w.heap.size w W)
    (fun a' _ => lenOf (a'.tmps.getD 0 undef) + lenOf (a'.tmps.getD 1 undef)) rfl ?pass ?first
  case first =>
    intro hy
    have HY := hid hy
    clear hy
    go_wp2_with fail
    refine (In_any _ a _ HA.out HFA.out).mono ?_
    rintro _ w1 ⟨rfl, hb1⟩
    have Hb1 := hid hb1
    clear hb1
    obtain ⟨n0, hn0⟩ : ∃ n0, inS a = n0 := ⟨_, rfl⟩
    rw [hn0]
    go_wp2_with fail
    refine (In_any _ b _ (HB.out.later Hb1.out) HFB.out).mono ?_
    rintro _ w2 ⟨rfl, hb2⟩
    have Hb2 := hid (below_seq Hb1.out hb2)
    clear hb2
    obtain ⟨n1, hn1⟩ : ∃ n1, inS b = n1 := ⟨_, rfl⟩
    rw [hn1]
    by_cases h1 : n0 = n1
    case neg =>
      have hne : (n0 == n1) = false := by simpa using h1
      have HN := hid (show ¬ inS a = inS b by rw [hn0, hn1]; exact h1)
      clear h1 hn0 hn1
      go_wp2_with fail
      simp only [Exit.jump]
      go_ret3
      exact ⟨fun _ => rfl, fun h => absurd h HN.out, Hb2.out⟩
    have HE := hid (show inS a = inS b by rw [hn0, hn1]; exact h1)
    subst h1
    clear hn0 hn1
    go_wp2_with fail
    refine (Normal_any _ a _ (HA.out.later Hb2.out) HFA.out HGA.out (by have := HU.out; omega)).mono ?_
    rintro _ w3 ⟨v3, rfl, hH3, hb3⟩
    have HH3 := hid hH3
    have Hb3 := hid (below_seq Hb2.out hb3)
    clear hH3 hb3
    go_wp2_with fail
    refine (Normal_any _ b _ (HB.out.later Hb3.out) HFB.out HGB.out (by have := HT'.out; omega)).mono ?_
    rintro _ w4 ⟨v4, rfl, hH4, hb4⟩
    have HH4 := hid hH4
    have HH3' := hid (HH3.out.later hb4)
    have Hb4 := hid (below_seq Hb3.out hb4)
    clear hH4 hb4
    go_wp2_with fail
    rename_i hK
    refine wp_label (hK _ _ (HY.out _ _ ⟨HE.out, w4, w4.heap.size, _, _, _, _, ⟨0, 0, ⟨#[]⟩⟩, ⟨0, 0, ⟨#[]⟩⟩, 0, 0, 0, 0, normS a, normS b, [], [], rfl, ?_, ?_, Hb4.out⟩))
    · have h1 := HIA.out
      have h2 := HE.out
      have h3 := HL.out
      have h4 := HU.out
      have h5 := HT'.out
      exact PT.start (norm_fit HGA.out (by omega) (by omega) (by omega)) (norm_fit HGB.out (by omega) (by omega) (by omega)) (norm_good HGA.out) (norm_good HGB.out) (by rw [in_norm _ HGA.out]; omega) (by rw [in_norm _ HGB.out]; omega) (HX.out HE.out) _ _
    · refine ⟨((Below.refl _ _).alloc (Nat.le_refl _) _).alloc (by simp) _, HH3'.out.reads, HH4.out.reads, (Blk.new w4 _ _).alloc _, ?_, O2.nil _ _, Nat.le_refl _⟩
      have := Blk.new (w4.alloc (.cells #[.int .i64 0, .int .i64 0, .string ⟨#[]⟩] 42)) 42 [.int .i64 0, .int .i64 0, .string ⟨#[]⟩]
      rwa [show (w4.alloc (.cells #[.int .i64 0, .int .i64 0, .string ⟨#[]⟩] 42)).heap.size = w4.heap.size + 1 by simp] at this
  case pass =>
    rintro a' w' ⟨hE, W, g, va, vb, vx, vy, c, d, s0, sn, t0, tn, al, bl, lx, ly, ha, hT, hM, hbW⟩
    obtain ⟨f, ha2⟩ : ∃ f : Nat → Value, a' = ⟨#[va, vb, f 2, f 3, vx, vy, .int .i64 0, .pointer (some ⟨g, 0, none⟩), .pointer (some ⟨g + 1, 0, none⟩), st s0 sn, st t0 tn, f 11, f 12, f 13, f 14, f 15, f 16, f 17, f 18, f 19, f 20, f 21, f 22, f 23, f 24, f 25, f 26, f 27, f 28, f 29, f 30, f 31, f 32, f 33, f 34, f 35, f 36, f 37, f 38, f 39, f 40, f 41, f 42, f 43, f 44, f 45, f 46, f 47, f 48, f 49, f 50, f 51, f 52, f 53, f 54, f 55, f 56, f 57, f 58, f 59, f 60, f 61, f 62, f 63, f 64, f 65, f 66, f 67, f 68, f 69, f 70, f 71, f 72, f 73, f 74, f 75, f 76, f 77, f 78, f 79, f 80, f 81, f 82, f 83, f 84, f 85, f 86, f 87, f 88, f 89, f 90, f 91, f 92, f 93, f 94, f 95, f 96], []⟩ := ⟨fun j => a'.tmps.getD j undef, ha⟩
    clear ha
    subst ha2
    obtain ⟨aa, ca, rfl⟩ := hM.ra.form
    obtain ⟨ab, cb, rfl⟩ := hM.rb.form
    obtain ⟨xo, xc, rfl⟩ := hM.out.o1.form
    obtain ⟨yo, yc, rfl⟩ := hM.out.o2.form
    have hle := hT.le
    have hls := hT.ls
    have hlt := hT.lt
    have hll := hT.len
    have hla := hT.fa.1
    have hlb := hT.fb.1
    have hlx : X.length ≤ 1048576 ∧ Y.length ≤ 1048576 := by
      have h1 := (HPA.out hE).lx
      have h2 := (HPA.out hE).ly
      have h3 := len_norm a
      have h4 := len_norm b
      have h5 := HL.out
      omega
    have HT := hid hT
    have HM := hid hM
    have HBW := hid hbW
    have HE := hid hE
    clear hT hM hbW hE
    by_cases hB : bl ≠ [] ∧ (al = [] ∨ t0 + tn < s0 + sn)
    · obtain ⟨hb1, hb2⟩ := hB
      cases bl with
      | nil => exact absurd rfl hb1
      | cons e bl =>
        have hAle : t0 + tn ≤ s0 + sn := by
          rcases hb2 with h | h
          · subst h; exact HT.out.endA
          · omega
        have hAeq : s0 + sn = t0 + tn → al = [] := fun h0 => by
          rcases hb2 with h | h
          · exact h
          · omega
        have e8 : ((al.length : Int) + ((bl.length : Int) + 1) == 0) = false := by simp; omega
        have e9 : (((bl.length : Int) + 1) == 0) = false := by simp; omega
        have k1 := fun t => fl_leq t (s0 + sn) (t0 + tn) (by omega) (by omega)
        simp only [List.length_cons] at hlb ⊢
        clear hb1
        go_upto_region 10 with fail
        go_cut [49] (fun s49 w2 => s49 = .bool false ∧ w' = w2)
        case first =>
          cases al with
          | nil =>
            go_wp2_with fail
            go_meet
            exact ⟨rfl, rfl⟩
          | cons e2 al =>
            have hgt : ¬ s0 + sn ≤ t0 + tn := by
              rcases hb2 with h | h
              · cases h
              · omega
            rw [decide_eq_false hgt] at k1
            have hpos : (0 : Int) < (al.length : Int) + 1 := by omega
            simp only [List.length_cons] at hla e8 ⊢
            go_wp2_with fail
            refine (tend_any s0 sn (by omega) _).mono ?_
            rintro _ wx ⟨rfl, rfl⟩
            go_wp2_with fail
            refine (tend_any t0 tn (by omega) _).mono ?_
            rintro _ wx ⟨rfl, rfl⟩
            go_wp2_with fail
            go_meet
            exact ⟨rfl, rfl⟩
        case rest =>
        obtain ⟨rfl, rfl⟩ := hcut
        clear k1 e8 e9 hb2
        have hra := HM.out.rb
        simp only [List.length_cons] at hra
        obtain ⟨p2, q2, hslT, hrt⟩ := tail_c hra
        obtain ⟨q1, hslH, hrh⟩ := head_c hra
        obtain ⟨gg, oo, ca', e', hcap, hr, hga⟩ := hra.place (by simp)
        injection e' with e1 e2 e3
        subst e1 e3
        have HCL := hid (show W.rangeAt gg oo e.vals by have := RC.at hr (j := 0) (c := e) rfl; rwa [Nat.zero_mul, Nat.add_zero] at this)
        have HRT := hid hrt
        have HRH := hid hrh
        have hok := HT.out.gb.hd
        have hA1 := HT.out.fb.one
        have HF1 := hid (show Fit [e] from ⟨by simp, fun x hx => by simp at hx; subst hx; exact hA1⟩)
        obtain ⟨m, hm⟩ : ∃ m : Nat, e.over = (m : Int) := Int.eq_ofNat_of_zero_le (over_nn hok).1
        have HI1 := hid (show inS [e] = (m : Int) by rw [in_cons, hm]; simp [inS])
        have HMo := hid hm
        have hm3 : m ≤ 1099511627776 := by have := Cp.over_le hA1; omega
        have hsz : e.s.size ≤ 1099511627776 := hA1.2.2
        have HOk := hid hok
        clear hr hra hrt hrh e2 hm hok hA1 hga
        go_wp2_with fail
        refine wp_region_held_drew (S := fun w' => Below W.heap.size W w') (by kernel_rfl) (HM.out.below.drew) (fun hHeld => ?_)
        refine wpAnyH_take (i := 0) (v := .slice (some ⟨gg, oo, none⟩) (bl.length + 1) cb) rfl (by kernel_rfl) (by kernel_rfl) (by kernel_rfl) (fun _ _ _ h => h) (Or.inl ⟨by rfl, by intro w hSw; go_simp⟩) hHeld ?_
        try simp only [Act.put, List.setIfInBounds_toArray, List.set_cons_zero, List.set_cons_succ, List.getElem_toArray, List.getElem_cons_zero, List.getElem_cons_succ]
        refine wpAnyH_take (i := 1) (v := .pointer (some ⟨gg, oo, none⟩)) rfl (by kernel_rfl) (by kernel_rfl) (by kernel_rfl) (fun _ _ _ h => h) (Or.inl ⟨by rfl, by intro w hSw; clear hSw; go_simp⟩) hHeld ?_
        try simp only [Act.put, List.setIfInBounds_toArray, List.set_cons_zero, List.set_cons_succ, List.getElem_toArray, List.getElem_cons_zero, List.getElem_cons_succ]
        refine wpAnyH_take (i := 2) (v := _) rfl (by kernel_rfl) (by kernel_rfl) (by kernel_rfl) (fun _ _ _ h => h) (yieldsIf_load_mid (by rfl) _ _ rfl _ _ rfl e.vals _ (fun w hSw => fun i u hi => cell_later hSw (HCL.out i u hi)) Try.underlying42 rfl (by kernel_rfl)) hHeld ?_
        try simp only [Act.put, List.setIfInBounds_toArray, List.set_cons_zero, List.set_cons_succ, List.getElem_toArray, List.getElem_cons_zero, List.getElem_cons_succ]
        refine wpAnyH_take (i := 3) (v := st t0 tn) rfl (by kernel_rfl) (by kernel_rfl) (by kernel_rfl) (fun _ _ _ h => h) (Or.inl ⟨by rfl, by intro w hSw; go_simp⟩) hHeld ?_
        try simp only [Act.put, List.setIfInBounds_toArray, List.set_cons_zero, List.set_cons_succ, List.getElem_toArray, List.getElem_cons_zero, List.getElem_cons_succ]
        refine wpAnyH_take (i := 4) (v := .slice (some ⟨gg, oo, none⟩) (bl.length + 1) cb) rfl (by kernel_rfl) (by kernel_rfl) (by kernel_rfl) (fun _ _ _ h => h) (Or.inl ⟨by rfl, by intro w hSw; go_simp⟩) hHeld ?_
        try simp only [Act.put, List.setIfInBounds_toArray, List.set_cons_zero, List.set_cons_succ, List.getElem_toArray, List.getElem_cons_zero, List.getElem_cons_succ]
        refine wpAnyH_take (i := 5) (v := .slice (some ⟨gg, oo, none⟩) 1 q1) rfl (by kernel_rfl) (by kernel_rfl) (by kernel_rfl) (fun _ _ _ h => h) (Or.inl ⟨by rfl, by intro w hSw; go_simp⟩) hHeld ?_
        try simp only [Act.put, List.setIfInBounds_toArray, List.set_cons_zero, List.set_cons_succ, List.getElem_toArray, List.getElem_cons_zero, List.getElem_cons_succ]
        refine wpAnyH_take (i := 8) (v := .slice (some ⟨gg, oo, none⟩) (bl.length + 1) cb) rfl (by kernel_rfl) (by kernel_rfl) (by kernel_rfl) (fun _ _ _ h => h) (Or.inl ⟨by rfl, by intro w hSw; go_simp⟩) hHeld ?_
        try simp only [Act.put, List.setIfInBounds_toArray, List.set_cons_zero, List.set_cons_succ, List.getElem_toArray, List.getElem_cons_zero, List.getElem_cons_succ]
        refine wpAnyH_take (i := 9) (v := .slice p2 bl.length q2) rfl (by kernel_rfl) (by kernel_rfl) (by kernel_rfl) (fun _ _ _ h => h) (Or.inl ⟨by rfl, by intro w hSw; go_simp⟩) hHeld ?_
        try simp only [Act.put, List.setIfInBounds_toArray, List.set_cons_zero, List.set_cons_succ, List.getElem_toArray, List.getElem_cons_zero, List.getElem_cons_succ]
        clear hslH hslT
        refine wpAnyH_ready (rs := [6]) (by kernel_rfl) (by simp) ?_
        refine AllReadyH.cons rfl (fun K hK => ?_) AllReadyH.nil
        go_simp
        refine (In_any _ [e] _ (HRH.out.later HM.out.below.drew) HF1.out).mono ?_
        rintro _ w2 ⟨rfl, hb2⟩
        rw [HI1.out]
        have HM2 := hid (HM.out.later (show Below w'.heap.size w' w2 from ((Below.refl _ _).drew).trans hb2))
        clear hb2
        refine hK.out _ _ (HM2.out.below) (fun hHeld => ?_)
        clear hK K
        try simp only [Act.put, List.setIfInBounds_toArray, List.set_cons_zero, List.set_cons_succ, List.getElem_toArray, List.getElem_cons_zero, List.getElem_cons_succ]
        refine wpAnyH_ready (rs := [7]) (by kernel_rfl) (by simp) ?_
        refine AllReadyH.cons rfl (fun K hK => ?_) AllReadyH.nil
        go_simp
        refine (tnext_any t0 tn m (by omega) _).mono ?_
        rintro _ wx ⟨rfl, rfl⟩
        refine hK.out _ _ (HM2.out.below) (fun hHeld => ?_)
        clear hK K
        try simp only [Act.put, List.setIfInBounds_toArray, List.set_cons_zero, List.set_cons_succ, List.getElem_toArray, List.getElem_cons_zero, List.getElem_cons_succ]
        refine wpAnyH_ready (rs := [10]) (by kernel_rfl) (by simp) ?_
        refine AllReadyH.cons rfl (fun K hK => ?_) AllReadyH.nil
        refine Eq.mpr (if_pos (by rfl)) ?_
        refine wp_store_box _ _ rfl (g + 1) d e rfl rfl HM2.out.bd ?_
        intro w3 hB3 hk3 hb3
        have HM3 := hid (HM2.out.putB HRT.out hB3 hk3 hb3)
        clear hB3 hk3 hb3 HM2
        refine hK.out _ _ HM3.out.below (fun hHeld => ?_)
        clear hK K
        try simp only [Act.put, List.setIfInBounds_toArray, List.set_cons_zero, List.set_cons_succ, List.getElem_toArray, List.getElem_cons_zero, List.getElem_cons_succ]
        refine wpAnyH_ready (rs := [11]) (by kernel_rfl) (by simp) ?_
        refine AllReadyH.cons rfl (fun K hK => ?_) AllReadyH.nil
        go_simp
        refine hK.out _ _ (HM3.out.below) (fun hHeld => ?_)
        clear hK K
        try simp only [Act.put, List.setIfInBounds_toArray, List.set_cons_zero, List.set_cons_succ, List.getElem_toArray, List.getElem_cons_zero, List.getElem_cons_succ]
        refine wpAnyH_ready (rs := [12]) (by kernel_rfl) (by simp) ?_
        refine AllReadyH.cons rfl (fun K hK => ?_) AllReadyH.nil
        go_simp
        refine hK.out _ _ (HM3.out.below) (fun hHeld => ?_)
        clear hK K
        try simp only [Act.put, List.setIfInBounds_toArray, List.set_cons_zero, List.set_cons_succ, List.getElem_toArray, List.getElem_cons_zero, List.getElem_cons_succ]
        refine wpAnyH_done (by kernel_rfl) ?_ _
        have z0 : w3.cell? ⟨g + 1, 0, none⟩ = some (.int .i64 e.k) := HM3.out.bd.cell rfl
        have z1 : w3.cell? ⟨g + 1, 1, none⟩ = some (.int .i64 e.n) := HM3.out.bd.cell rfl
        have z2 : w3.cell? ⟨g + 1, 2, none⟩ = some (.string e.s) := HM3.out.bd.cell rfl
        go_wp2_with fail
        refine (placed_any _ _ ly lx e (g + 2) _ HM3.out.out.swap HM3.out.hi (by omega) (by omega) hsz).mono ?_
        rintro _ w4 ⟨x4, y4, rfl, hO4, hb4⟩
        have HM4 := hid (HM3.out.app hb4 hO4.swap)
        clear hO4 hb4 z0 z1 z2 HM3
        skip
        obtain ⟨lx4, hlx4⟩ : ∃ l, lx ++ keptL e = l := ⟨_, rfl⟩
        obtain ⟨ly4, hly4⟩ : ∃ l, ly ++ putL e = l := ⟨_, rfl⟩
        rw [hlx4, hly4] at HM4
        have HLX := hid hlx4
        have HLY := hid hly4
        clear hlx4 hly4
        obtain ⟨ax, cx, rfl⟩ := HM4.out.out.o1.form
        obtain ⟨ay, cy, rfl⟩ := HM4.out.out.o2.form
        go_wp2_with fail
        refine (tshared_any s0 sn (t0 + tn) m (by omega) (by omega) (by omega) (by omega) _).mono ?_
        rintro _ wx ⟨rfl, rfl⟩
        obtain ⟨N, hN⟩ : ∃ N, min (s0 + sn) (t0 + tn + m) - max s0 (t0 + tn) = N := ⟨_, rfl⟩
        rw [hN]
        have hN2 : N ≤ 1099511627776 := by omega
        have HN := hid hN
        clear hN
        by_cases hk : e.k = 2
        · have hm0 : m = 0 := by have := HMo.out; rw [Cp.over, if_neg (by omega)] at this; omega
          subst hm0
          have hN0 : N = 0 := by have := HN.out; omega
          subst hN0
          have HPT := hid (HT.out.bPut hAle hAeq hk)
          have hpk := put_k hk
          rw [hpk.2] at HLX
          rw [hpk.1] at HLY
          rw [HLX.out, HLY.out] at HPT
          have HM5 := HM4
          clear hk hpk HM4
          go_wp2_with fail
          go_step3
          refine ⟨rfl, ⟨HE.out, W, g, _, _, _, _, c, e, s0, sn, t0 + tn, 0, al, bl, _, _, rfl, HPT.out, HM5.out, HBW.out⟩, ?_⟩
          simp [lenOf]
        · have hme : m = e.sz := by have := HMo.out; rw [over_sz HOk.out hk] at this; omega
          subst hme
          have hpt := HT.out.bMove hAle hAeq hk N HN.out.symm
          have hN0 := hpt.1
          have HPT := hid hpt.2
          have hpk := move_k hk
          rw [hpk.2, List.append_nil] at HLX
          rw [hpk.1, List.append_nil] at HLY
          have hx4 := HLX.out
          have hy4 := HLY.out
          subst hx4 hy4
          clear hk hpk hpt HLX HLY
          have hNp : (0 : Int) < (N : Int) := by omega
          clear hN0
          go_wp2_with fail
          refine wp_region_held_drew (S := fun w' => Blk w' 42 g c.vals ∧ Blk w' 42 (g + 1) e.vals) (by kernel_rfl) (⟨HM4.out.bc.kept rfl, HM4.out.bd.kept rfl⟩) (fun hHeld => ?_)
          refine wpAnyH_take (i := 0) (v := .slice ax lx.length cx) rfl (by kernel_rfl) (by kernel_rfl) (by kernel_rfl) (fun _ _ _ h => h) (Or.inl ⟨by rfl, by intro w hSw; go_simp⟩) hHeld ?_
          try simp only [Act.put, List.setIfInBounds_toArray, List.set_cons_zero, List.set_cons_succ, List.getElem_toArray, List.getElem_cons_zero, List.getElem_cons_succ]
          refine wpAnyH_take (i := 1) (v := _) rfl (by kernel_rfl) (by kernel_rfl) (by kernel_rfl) (fun _ _ _ h => h) (yieldsIf_load_mid (by rfl) _ _ rfl _ _ rfl c.vals _ (fun w hSw => hSw.1.range fun j v hv => by rw [Nat.zero_add]; exact hv) Try.underlying42 rfl (by kernel_rfl)) hHeld ?_
          try simp only [Act.put, List.setIfInBounds_toArray, List.set_cons_zero, List.set_cons_succ, List.getElem_toArray, List.getElem_cons_zero, List.getElem_cons_succ]
          refine wpAnyH_take (i := 2) (v := _) rfl (by kernel_rfl) (by kernel_rfl) (by kernel_rfl) (fun _ _ _ h => h) (yieldsIf_load_mid (by rfl) _ _ rfl _ _ rfl e.vals _ (fun w hSw => hSw.2.range fun j v hv => by rw [Nat.zero_add]; exact hv) Try.underlying42 rfl (by kernel_rfl)) hHeld ?_
          try simp only [Act.put, List.setIfInBounds_toArray, List.set_cons_zero, List.set_cons_succ, List.getElem_toArray, List.getElem_cons_zero, List.getElem_cons_succ]
          refine wpAnyH_take (i := 3) (v := .int .i64 (N : Int)) rfl (by kernel_rfl) (by kernel_rfl) (by kernel_rfl) (fun _ _ _ h => h) (Or.inl ⟨by rfl, by intro w hSw; go_simp⟩) hHeld ?_
          try simp only [Act.put, List.setIfInBounds_toArray, List.set_cons_zero, List.set_cons_succ, List.getElem_toArray, List.getElem_cons_zero, List.getElem_cons_succ]
          refine wpAnyH_take (i := 5) (v := .slice ay ly.length cy) rfl (by kernel_rfl) (by kernel_rfl) (by kernel_rfl) (fun _ _ _ h => h) (Or.inl ⟨by rfl, by intro w hSw; go_simp⟩) hHeld ?_
          try simp only [Act.put, List.setIfInBounds_toArray, List.set_cons_zero, List.set_cons_succ, List.getElem_toArray, List.getElem_cons_zero, List.getElem_cons_succ]
          refine wpAnyH_take (i := 6) (v := _) rfl (by kernel_rfl) (by kernel_rfl) (by kernel_rfl) (fun _ _ _ h => h) (yieldsIf_load_mid (by rfl) _ _ rfl _ _ rfl e.vals _ (fun w hSw => hSw.2.range fun j v hv => by rw [Nat.zero_add]; exact hv) Try.underlying42 rfl (by kernel_rfl)) hHeld ?_
          try simp only [Act.put, List.setIfInBounds_toArray, List.set_cons_zero, List.set_cons_succ, List.getElem_toArray, List.getElem_cons_zero, List.getElem_cons_succ]
          refine wpAnyH_take (i := 7) (v := _) rfl (by kernel_rfl) (by kernel_rfl) (by kernel_rfl) (fun _ _ _ h => h) (yieldsIf_load_mid (by rfl) _ _ rfl _ _ rfl c.vals _ (fun w hSw => hSw.1.range fun j v hv => by rw [Nat.zero_add]; exact hv) Try.underlying42 rfl (by kernel_rfl)) hHeld ?_
          try simp only [Act.put, List.setIfInBounds_toArray, List.set_cons_zero, List.set_cons_succ, List.getElem_toArray, List.getElem_cons_zero, List.getElem_cons_succ]
          refine wpAnyH_take (i := 8) (v := .int .i64 (N : Int)) rfl (by kernel_rfl) (by kernel_rfl) (by kernel_rfl) (fun _ _ _ h => h) (Or.inl ⟨by rfl, by intro w hSw; go_simp⟩) hHeld ?_
          try simp only [Act.put, List.setIfInBounds_toArray, List.set_cons_zero, List.set_cons_succ, List.getElem_toArray, List.getElem_cons_zero, List.getElem_cons_succ]
          refine wpAnyH_ready (rs := [4]) (by kernel_rfl) (by simp) ?_
          refine AllReadyH.cons rfl (fun K hK => ?_) AllReadyH.nil
          go_simp
          refine (led_any _ _ lx ly c e N (g + 2) _ (HM4.out.out.later (Below.refl _ _).drew) (by exact HM4.out.hi) (by omega)).mono ?_
          rintro _ w5 ⟨x5, rfl, hO5, hb5⟩
          have HM5a := hid (HM4.out.app (show Below (g + 2) wx w5 from ((Below.refl _ _).drew).trans hb5) hO5)
          obtain ⟨ax5, cx5, rfl⟩ := HM5a.out.out.o1.form
          obtain ⟨lx5, hlx5⟩ : ∃ l, lx ++ ledS N c e = l := ⟨_, rfl⟩
          rw [hlx5] at HM5a HPT ⊢
          clear hO5 hb5 hlx5
          refine hK.out _ _ (⟨HM5a.out.bc, HM5a.out.bd⟩) (fun hHeld => ?_)
          clear hK K
          try simp only [Act.put, List.setIfInBounds_toArray, List.set_cons_zero, List.set_cons_succ, List.getElem_toArray, List.getElem_cons_zero, List.getElem_cons_succ]
          refine wpAnyH_ready (rs := [9]) (by kernel_rfl) (by simp) ?_
          refine AllReadyH.cons rfl (fun K hK => ?_) AllReadyH.nil
          go_simp
          refine (led_any _ _ ly _ e c N (g + 2) _ HM5a.out.out.swap HM5a.out.hi (by omega)).mono ?_
          rintro _ w6 ⟨y5, rfl, hO6, hb6⟩
          have HM5 := hid (HM5a.out.app hb6 hO6.swap)
          obtain ⟨ay5, cy5, rfl⟩ := HM5.out.out.o2.form
          obtain ⟨ly5, hly5⟩ : ∃ l, ly ++ ledS N e c = l := ⟨_, rfl⟩
          rw [hly5] at HM5 HPT ⊢
          clear hO6 hb6 HM5a hly5
          refine hK.out _ _ (⟨HM5.out.bc, HM5.out.bd⟩) (fun hHeld => ?_)
          clear hK K
          try simp only [Act.put, List.setIfInBounds_toArray, List.set_cons_zero, List.set_cons_succ, List.getElem_toArray, List.getElem_cons_zero, List.getElem_cons_succ]
          refine wpAnyH_ready (rs := [10]) (by kernel_rfl) (by simp) ?_
          refine AllReadyH.cons rfl (fun K hK => ?_) AllReadyH.nil
          go_simp
          refine hK.out _ _ (⟨HM5.out.bc, HM5.out.bd⟩) (fun hHeld => ?_)
          clear hK K
          try simp only [Act.put, List.setIfInBounds_toArray, List.set_cons_zero, List.set_cons_succ, List.getElem_toArray, List.getElem_cons_zero, List.getElem_cons_succ]
          refine wpAnyH_ready (rs := [11]) (by kernel_rfl) (by simp) ?_
          refine AllReadyH.cons rfl (fun K hK => ?_) AllReadyH.nil
          go_simp
          refine hK.out _ _ (⟨HM5.out.bc, HM5.out.bd⟩) (fun hHeld => ?_)
          clear hK K
          try simp only [Act.put, List.setIfInBounds_toArray, List.set_cons_zero, List.set_cons_succ, List.getElem_toArray, List.getElem_cons_zero, List.getElem_cons_succ]
          refine wpAnyH_done (by kernel_rfl) ?_ _
          go_wp2_with fail
          go_step3
          refine ⟨rfl, ⟨HE.out, W, g, _, _, _, _, c, e, s0, sn, t0 + tn, e.sz, al, bl, _, _, rfl, HPT.out, HM5.out, HBW.out⟩, ?_⟩
          simp [lenOf]
    · cases al with
      | nil =>
        have hbl : bl = [] := by
          cases bl with
          | nil => rfl
          | cons e bl => exact absurd ⟨by simp, Or.inl rfl⟩ hB
        subst hbl
        clear hB
        have hov := HT.out.over
        have HXe := hid hov.1
        have HYe := hid hov.2
        have HP := hid (HPA.out HE.out)
        have hob : outS X ≤ 1099511627776 := by
          have h1 := HP.out.outs (norm_good HGB.out)
          rw [out_norm _ HGA.out, out_norm _ HGB.out] at h1
          have h2 := HU.out
          have h3 := HT'.out
          omega
        have hix : inS X ≤ 1099511627776 := by rw [HP.out.ix, out_norm _ HGB.out]; have := HT'.out; omega
        have hiy : inS Y ≤ 1099511627776 := by rw [HP.out.iy, out_norm _ HGA.out]; have := HU.out; omega
        have HFX := hid (fit_of HP.out.gx hlx.1 hix hob)
        have HFY := hid (fit_of HP.out.gy hlx.2 hiy (by rw [← HP.out.oo]; exact hob))
        have HOB := hid hob
        rw [hov.1, hov.2]
        have HOX := hid (show HasC w' (g + 2) _ X by rw [← hov.1]; exact HM.out.out.o1)
        have HOY := hid (show HasC w' (g + 2) _ Y by rw [← hov.2]; exact HM.out.out.o2)
        rw [hov.1] at HOX
        rw [hov.2] at HOY
        clear hov hob hix hiy hle hls hlt hll hla hlb
        go_wp2_with fail
        refine (Normal_any _ X _ HOX.out.reads HFX.out HP.out.gx HOB.out).mono ?_
        rintro _ w3 ⟨v3, rfl, hH3, hb3⟩
        have HH3 := hid (hH3.mono (B2 := w.heap.size) (Nat.le_trans HBW.out.size HM.out.below.size))
        have Hb3 := hid (below_seq (below_seq HBW.out HM.out.below) hb3)
        have HOY3 := hid (HOY.out.later hb3)
        clear hH3 hb3
        go_wp2_with fail
        refine (Normal_any _ Y _ HOY3.out.reads HFY.out HP.out.gy (by rw [← HP.out.oo]; exact HOB.out)).mono ?_
        rintro _ w4 ⟨v4, rfl, hH4, hb4⟩
        have HH4 := hid (hH4.mono (B2 := w.heap.size) Hb3.out.size)
        have HH3' := hid (HH3.out.later hb4)
        have Hb4 := hid (below_seq Hb3.out hb4)
        clear hH4 hb4
        go_wp2_with fail
        simp only [Exit.jump]
        go_ret3
        exact ⟨fun h => absurd HE.out h, fun _ => ⟨_, _, rfl, HH3'.out, HH4.out⟩, Hb4.out⟩
      | cons e al =>
        have hA : bl = [] ∨ s0 + sn ≤ t0 + tn := by
          cases bl with
          | nil => exact .inl rfl
          | cons e2 bl =>
            right
            refine Nat.le_of_not_lt (fun h => hB ⟨by simp, .inr h⟩)
        have hAle : s0 + sn ≤ t0 + tn := by
          rcases hA with h | h
          · subst h; exact HT.out.endB
          · exact h
        have e8 : ((al.length : Int) + 1 + (bl.length : Int) == 0) = false := by simp; omega
        have hpos : (0 : Int) < (al.length : Int) + 1 := by omega
        have k1 := fun t => fl_leq t (s0 + sn) (t0 + tn) (by omega) (by omega)
        rw [decide_eq_true hAle] at k1
        simp only [List.length_cons] at hla ⊢
        clear hB hA
        go_upto_region 10 with fail
        go_cut [49] (fun s49 w2 => s49 = .bool true ∧ w' = w2)
        case first =>
          cases bl with
          | nil =>
            go_wp2_with fail
            go_meet
            exact ⟨rfl, rfl⟩
          | cons e2 bl =>
            have e9 : (((bl.length : Int) + 1) == 0) = false := by simp; omega
            simp only [List.length_cons] at hlb e8 ⊢
            go_wp2_with fail
            refine (tend_any s0 sn (by omega) _).mono ?_
            rintro _ wx ⟨rfl, rfl⟩
            go_wp2_with fail
            refine (tend_any t0 tn (by omega) _).mono ?_
            rintro _ wx ⟨rfl, rfl⟩
            go_wp2_with fail
            go_meet
            exact ⟨rfl, rfl⟩
        case rest =>
        obtain ⟨rfl, rfl⟩ := hcut
        clear k1 e8 hpos
        have hra := HM.out.ra
        simp only [List.length_cons] at hra
        obtain ⟨p2, q2, hslT, hrt⟩ := tail_c hra
        obtain ⟨q1, hslH, hrh⟩ := head_c hra
        obtain ⟨gg, oo, ca', e', hcap, hr, hga⟩ := hra.place (by simp)
        injection e' with e1 e2 e3
        subst e1 e3
        have HCL := hid (show W.rangeAt gg oo e.vals by have := RC.at hr (j := 0) (c := e) rfl; rwa [Nat.zero_mul, Nat.add_zero] at this)
        have HRT := hid hrt
        have HRH := hid hrh
        have hok := HT.out.ga.hd
        have hA1 := HT.out.fa.one
        have HF1 := hid (show Fit [e] from ⟨by simp, fun x hx => by simp at hx; subst hx; exact hA1⟩)
        obtain ⟨m, hm⟩ : ∃ m : Nat, e.over = (m : Int) := Int.eq_ofNat_of_zero_le (over_nn hok).1
        have HI1 := hid (show inS [e] = (m : Int) by rw [in_cons, hm]; simp [inS])
        have HMo := hid hm
        have hm3 : m ≤ 1099511627776 := by have := Cp.over_le hA1; omega
        have hsz : e.s.size ≤ 1099511627776 := hA1.2.2
        have HOk := hid hok
        clear hr hra hrt hrh e2 hm hok hA1 hga
        go_wp2_with fail
        refine wp_region_held_drew (S := fun w' => Below W.heap.size W w') (by kernel_rfl) (HM.out.below.drew) (fun hHeld => ?_)
        refine wpAnyH_take (i := 0) (v := .slice (some ⟨gg, oo, none⟩) (al.length + 1) ca) rfl (by kernel_rfl) (by kernel_rfl) (by kernel_rfl) (fun _ _ _ h => h) (Or.inl ⟨by rfl, by intro w hSw; go_simp⟩) hHeld ?_
        try simp only [Act.put, List.setIfInBounds_toArray, List.set_cons_zero, List.set_cons_succ, List.getElem_toArray, List.getElem_cons_zero, List.getElem_cons_succ]
        refine wpAnyH_take (i := 1) (v := .pointer (some ⟨gg, oo, none⟩)) rfl (by kernel_rfl) (by kernel_rfl) (by kernel_rfl) (fun _ _ _ h => h) (Or.inl ⟨by rfl, by intro w hSw; clear hSw; go_simp⟩) hHeld ?_
        try simp only [Act.put, List.setIfInBounds_toArray, List.set_cons_zero, List.set_cons_succ, List.getElem_toArray, List.getElem_cons_zero, List.getElem_cons_succ]
        refine wpAnyH_take (i := 2) (v := _) rfl (by kernel_rfl) (by kernel_rfl) (by kernel_rfl) (fun _ _ _ h => h) (yieldsIf_load_mid (by rfl) _ _ rfl _ _ rfl e.vals _ (fun w hSw => fun i u hi => cell_later hSw (HCL.out i u hi)) Try.underlying42 rfl (by kernel_rfl)) hHeld ?_
        try simp only [Act.put, List.setIfInBounds_toArray, List.set_cons_zero, List.set_cons_succ, List.getElem_toArray, List.getElem_cons_zero, List.getElem_cons_succ]
        refine wpAnyH_take (i := 3) (v := st s0 sn) rfl (by kernel_rfl) (by kernel_rfl) (by kernel_rfl) (fun _ _ _ h => h) (Or.inl ⟨by rfl, by intro w hSw; go_simp⟩) hHeld ?_
        try simp only [Act.put, List.setIfInBounds_toArray, List.set_cons_zero, List.set_cons_succ, List.getElem_toArray, List.getElem_cons_zero, List.getElem_cons_succ]
        refine wpAnyH_take (i := 4) (v := .slice (some ⟨gg, oo, none⟩) (al.length + 1) ca) rfl (by kernel_rfl) (by kernel_rfl) (by kernel_rfl) (fun _ _ _ h => h) (Or.inl ⟨by rfl, by intro w hSw; go_simp⟩) hHeld ?_
        try simp only [Act.put, List.setIfInBounds_toArray, List.set_cons_zero, List.set_cons_succ, List.getElem_toArray, List.getElem_cons_zero, List.getElem_cons_succ]
        refine wpAnyH_take (i := 5) (v := .slice (some ⟨gg, oo, none⟩) 1 q1) rfl (by kernel_rfl) (by kernel_rfl) (by kernel_rfl) (fun _ _ _ h => h) (Or.inl ⟨by rfl, by intro w hSw; go_simp⟩) hHeld ?_
        try simp only [Act.put, List.setIfInBounds_toArray, List.set_cons_zero, List.set_cons_succ, List.getElem_toArray, List.getElem_cons_zero, List.getElem_cons_succ]
        refine wpAnyH_take (i := 8) (v := .slice (some ⟨gg, oo, none⟩) (al.length + 1) ca) rfl (by kernel_rfl) (by kernel_rfl) (by kernel_rfl) (fun _ _ _ h => h) (Or.inl ⟨by rfl, by intro w hSw; go_simp⟩) hHeld ?_
        try simp only [Act.put, List.setIfInBounds_toArray, List.set_cons_zero, List.set_cons_succ, List.getElem_toArray, List.getElem_cons_zero, List.getElem_cons_succ]
        refine wpAnyH_take (i := 9) (v := .slice p2 al.length q2) rfl (by kernel_rfl) (by kernel_rfl) (by kernel_rfl) (fun _ _ _ h => h) (Or.inl ⟨by rfl, by intro w hSw; go_simp⟩) hHeld ?_
        try simp only [Act.put, List.setIfInBounds_toArray, List.set_cons_zero, List.set_cons_succ, List.getElem_toArray, List.getElem_cons_zero, List.getElem_cons_succ]
        clear hslH hslT
        refine wpAnyH_ready (rs := [6]) (by kernel_rfl) (by simp) ?_
        refine AllReadyH.cons rfl (fun K hK => ?_) AllReadyH.nil
        go_simp
        refine (In_any _ [e] _ (HRH.out.later HM.out.below.drew) HF1.out).mono ?_
        rintro _ w2 ⟨rfl, hb2⟩
        rw [HI1.out]
        have HM2 := hid (HM.out.later (show Below w'.heap.size w' w2 from ((Below.refl _ _).drew).trans hb2))
        clear hb2
        refine hK.out _ _ (HM2.out.below) (fun hHeld => ?_)
        clear hK K
        try simp only [Act.put, List.setIfInBounds_toArray, List.set_cons_zero, List.set_cons_succ, List.getElem_toArray, List.getElem_cons_zero, List.getElem_cons_succ]
        refine wpAnyH_ready (rs := [7]) (by kernel_rfl) (by simp) ?_
        refine AllReadyH.cons rfl (fun K hK => ?_) AllReadyH.nil
        go_simp
        refine (tnext_any s0 sn m (by omega) _).mono ?_
        rintro _ wx ⟨rfl, rfl⟩
        refine hK.out _ _ (HM2.out.below) (fun hHeld => ?_)
        clear hK K
        try simp only [Act.put, List.setIfInBounds_toArray, List.set_cons_zero, List.set_cons_succ, List.getElem_toArray, List.getElem_cons_zero, List.getElem_cons_succ]
        refine wpAnyH_ready (rs := [10]) (by kernel_rfl) (by simp) ?_
        refine AllReadyH.cons rfl (fun K hK => ?_) AllReadyH.nil
        refine Eq.mpr (if_pos (by rfl)) ?_
        refine wp_store_box _ _ rfl (g) c e rfl rfl HM2.out.bc ?_
        intro w3 hB3 hk3 hb3
        have HM3 := hid (HM2.out.putA HRT.out hB3 hk3 hb3)
        clear hB3 hk3 hb3 HM2
        refine hK.out _ _ HM3.out.below (fun hHeld => ?_)
        clear hK K
        try simp only [Act.put, List.setIfInBounds_toArray, List.set_cons_zero, List.set_cons_succ, List.getElem_toArray, List.getElem_cons_zero, List.getElem_cons_succ]
        refine wpAnyH_ready (rs := [11]) (by kernel_rfl) (by simp) ?_
        refine AllReadyH.cons rfl (fun K hK => ?_) AllReadyH.nil
        go_simp
        refine hK.out _ _ (HM3.out.below) (fun hHeld => ?_)
        clear hK K
        try simp only [Act.put, List.setIfInBounds_toArray, List.set_cons_zero, List.set_cons_succ, List.getElem_toArray, List.getElem_cons_zero, List.getElem_cons_succ]
        refine wpAnyH_ready (rs := [12]) (by kernel_rfl) (by simp) ?_
        refine AllReadyH.cons rfl (fun K hK => ?_) AllReadyH.nil
        go_simp
        refine hK.out _ _ (HM3.out.below) (fun hHeld => ?_)
        clear hK K
        try simp only [Act.put, List.setIfInBounds_toArray, List.set_cons_zero, List.set_cons_succ, List.getElem_toArray, List.getElem_cons_zero, List.getElem_cons_succ]
        refine wpAnyH_done (by kernel_rfl) ?_ _
        have z0 : w3.cell? ⟨g, 0, none⟩ = some (.int .i64 e.k) := HM3.out.bc.cell rfl
        have z1 : w3.cell? ⟨g, 1, none⟩ = some (.int .i64 e.n) := HM3.out.bc.cell rfl
        have z2 : w3.cell? ⟨g, 2, none⟩ = some (.string e.s) := HM3.out.bc.cell rfl
        go_wp2_with fail
        refine (placed_any _ _ lx ly e (g + 2) _ HM3.out.out HM3.out.hi (by omega) (by omega) hsz).mono ?_
        rintro _ w4 ⟨x4, y4, rfl, hO4, hb4⟩
        have HM4 := hid (HM3.out.app hb4 hO4)
        clear hO4 hb4 z0 z1 z2 HM3
        obtain ⟨lx4, hlx4⟩ : ∃ l, lx ++ putL e = l := ⟨_, rfl⟩
        obtain ⟨ly4, hly4⟩ : ∃ l, ly ++ keptL e = l := ⟨_, rfl⟩
        rw [hlx4, hly4] at HM4
        have HLX := hid hlx4
        have HLY := hid hly4
        clear hlx4 hly4
        obtain ⟨ax, cx, rfl⟩ := HM4.out.out.o1.form
        obtain ⟨ay, cy, rfl⟩ := HM4.out.out.o2.form
        go_wp2_with fail
        refine (tshared_any (s0 + sn) m t0 tn (by omega) (by omega) (by omega) (by omega) _).mono ?_
        rintro _ wx ⟨rfl, rfl⟩
        obtain ⟨N, hN⟩ : ∃ N, min (s0 + sn + m) (t0 + tn) - max (s0 + sn) t0 = N := ⟨_, rfl⟩
        rw [hN]
        have hN2 : N ≤ 1099511627776 := by omega
        have HN := hid hN
        clear hN
        by_cases hk : e.k = 2
        · have hm0 : m = 0 := by have := HMo.out; rw [Cp.over, if_neg (by omega)] at this; omega
          subst hm0
          have hN0 : N = 0 := by have := HN.out; omega
          subst hN0
          have HPT := hid (HT.out.aPut hAle hk)
          have hpk := put_k hk
          rw [hpk.1] at HLX
          rw [hpk.2] at HLY
          rw [HLX.out, HLY.out] at HPT
          have HM5 := HM4
          clear hk hpk HM4
          go_wp2_with fail
          go_step3
          refine ⟨rfl, ⟨HE.out, W, g, _, _, _, _, e, d, s0 + sn, 0, t0, tn, al, bl, _, _, rfl, HPT.out, HM5.out, HBW.out⟩, ?_⟩
          simp [lenOf]
        · have hme : m = e.sz := by have := HMo.out; rw [over_sz HOk.out hk] at this; omega
          subst hme
          have HPT := hid (HT.out.aMove hAle hk N HN.out.symm)
          have hpk := move_k hk
          rw [hpk.1, List.append_nil] at HLX
          rw [hpk.2, List.append_nil] at HLY
          have hx4 := HLX.out
          have hy4 := HLY.out
          subst hx4 hy4
          clear hk hpk HLX HLY
          by_cases hN0 : N = 0
          · subst hN0
            rw [if_pos rfl, if_pos rfl, List.append_nil, List.append_nil] at HPT
            have HM5 := HM4
            clear HM4
            go_wp2_with fail
            go_step3
            refine ⟨rfl, ⟨HE.out, W, g, _, _, _, _, e, d, s0 + sn, e.sz, t0, tn, al, bl, _, _, rfl, HPT.out, HM5.out, HBW.out⟩, ?_⟩
            simp [lenOf]
          · rw [if_neg hN0, if_neg hN0] at HPT
            have hNp : (0 : Int) < (N : Int) := by omega
            clear hN0
            go_wp2_with fail
            refine wp_region_held_drew (S := fun w' => Blk w' 42 g e.vals ∧ Blk w' 42 (g + 1) d.vals) (by kernel_rfl) (⟨HM4.out.bc.kept rfl, HM4.out.bd.kept rfl⟩) (fun hHeld => ?_)
            refine wpAnyH_take (i := 0) (v := .slice ax lx.length cx) rfl (by kernel_rfl) (by kernel_rfl) (by kernel_rfl) (fun _ _ _ h => h) (Or.inl ⟨by rfl, by intro w hSw; go_simp⟩) hHeld ?_
            try simp only [Act.put, List.setIfInBounds_toArray, List.set_cons_zero, List.set_cons_succ, List.getElem_toArray, List.getElem_cons_zero, List.getElem_cons_succ]
            refine wpAnyH_take (i := 1) (v := _) rfl (by kernel_rfl) (by kernel_rfl) (by kernel_rfl) (fun _ _ _ h => h) (yieldsIf_load_mid (by rfl) _ _ rfl _ _ rfl e.vals _ (fun w hSw => hSw.1.range fun j v hv => by rw [Nat.zero_add]; exact hv) Try.underlying42 rfl (by kernel_rfl)) hHeld ?_
            try simp only [Act.put, List.setIfInBounds_toArray, List.set_cons_zero, List.set_cons_succ, List.getElem_toArray, List.getElem_cons_zero, List.getElem_cons_succ]
            refine wpAnyH_take (i := 2) (v := _) rfl (by kernel_rfl) (by kernel_rfl) (by kernel_rfl) (fun _ _ _ h => h) (yieldsIf_load_mid (by rfl) _ _ rfl _ _ rfl d.vals _ (fun w hSw => hSw.2.range fun j v hv => by rw [Nat.zero_add]; exact hv) Try.underlying42 rfl (by kernel_rfl)) hHeld ?_
            try simp only [Act.put, List.setIfInBounds_toArray, List.set_cons_zero, List.set_cons_succ, List.getElem_toArray, List.getElem_cons_zero, List.getElem_cons_succ]
            refine wpAnyH_take (i := 3) (v := .int .i64 (N : Int)) rfl (by kernel_rfl) (by kernel_rfl) (by kernel_rfl) (fun _ _ _ h => h) (Or.inl ⟨by rfl, by intro w hSw; go_simp⟩) hHeld ?_
            try simp only [Act.put, List.setIfInBounds_toArray, List.set_cons_zero, List.set_cons_succ, List.getElem_toArray, List.getElem_cons_zero, List.getElem_cons_succ]
            refine wpAnyH_take (i := 5) (v := .slice ay ly.length cy) rfl (by kernel_rfl) (by kernel_rfl) (by kernel_rfl) (fun _ _ _ h => h) (Or.inl ⟨by rfl, by intro w hSw; go_simp⟩) hHeld ?_
            try simp only [Act.put, List.setIfInBounds_toArray, List.set_cons_zero, List.set_cons_succ, List.getElem_toArray, List.getElem_cons_zero, List.getElem_cons_succ]
            refine wpAnyH_take (i := 6) (v := _) rfl (by kernel_rfl) (by kernel_rfl) (by kernel_rfl) (fun _ _ _ h => h) (yieldsIf_load_mid (by rfl) _ _ rfl _ _ rfl d.vals _ (fun w hSw => hSw.2.range fun j v hv => by rw [Nat.zero_add]; exact hv) Try.underlying42 rfl (by kernel_rfl)) hHeld ?_
            try simp only [Act.put, List.setIfInBounds_toArray, List.set_cons_zero, List.set_cons_succ, List.getElem_toArray, List.getElem_cons_zero, List.getElem_cons_succ]
            refine wpAnyH_take (i := 7) (v := _) rfl (by kernel_rfl) (by kernel_rfl) (by kernel_rfl) (fun _ _ _ h => h) (yieldsIf_load_mid (by rfl) _ _ rfl _ _ rfl e.vals _ (fun w hSw => hSw.1.range fun j v hv => by rw [Nat.zero_add]; exact hv) Try.underlying42 rfl (by kernel_rfl)) hHeld ?_
            try simp only [Act.put, List.setIfInBounds_toArray, List.set_cons_zero, List.set_cons_succ, List.getElem_toArray, List.getElem_cons_zero, List.getElem_cons_succ]
            refine wpAnyH_take (i := 8) (v := .int .i64 (N : Int)) rfl (by kernel_rfl) (by kernel_rfl) (by kernel_rfl) (fun _ _ _ h => h) (Or.inl ⟨by rfl, by intro w hSw; go_simp⟩) hHeld ?_
            try simp only [Act.put, List.setIfInBounds_toArray, List.set_cons_zero, List.set_cons_succ, List.getElem_toArray, List.getElem_cons_zero, List.getElem_cons_succ]
            refine wpAnyH_ready (rs := [4]) (by kernel_rfl) (by simp) ?_
            refine AllReadyH.cons rfl (fun K hK => ?_) AllReadyH.nil
            go_simp
            refine (led_any _ _ lx ly e d N (g + 2) _ (HM4.out.out.later (Below.refl _ _).drew) (by exact HM4.out.hi) (by omega)).mono ?_
            rintro _ w5 ⟨x5, rfl, hO5, hb5⟩
            have HM5a := hid (HM4.out.app (show Below (g + 2) wx w5 from ((Below.refl _ _).drew).trans hb5) hO5)
            obtain ⟨ax5, cx5, rfl⟩ := HM5a.out.out.o1.form
            obtain ⟨lx5, hlx5⟩ : ∃ l, lx ++ ledS N e d = l := ⟨_, rfl⟩
            rw [hlx5] at HM5a HPT ⊢
            clear hO5 hb5 hlx5
            refine hK.out _ _ (⟨HM5a.out.bc, HM5a.out.bd⟩) (fun hHeld => ?_)
            clear hK K
            try simp only [Act.put, List.setIfInBounds_toArray, List.set_cons_zero, List.set_cons_succ, List.getElem_toArray, List.getElem_cons_zero, List.getElem_cons_succ]
            refine wpAnyH_ready (rs := [9]) (by kernel_rfl) (by simp) ?_
            refine AllReadyH.cons rfl (fun K hK => ?_) AllReadyH.nil
            go_simp
            refine (led_any _ _ ly _ d e N (g + 2) _ HM5a.out.out.swap HM5a.out.hi (by omega)).mono ?_
            rintro _ w6 ⟨y5, rfl, hO6, hb6⟩
            have HM5 := hid (HM5a.out.app hb6 hO6.swap)
            obtain ⟨ay5, cy5, rfl⟩ := HM5.out.out.o2.form
            obtain ⟨ly5, hly5⟩ : ∃ l, ly ++ ledS N d e = l := ⟨_, rfl⟩
            rw [hly5] at HM5 HPT ⊢
            clear hO6 hb6 HM5a hly5
            refine hK.out _ _ (⟨HM5.out.bc, HM5.out.bd⟩) (fun hHeld => ?_)
            clear hK K
            try simp only [Act.put, List.setIfInBounds_toArray, List.set_cons_zero, List.set_cons_succ, List.getElem_toArray, List.getElem_cons_zero, List.getElem_cons_succ]
            refine wpAnyH_ready (rs := [10]) (by kernel_rfl) (by simp) ?_
            refine AllReadyH.cons rfl (fun K hK => ?_) AllReadyH.nil
            go_simp
            refine hK.out _ _ (⟨HM5.out.bc, HM5.out.bd⟩) (fun hHeld => ?_)
            clear hK K
            try simp only [Act.put, List.setIfInBounds_toArray, List.set_cons_zero, List.set_cons_succ, List.getElem_toArray, List.getElem_cons_zero, List.getElem_cons_succ]
            refine wpAnyH_ready (rs := [11]) (by kernel_rfl) (by simp) ?_
            refine AllReadyH.cons rfl (fun K hK => ?_) AllReadyH.nil
            go_simp
            refine hK.out _ _ (⟨HM5.out.bc, HM5.out.bd⟩) (fun hHeld => ?_)
            clear hK K
            try simp only [Act.put, List.setIfInBounds_toArray, List.set_cons_zero, List.set_cons_succ, List.getElem_toArray, List.getElem_cons_zero, List.getElem_cons_succ]
            refine wpAnyH_done (by kernel_rfl) ?_ _
            go_wp2_with fail
            go_step3
            refine ⟨rfl, ⟨HE.out, W, g, _, _, _, _, e, d, s0 + sn, e.sz, t0, tn, al, bl, _, _, rfl, HPT.out, HM5.out, HBW.out⟩, ?_⟩
            simp [lenOf]
end Go.Proofs.Ytlgdllbhddnokab

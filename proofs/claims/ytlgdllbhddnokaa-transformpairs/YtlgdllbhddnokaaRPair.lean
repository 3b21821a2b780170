/- The contract of the second say's Pair. -/
import Derived.Test.YtlgdllbhddnokaaRPairM
import Derived.Test.YtlgdllbhddnokaaObR
import Derived.Deep.DeepCutAuto
import Derived.Deep.RegionHeld3
import Derived.BigRegion
import Derived.OwnWalk
namespace Go.Proofs.Ytlgdllbhddnokaa
open Go.RowKit
set_option linter.unusedSimpArgs false
set_option linter.unusedVariables false

set_option maxRecDepth 100000 in
set_option maxHeartbeats 8000000 in
theorem refPair_any (va vb : Value) (a b X Y : List Cp) (i u j t : Nat) (w : World) (ha : Ob w va a i u) (hb : Ob w vb b j t) (hX : i = j → PR (normS a) (normS b) X Y) :
    Calls Try.prog 13 #[va, vb] w fun e w' => (i ≠ j → e = .returned (.tuple #[.slice none 0 0, .slice none 0 0, .int .i64 7])) ∧ (i = j → ∃ vx vy, e = .returned (.tuple #[vx, vy, .int .i64 0]) ∧ HasC w' w.heap.size vx (normS X) ∧ HasC w' w.heap.size vy (normS Y)) ∧ Below w.heap.size w w' := by
  obtain ⟨ao, ac, rfl⟩ := ha.rc.form
  obtain ⟨bo, bc, rfl⟩ := hb.rc.form
  have HA := hid ha
  have HB := hid hb
  have HX := hid hX
  clear ha hb hX
  go_enter Try.func13, Try.ntmps13
  go_wp2_with fail
  refine (rin_ob HA.out).mono ?_
  rintro _ wx ⟨rfl, rfl⟩
  go_wp2_with fail
  refine (rin_ob HB.out).mono ?_
  rintro _ wx ⟨rfl, rfl⟩
  by_cases hju : i = j
  case neg =>
    have h1 : ((i : Int) == (j : Int)) = false := by simp; omega
    have HN := hid hju
    clear hju
    go_wp2_with fail
    go_ret3
    exact ⟨fun _ => rfl, fun h => absurd h HN.out, Below.refl _ _⟩
  subst hju
  have HPR := hid (HX.out rfl)
  have HPA := hid (pr_pa HPR.out (norm_good HA.out.good) (norm_good HB.out.good) (by rw [in_norm _ HA.out.good, in_norm _ HB.out.good, HA.out.ins, HB.out.ins]))
  have hXl : X.length ≤ 2000 ∧ Y.length ≤ 2000 := by
    have h1 := HPA.out.lx
    have h2 := HPA.out.ly
    have h3 := len_norm a
    have h4 := len_norm b
    have h5 := HA.out.len
    have h6 := HB.out.len
    omega
  go_wp2_with fail
  refine (refNormal_any _ a _ HA.out.rc HA.out.fit HA.out.good).mono ?_
  rintro _ w1 ⟨v1, rfl, hH1, hb1⟩
  have HH1 := hid hH1
  have Hb1 := hid hb1
  have HB1 := hid (HB.out.later hb1)
  clear hH1 hb1
  go_wp2_with fail
  refine (refNormal_any _ b _ HB1.out.rc HB1.out.fit HB1.out.good).mono ?_
  rintro _ w2 ⟨v2, rfl, hH2, hb2⟩
  have hH1 := HH1.out.later hb2
  obtain ⟨g1, ho1, hl1⟩ := OwnC.of_has2 HH1.out
  replace ho1 := ho1.keptB (fun k hk => hb2.block k (hl1 k hk).2)
  obtain ⟨g2, ho2, hl2⟩ := OwnC.of_has2 hH2
  obtain ⟨a1, c1, rfl⟩ := ho1.form
  obtain ⟨a2, c2, rfl⟩ := ho2.form
  have Hb2 := hid (below_seq Hb1.out hb2)
  have HRM := hid (show RM wx w2 g1 g2 w2.heap.size (.slice a1 (normS a).length c1) (.slice a2 (normS b).length c2) (.slice none 0 0) (.slice none 0 0) (normS a) (normS b) [] [] from
    ⟨Hb2.out, ho1, ho2, O2.nil _ _, fun k hk => ⟨(hl1 k hk).1, Nat.lt_of_lt_of_le (hl1 k hk).2 hb2.size⟩, fun k hk => ⟨Nat.le_trans Hb1.out.size (hl2 k hk).1, (hl2 k hk).2⟩, fun k hk hk2 => by have h3 := (hl1 k hk).2; have h4 := (hl2 k hk2).1; omega, Hb2.out.size, Nat.le_refl _⟩)
  have HRQ := hid (show RQ X Y (normS a) (normS b) [] [] from
    ⟨norm_good HA.out.good, norm_good HB.out.good, by rw [in_norm _ HA.out.good, in_norm _ HB.out.good, HA.out.ins, HB.out.ins], by rw [in_norm _ HA.out.good, HA.out.ins]; have := HA.out.hi; omega, by rw [out_norm _ HA.out.good, HA.out.outs]; have := HA.out.hu; omega, by rw [out_norm _ HB.out.good, HB.out.outs]; have := HB.out.hu; omega, X, Y, HPR.out, rfl, rfl⟩)
  clear hH1 hH2 hb2 ho1 ho2 hl1 hl2 HH1 HB1 Hb1
  obtain ⟨na, hna⟩ : ∃ l, normS a = l := ⟨_, rfl⟩
  obtain ⟨nb, hnb⟩ : ∃ l, normS b = l := ⟨_, rfl⟩
  rw [hna, hnb] at HRM HRQ ⊢
  clear hna hnb
  go_wp2_with fail
  go_loopw [0, 1, 7, 8] (fun va vb vx vy wr => ∃ ga gb G al bl lx ly, RM wx wr ga gb G va vb vx vy al bl lx ly ∧ RQ X Y al bl lx ly) (fun va vb _ _ _ => lenOf va + lenOf vb)
  case atStart => exact ⟨g1, g2, w2.heap.size, na, nb, [], [], HRM.out, HRQ.out⟩
  case round =>
    clear HRM HRQ
    obtain ⟨ga, gb, G, al, bl, lx, ly, hR, hQ⟩ := hrel
    obtain ⟨aa, ca, rfl⟩ := hR.oa.form
    obtain ⟨ab, cb, rfl⟩ := hR.ob.form
    obtain ⟨xo, xc, rfl⟩ := hR.out.o1.form
    obtain ⟨yo, yc, rfl⟩ := hR.out.o2.form
    have HR := hid hR
    have HQ := hid hQ
    have hll := hQ.len
    clear hR hQ
    cases al with
    | nil =>
      cases bl with
      | nil =>
        have hov := HQ.out.over
        have hu1 := HA.out.hu
        have hu2 := HB.out.hu
        have hob : outS X ≤ 800 := by
          have h1 := HPA.out.outs (norm_good HB.out.good)
          rw [out_norm _ HA.out.good, out_norm _ HB.out.good, HA.out.outs, HB.out.outs] at h1
          omega
        have HFX := hid (fit_of HPA.out.gx (by omega) (by rw [HPA.out.ix, out_norm _ HB.out.good, HB.out.outs]; omega) (by omega))
        have HFY := hid (fit_of HPA.out.gy (by omega) (by rw [HPA.out.iy, out_norm _ HA.out.good, HA.out.outs]; omega) (by rw [← HPA.out.oo]; omega))
        have HOX := hid (show HasC wr G _ X by rw [← hov.1]; exact HR.out.out.o1)
        have HOY := hid (show HasC wr G _ Y by rw [← hov.2]; exact HR.out.out.o2)
        rw [hov.1] at HOX
        rw [hov.2] at HOY
        rw [hov.1, hov.2]
        clear hov hob hll
        go_wp2_with fail
        refine (refNormal_any _ X _ HOX.out.reads HFX.out HPA.out.gx).mono ?_
        rintro _ w3 ⟨v3, rfl, hH3, hb3⟩
        have HH3 := hid (hH3.mono (B2 := wx.heap.size) HR.out.below.size)
        have Hb3 := hid (below_seq HR.out.below hb3)
        have HOY3 := hid (HOY.out.later hb3)
        clear hH3 hb3
        go_wp2_with fail
        refine (refNormal_any _ Y _ HOY3.out.reads HFY.out HPA.out.gy).mono ?_
        rintro _ w4 ⟨v4, rfl, hH4, hb4⟩
        have HH4 := hid (hH4.mono (B2 := wx.heap.size) Hb3.out.size)
        have HH3' := hid (HH3.out.later hb4)
        have Hb4 := hid (below_seq Hb3.out hb4)
        clear hH4 hb4
        go_wp2_with fail
        go_ret3
        exact ⟨⟨_, _, rfl, HH3'.out, HH4.out⟩, Hb4.out⟩
      | cons d bl =>
        have hd := HQ.out.noA
        have hob := HR.out.ob
        simp only [List.length_cons] at hob ⊢
        obtain ⟨pb, qb, hslb, htlb⟩ := hob.tail
        obtain ⟨offb, eb, hcb, d0, d1, d2⟩ := hob.head
        subst eb
        have HTb := hid htlb
        have hpb : (0 : Int) < (bl.length : Int) + 1 := by omega
        clear hob htlb
        have e2 : (d.k == 2) = true := by simp [hd]
        have HQN := hid (HQ.out.putB (by simp) hd)
        clear hd
        go_wp2_with (at_builtin; go_must (refine wpList_append_o2 rfl _ _ rfl G _ _ _ _ rfl (HR.out.out.later ((Below.refl _ _).alloc (Nat.le_refl _) (.cells (Cp.vals (pK (d.s.size : Int))).toArray 43))) ?hs wr.heap.size (pK (d.s.size : Int)) rfl (Side.new HR.out.out (Cp.vals (pK (d.s.size : Int))) rfl) ?hb ?_))
        case hs => have := HR.out.h4; simp; omega
        case hb => omega
        intro v7 w7 hO hbb hSd
        have HR7 := hid ((HR.out.later ((Below.refl _ _).alloc (Nat.le_refl _) (.cells (Cp.vals (pK (d.s.size : Int))).toArray 43))).app hbb hO)
        clear hO hbb hSd
        obtain ⟨lx7, hlx⟩ : ∃ l, lx ++ [pK (d.s.size : Int)] = l := ⟨_, rfl⟩
        rw [hlx] at HR7 HQN
        have hle7 : lx7.length ≤ 2001 := by rw [← hlx]; simp; omega
        clear hlx
        obtain ⟨ad7, cp7, rfl⟩ := HR7.out.out.o1.form
        clear d0 d1 d2
        obtain ⟨d0, d1, d2⟩ := HR7.out.ob.cells
        go_wp2_with (at_builtin; go_must (refine wpList_append_o2 rfl _ _ rfl G _ _ _ _ rfl (HR7.out.out.swap.later ((Below.refl _ _).alloc (Nat.le_refl _) (.cells (Cp.vals (d)).toArray 43))) ?hs w7.heap.size (d) rfl (Side.new HR7.out.out.swap (Cp.vals (d)) rfl) ?hb ?_))
        case hs => have := HR7.out.h4; simp; omega
        case hb => omega
        intro v8 w8 hO hbb hSd
        have HR8 := hid ((HR7.out.later ((Below.refl _ _).alloc (Nat.le_refl _) (.cells (Cp.vals (d)).toArray 43))).app hbb hO.swap)
        clear hO hbb hSd
        obtain ⟨ly8, hly⟩ : ∃ l, ly ++ [d] = l := ⟨_, rfl⟩
        rw [hly] at HR8 HQN
        have hle8 : ly8.length ≤ 2001 := by rw [← hly]; simp; omega
        clear hly
        obtain ⟨ad8, cp8, rfl⟩ := HR8.out.out.o2.form
        go_wp2_with fail
        go_roundw
        case rel => exact ⟨ga, gb, G, [], bl, _, _, (HR8.out.tailB (HTb.out _ _ HR8.out.ob) (fun k hk => by rw [((HTb.out _ _ HR8.out.ob).lt hk).1]; rfl)), HQN.out⟩
        case measure => simp [lenOf] <;> omega
    | cons c al =>
      have hoa := HR.out.oa
      simp only [List.length_cons] at hoa ⊢
      obtain ⟨pa, qa, hsla, htla⟩ := hoa.tail
      obtain ⟨offa, ea, hca, c0, c1, c2⟩ := hoa.head
      subst ea
      have HTa := hid htla
      have hpa : (0 : Int) < (al.length : Int) + 1 := by omega
      clear hoa htla
      by_cases hk : c.k = 2
      · skip
        have e3 : (c.k == 2) = true := by simp [hk]
        have HQN := hid (HQ.out.putA hk)
        clear hk
        go_wp2_with (at_builtin; go_must (refine wpList_append_o2 rfl _ _ rfl G _ _ _ _ rfl (HR.out.out.later ((Below.refl _ _).alloc (Nat.le_refl _) (.cells (Cp.vals (c)).toArray 43))) ?hs wr.heap.size (c) rfl (Side.new HR.out.out (Cp.vals (c)) rfl) ?hb ?_))
        case hs => have := HR.out.h4; simp; omega
        case hb => omega
        intro v7 w7 hO hbb hSd
        have HR7 := hid ((HR.out.later ((Below.refl _ _).alloc (Nat.le_refl _) (.cells (Cp.vals (c)).toArray 43))).app hbb hO)
        clear hO hbb hSd
        obtain ⟨lx7, hlx⟩ : ∃ l, lx ++ [c] = l := ⟨_, rfl⟩
        rw [hlx] at HR7 HQN
        have hle7 : lx7.length ≤ 2001 := by rw [← hlx]; simp; omega
        clear hlx
        obtain ⟨ad7, cp7, rfl⟩ := HR7.out.out.o1.form
        clear c0 c1 c2
        obtain ⟨c0, c1, c2⟩ := HR7.out.oa.cells
        go_wp2_with (at_builtin; go_must (refine wpList_append_o2 rfl _ _ rfl G _ _ _ _ rfl (HR7.out.out.swap.later ((Below.refl _ _).alloc (Nat.le_refl _) (.cells (Cp.vals (pK (c.s.size : Int))).toArray 43))) ?hs w7.heap.size (pK (c.s.size : Int)) rfl (Side.new HR7.out.out.swap (Cp.vals (pK (c.s.size : Int))) rfl) ?hb ?_))
        case hs => have := HR7.out.h4; simp; omega
        case hb => omega
        intro v8 w8 hO hbb hSd
        have HR8 := hid ((HR7.out.later ((Below.refl _ _).alloc (Nat.le_refl _) (.cells (Cp.vals (pK (c.s.size : Int))).toArray 43))).app hbb hO.swap)
        clear hO hbb hSd
        obtain ⟨ly8, hly⟩ : ∃ l, ly ++ [pK (c.s.size : Int)] = l := ⟨_, rfl⟩
        rw [hly] at HR8 HQN
        have hle8 : ly8.length ≤ 2001 := by rw [← hly]; simp; omega
        clear hly
        obtain ⟨ad8, cp8, rfl⟩ := HR8.out.out.o2.form
        go_wp2_with fail
        go_roundw
        case rel => exact ⟨ga, gb, G, al, bl, _, _, (HR8.out.tailA (HTa.out _ _ HR8.out.oa) (fun k hk => by rw [((HTa.out _ _ HR8.out.oa).lt hk).1]; rfl)), HQN.out⟩
        case measure => simp [lenOf] <;> omega
      · have e3 : (c.k == 2) = false := by simpa using hk
        cases bl with
        | nil => exact absurd HQ.out.noB hk
        | cons d bl =>
          have hob := HR.out.ob
          simp only [List.length_cons] at hob ⊢
          obtain ⟨pb, qb, hslb, htlb⟩ := hob.tail
          obtain ⟨offb, eb, hcb, d0, d1, d2⟩ := hob.head
          subst eb
          have HTb := hid htlb
          have hpb : (0 : Int) < (bl.length : Int) + 1 := by omega
          clear hob htlb
          by_cases hd : d.k = 2
          · skip
            have e2 : (d.k == 2) = true := by simp [hd]
            have HQN := hid (HQ.out.putB (by simpa using hk) hd)
            clear hd
            go_wp2_with (at_builtin; go_must (refine wpList_append_o2 rfl _ _ rfl G _ _ _ _ rfl (HR.out.out.later ((Below.refl _ _).alloc (Nat.le_refl _) (.cells (Cp.vals (pK (d.s.size : Int))).toArray 43))) ?hs wr.heap.size (pK (d.s.size : Int)) rfl (Side.new HR.out.out (Cp.vals (pK (d.s.size : Int))) rfl) ?hb ?_))
            case hs => have := HR.out.h4; simp; omega
            case hb => omega
            intro v7 w7 hO hbb hSd
            have HR7 := hid ((HR.out.later ((Below.refl _ _).alloc (Nat.le_refl _) (.cells (Cp.vals (pK (d.s.size : Int))).toArray 43))).app hbb hO)
            clear hO hbb hSd
            obtain ⟨lx7, hlx⟩ : ∃ l, lx ++ [pK (d.s.size : Int)] = l := ⟨_, rfl⟩
            rw [hlx] at HR7 HQN
            have hle7 : lx7.length ≤ 2001 := by rw [← hlx]; simp; omega
            clear hlx
            obtain ⟨ad7, cp7, rfl⟩ := HR7.out.out.o1.form
            clear d0 d1 d2
            obtain ⟨d0, d1, d2⟩ := HR7.out.ob.cells
            go_wp2_with (at_builtin; go_must (refine wpList_append_o2 rfl _ _ rfl G _ _ _ _ rfl (HR7.out.out.swap.later ((Below.refl _ _).alloc (Nat.le_refl _) (.cells (Cp.vals (d)).toArray 43))) ?hs w7.heap.size (d) rfl (Side.new HR7.out.out.swap (Cp.vals (d)) rfl) ?hb ?_))
            case hs => have := HR7.out.h4; simp; omega
            case hb => omega
            intro v8 w8 hO hbb hSd
            have HR8 := hid ((HR7.out.later ((Below.refl _ _).alloc (Nat.le_refl _) (.cells (Cp.vals (d)).toArray 43))).app hbb hO.swap)
            clear hO hbb hSd
            obtain ⟨ly8, hly⟩ : ∃ l, ly ++ [d] = l := ⟨_, rfl⟩
            rw [hly] at HR8 HQN
            have hle8 : ly8.length ≤ 2001 := by rw [← hly]; simp; omega
            clear hly
            obtain ⟨ad8, cp8, rfl⟩ := HR8.out.out.o2.form
            go_wp2_with fail
            go_roundw
            case rel => exact ⟨ga, gb, G, c :: al, bl, _, _, (HR8.out.tailB (HTb.out _ _ HR8.out.ob) (fun k hk => by rw [((HTb.out _ _ HR8.out.ob).lt hk).1]; rfl)), HQN.out⟩
            case measure => simp [lenOf] <;> omega
          · clear e3
            have HQ0 := HQ
            have hzc := HQ.out.ga.hd
            have hzd := HQ.out.gb.hd
            obtain ⟨sc0, sc1, _, _⟩ := small HQ.out.ga HQ.out.ia HQ.out.oa
            obtain ⟨sd0, sd1, _, _⟩ := small HQ.out.gb (by rw [← HQ.out.io]; exact HQ.out.ia) HQ.out.ob
            obtain ⟨ck, ci, hci, hck, hce, hcz⟩ := kx_form hzc hk
            obtain ⟨dk, di, hdi, hdk, hde, hdz⟩ := kx_form hzd hd
            obtain ⟨m, hm⟩ : ∃ m, min ci di = m := ⟨_, rfl⟩
            have HQN := hid (HQ.out.both hk hd m (by rw [hcz, hdz, hm]))
            clear hk hd hzc hzd hcz hdz HQ0
            subst hce hde
            have e3 : (ck == 2) = false := by rcases hck with rfl | rfl <;> rfl
            have e2 : (dk == 2) = false := by rcases hdk with rfl | rfl <;> rfl
            have hm1 : 1 ≤ m ∧ m ≤ ci ∧ m ≤ di ∧ (m = ci ∨ m = di) := by omega
            have hif : (if di < ci then (di : Int) else (ci : Int)) = (m : Int) := by
              by_cases h : di < ci
              · rw [if_pos h]; omega
              · rw [if_neg h]; omega
            simp only at sc1 sd1 c0 c1 c2 d0 d1 d2
            clear hm sc0 sd0
            go_wp2_with fail
            go_region
            obtain ⟨wd, hwd⟩ : ∃ x, wr.drew = x := ⟨_, rfl⟩
            have hbd : Below wr.heap.size wr wd := by rw [← hwd]; exact (Below.refl _ _).drew
            rw [hwd]
            have HRd := hid (HR.out.later hbd)
            clear hbd hwd hif HR c0 c1 c2 d0 d1 d2
            obtain ⟨c0, c1, c2⟩ := HRd.out.oa.cells
            obtain ⟨d0, d1, d2⟩ := HRd.out.ob.cells
            go_upto_region 15 with fail
            go_cut [10, 11] (fun s10 s11 w' => ∃ p q, s10 = .pointer (some ⟨p, 0, none⟩) ∧ s11 = .pointer (some ⟨q, 0, none⟩) ∧ Blk w' 43 p (Cp.vals ⟨ck, m, Em⟩) ∧ Blk w' 43 q (Cp.vals ⟨dk, m, Em⟩) ∧ wd.heap.size ≤ p ∧ wd.heap.size ≤ q ∧ Below wd.heap.size wd w')
            case first =>
              refine wp_region_held_drew (S := fun w' => Below wd.heap.size wd w') (by kernel_rfl) ((Below.refl _ _).drew) (fun hHeld => ?_)
              refine wpAnyH_take (i := 0) (v := .slice (some ⟨ga, offa, none⟩) (al.length + 1) ca) rfl (by kernel_rfl) (by kernel_rfl) (by kernel_rfl) (fun _ _ _ h => h) (Or.inl ⟨by rfl, by intro w hSw; go_simp⟩) hHeld ?_
              try simp only [Act.put, List.setIfInBounds_toArray, List.set_cons_zero, List.set_cons_succ, List.getElem_toArray, List.getElem_cons_zero, List.getElem_cons_succ]
              refine wpAnyH_take (i := 1) (v := .pointer (some ⟨ga, offa, none⟩)) rfl (by kernel_rfl) (by kernel_rfl) (by kernel_rfl) (fun _ _ _ h => h) (Or.inl ⟨by rfl, by intro w hSw; go_simp⟩) hHeld ?_
              try simp only [Act.put, List.setIfInBounds_toArray, List.set_cons_zero, List.set_cons_succ, List.getElem_toArray, List.getElem_cons_zero, List.getElem_cons_succ]
              refine wpAnyH_take (i := 2) (v := .pointer (some ⟨ga, offa, none⟩)) rfl (by kernel_rfl) (by kernel_rfl) (by kernel_rfl) (fun _ _ _ h => h) (Or.inl ⟨by rfl, by intro w hSw; go_simp⟩) hHeld ?_
              try simp only [Act.put, List.setIfInBounds_toArray, List.set_cons_zero, List.set_cons_succ, List.getElem_toArray, List.getElem_cons_zero, List.getElem_cons_succ]
              refine wpAnyH_take (i := 3) (v := .int .i64 ck) rfl (by kernel_rfl) (by kernel_rfl) (by kernel_rfl) (fun _ _ _ h => h) (Or.inl ⟨by rfl, by intro w hSw; have z := cell_later hSw c0; clear hSw; go_simp⟩) hHeld ?_
              try simp only [Act.put, List.setIfInBounds_toArray, List.set_cons_zero, List.set_cons_succ, List.getElem_toArray, List.getElem_cons_zero, List.getElem_cons_succ]
              refine wpAnyH_take (i := 4) (v := .int .i64 (m : Int)) rfl (by kernel_rfl) (by kernel_rfl) (by kernel_rfl) (fun _ _ _ h => h) (Or.inl ⟨by rfl, by intro w hSw; go_simp⟩) hHeld ?_
              try simp only [Act.put, List.setIfInBounds_toArray, List.set_cons_zero, List.set_cons_succ, List.getElem_toArray, List.getElem_cons_zero, List.getElem_cons_succ]
              refine wpAnyH_take (i := 5) (v := .agg (Cp.vals ⟨ck, m, Em⟩).toArray) rfl (by kernel_rfl) (by kernel_rfl) (by kernel_rfl) (fun _ _ _ h => h) (Or.inl ⟨by rfl, by intro w hSw; clear hSw; simp only [Cp.vals]; go_simp; rfl⟩) hHeld ?_
              try simp only [Act.put, List.setIfInBounds_toArray, List.set_cons_zero, List.set_cons_succ, List.getElem_toArray, List.getElem_cons_zero, List.getElem_cons_succ]
              refine wpAnyH_take (i := 6) (v := .slice (some ⟨gb, offb, none⟩) (bl.length + 1) cb) rfl (by kernel_rfl) (by kernel_rfl) (by kernel_rfl) (fun _ _ _ h => h) (Or.inl ⟨by rfl, by intro w hSw; go_simp⟩) hHeld ?_
              try simp only [Act.put, List.setIfInBounds_toArray, List.set_cons_zero, List.set_cons_succ, List.getElem_toArray, List.getElem_cons_zero, List.getElem_cons_succ]
              refine wpAnyH_take (i := 7) (v := .pointer (some ⟨gb, offb, none⟩)) rfl (by kernel_rfl) (by kernel_rfl) (by kernel_rfl) (fun _ _ _ h => h) (Or.inl ⟨by rfl, by intro w hSw; go_simp⟩) hHeld ?_
              try simp only [Act.put, List.setIfInBounds_toArray, List.set_cons_zero, List.set_cons_succ, List.getElem_toArray, List.getElem_cons_zero, List.getElem_cons_succ]
              refine wpAnyH_take (i := 8) (v := .pointer (some ⟨gb, offb, none⟩)) rfl (by kernel_rfl) (by kernel_rfl) (by kernel_rfl) (fun _ _ _ h => h) (Or.inl ⟨by rfl, by intro w hSw; go_simp⟩) hHeld ?_
              try simp only [Act.put, List.setIfInBounds_toArray, List.set_cons_zero, List.set_cons_succ, List.getElem_toArray, List.getElem_cons_zero, List.getElem_cons_succ]
              refine wpAnyH_take (i := 9) (v := .int .i64 dk) rfl (by kernel_rfl) (by kernel_rfl) (by kernel_rfl) (fun _ _ _ h => h) (Or.inl ⟨by rfl, by intro w hSw; have z := cell_later hSw d0; clear hSw; go_simp⟩) hHeld ?_
              try simp only [Act.put, List.setIfInBounds_toArray, List.set_cons_zero, List.set_cons_succ, List.getElem_toArray, List.getElem_cons_zero, List.getElem_cons_succ]
              refine wpAnyH_take (i := 10) (v := .int .i64 (m : Int)) rfl (by kernel_rfl) (by kernel_rfl) (by kernel_rfl) (fun _ _ _ h => h) (Or.inl ⟨by rfl, by intro w hSw; go_simp⟩) hHeld ?_
              try simp only [Act.put, List.setIfInBounds_toArray, List.set_cons_zero, List.set_cons_succ, List.getElem_toArray, List.getElem_cons_zero, List.getElem_cons_succ]
              refine wpAnyH_take (i := 11) (v := .agg (Cp.vals ⟨dk, m, Em⟩).toArray) rfl (by kernel_rfl) (by kernel_rfl) (by kernel_rfl) (fun _ _ _ h => h) (Or.inl ⟨by rfl, by intro w hSw; clear hSw; simp only [Cp.vals]; go_simp; rfl⟩) hHeld ?_
              try simp only [Act.put, List.setIfInBounds_toArray, List.set_cons_zero, List.set_cons_succ, List.getElem_toArray, List.getElem_cons_zero, List.getElem_cons_succ]
              refine wpAnyH_ready (rs := [12, 13]) (by kernel_rfl) (by simp) ?_
              refine AllReadyH.cons rfl (fun K hK => ?_) (AllReadyH.cons rfl (fun K hK => ?_) AllReadyH.nil)
              · obtain ⟨N12, hN12⟩ : ∃ N, wd.drew.heap.size = N := ⟨_, rfl⟩
                refine Eq.mpr (if_pos (by rfl)) ?_
                refine wp_alloc_box rfl N12 hN12 ?_
                intro u1 hB12 hb hz12
                have Hw12 := hid (show Below wd.heap.size wd u1 from ((Below.refl _ _).drew).trans (hb.mono (by rw [← hN12]; exact Nat.le_refl _)))
                clear hb
                refine hK.out _ _ Hw12.out (fun hHeld => ?_)
                clear hK K
                try simp only [Act.put, List.setIfInBounds_toArray, List.set_cons_zero, List.set_cons_succ, List.getElem_toArray, List.getElem_cons_zero, List.getElem_cons_succ]
                refine wpAnyH_ready (rs := [13]) (by kernel_rfl) (by simp) ?_
                refine AllReadyH.cons rfl (fun K hK => ?_) AllReadyH.nil
                obtain ⟨N13, hN13⟩ : ∃ N, u1.heap.size = N := ⟨_, rfl⟩
                refine Eq.mpr (if_pos (by rfl)) ?_
                refine wp_alloc_box rfl N13 hN13 ?_
                intro u2 hB13 hb hz13
                have hB12' := hB12.kept (hb.block N12 (by omega))
                have Hw13 := hid (show Below wd.heap.size wd u2 from Hw12.out.trans (hb.mono (by have := Hw12.out.size; omega)))
                clear hb
                clear hB12
                have hB12 := hB12'
                clear hB12'
                refine hK.out _ _ Hw13.out (fun hHeld => ?_)
                clear hK K
                try simp only [Act.put, List.setIfInBounds_toArray, List.set_cons_zero, List.set_cons_succ, List.getElem_toArray, List.getElem_cons_zero, List.getElem_cons_succ]
                have hs0 : wd.heap.size = N12 := hN12
                have HWL := Hw13
                clear Hw12
                refine wpAnyH_ready (rs := [14]) (by kernel_rfl) (by simp) ?_
                refine AllReadyH.cons rfl (fun K hK => ?_) AllReadyH.nil
                refine Eq.mpr (if_pos (by rfl)) ?_
                refine wp_store_box _ _ rfl N12 ⟨0, 0, ⟨#[]⟩⟩ ⟨ck, m, Em⟩ rfl rfl hB12 ?_
                intro u3 hS12 hk hb
                have HW12 := hid (show Below wd.heap.size wd u3 from HWL.out.trans (hb.mono (by omega)))
                have hB13' := hB13.kept (hk N13 (by omega))
                clear hB13
                have hB13 := hB13'
                clear hB13'
                clear hk hb
                refine hK.out _ _ HW12.out (fun hHeld => ?_)
                clear hK K
                try simp only [Act.put, List.setIfInBounds_toArray, List.set_cons_zero, List.set_cons_succ, List.getElem_toArray, List.getElem_cons_zero, List.getElem_cons_succ]
                refine wpAnyH_ready (rs := [15]) (by kernel_rfl) (by simp) ?_
                refine AllReadyH.cons rfl (fun K hK => ?_) AllReadyH.nil
                refine Eq.mpr (if_pos (by rfl)) ?_
                refine wp_store_box _ _ rfl N13 ⟨0, 0, ⟨#[]⟩⟩ ⟨dk, m, Em⟩ rfl rfl hB13 ?_
                intro u4 hS13 hk hb
                have HW13 := hid (show Below wd.heap.size wd u4 from HW12.out.trans (hb.mono (by omega)))
                have hS12' := hS12.kept (hk N12 (by omega))
                clear hS12
                have hS12 := hS12'
                clear hS12'
                clear hk hb
                refine hK.out _ _ HW13.out (fun hHeld => ?_)
                clear hK K
                try simp only [Act.put, List.setIfInBounds_toArray, List.set_cons_zero, List.set_cons_succ, List.getElem_toArray, List.getElem_cons_zero, List.getElem_cons_succ]
                refine wpAnyH_done (by kernel_rfl) ?_ _
                go_wp2_with fail
                go_meet
                case rel => exact ⟨N12, N13, rfl, rfl, hS12, hS13, by omega, by omega, HW13.out⟩
              · obtain ⟨N13, hN13⟩ : ∃ N, wd.drew.heap.size = N := ⟨_, rfl⟩
                refine Eq.mpr (if_pos (by rfl)) ?_
                refine wp_alloc_box rfl N13 hN13 ?_
                intro u1 hB13 hb hz13
                have Hw13 := hid (show Below wd.heap.size wd u1 from ((Below.refl _ _).drew).trans (hb.mono (by rw [← hN13]; exact Nat.le_refl _)))
                clear hb
                refine hK.out _ _ Hw13.out (fun hHeld => ?_)
                clear hK K
                try simp only [Act.put, List.setIfInBounds_toArray, List.set_cons_zero, List.set_cons_succ, List.getElem_toArray, List.getElem_cons_zero, List.getElem_cons_succ]
                refine wpAnyH_ready (rs := [12]) (by kernel_rfl) (by simp) ?_
                refine AllReadyH.cons rfl (fun K hK => ?_) AllReadyH.nil
                obtain ⟨N12, hN12⟩ : ∃ N, u1.heap.size = N := ⟨_, rfl⟩
                refine Eq.mpr (if_pos (by rfl)) ?_
                refine wp_alloc_box rfl N12 hN12 ?_
                intro u2 hB12 hb hz12
                have hB13' := hB13.kept (hb.block N13 (by omega))
                have Hw12 := hid (show Below wd.heap.size wd u2 from Hw13.out.trans (hb.mono (by have := Hw13.out.size; omega)))
                clear hb
                clear hB13
                have hB13 := hB13'
                clear hB13'
                refine hK.out _ _ Hw12.out (fun hHeld => ?_)
                clear hK K
                try simp only [Act.put, List.setIfInBounds_toArray, List.set_cons_zero, List.set_cons_succ, List.getElem_toArray, List.getElem_cons_zero, List.getElem_cons_succ]
                have hs0 : wd.heap.size = N13 := hN13
                have HWL := Hw12
                clear Hw13
                refine wpAnyH_ready (rs := [14]) (by kernel_rfl) (by simp) ?_
                refine AllReadyH.cons rfl (fun K hK => ?_) AllReadyH.nil
                refine Eq.mpr (if_pos (by rfl)) ?_
                refine wp_store_box _ _ rfl N12 ⟨0, 0, ⟨#[]⟩⟩ ⟨ck, m, Em⟩ rfl rfl hB12 ?_
                intro u3 hS12 hk hb
                have HW12 := hid (show Below wd.heap.size wd u3 from HWL.out.trans (hb.mono (by omega)))
                have hB13' := hB13.kept (hk N13 (by omega))
                clear hB13
                have hB13 := hB13'
                clear hB13'
                clear hk hb
                refine hK.out _ _ HW12.out (fun hHeld => ?_)
                clear hK K
                try simp only [Act.put, List.setIfInBounds_toArray, List.set_cons_zero, List.set_cons_succ, List.getElem_toArray, List.getElem_cons_zero, List.getElem_cons_succ]
                refine wpAnyH_ready (rs := [15]) (by kernel_rfl) (by simp) ?_
                refine AllReadyH.cons rfl (fun K hK => ?_) AllReadyH.nil
                refine Eq.mpr (if_pos (by rfl)) ?_
                refine wp_store_box _ _ rfl N13 ⟨0, 0, ⟨#[]⟩⟩ ⟨dk, m, Em⟩ rfl rfl hB13 ?_
                intro u4 hS13 hk hb
                have HW13 := hid (show Below wd.heap.size wd u4 from HW12.out.trans (hb.mono (by omega)))
                have hS12' := hS12.kept (hk N12 (by omega))
                clear hS12
                have hS12 := hS12'
                clear hS12'
                clear hk hb
                refine hK.out _ _ HW13.out (fun hHeld => ?_)
                clear hK K
                try simp only [Act.put, List.setIfInBounds_toArray, List.set_cons_zero, List.set_cons_succ, List.getElem_toArray, List.getElem_cons_zero, List.getElem_cons_succ]
                refine wpAnyH_done (by kernel_rfl) ?_ _
                go_wp2_with fail
                go_meet
                case rel => exact ⟨N12, N13, rfl, rfl, hS12, hS13, by omega, by omega, HW13.out⟩
            case rest =>
            obtain ⟨p, q, rfl, rfl, hp, hq, hlp, hlq, hbw⟩ := hcut
            rename World => w5
            have HR5 := hid (HRd.out.later hbw)
            have HSp := hid (show Side w5 _ _ p _ from ⟨hp, fun e => by have := HRd.out.out.o1.blk e; omega, fun e => by have := HRd.out.out.o2.blk e; omega⟩)
            have HSq := hid (show Side w5 _ _ q _ from ⟨hq, fun e => by have := HRd.out.out.o1.blk e; omega, fun e => by have := HRd.out.out.o2.blk e; omega⟩)
            have z0 : w5.cell? ⟨p, 0, none⟩ = some (.int .i64 ck) := hp.cell rfl
            have z1 : w5.cell? ⟨p, 1, none⟩ = some (.int .i64 (m : Int)) := hp.cell rfl
            have z2 : w5.cell? ⟨p, 2, none⟩ = some (.string Em) := hp.cell rfl
            have y0 : w5.cell? ⟨q, 0, none⟩ = some (.int .i64 dk) := hq.cell rfl
            have y1 : w5.cell? ⟨q, 1, none⟩ = some (.int .i64 (m : Int)) := hq.cell rfl
            have y2 : w5.cell? ⟨q, 2, none⟩ = some (.string Em) := hq.cell rfl
            clear hbw hp hq hlp hlq HRd c0 c1 c2 d0 d1 d2
            rename_i hKc
            refine hKc _ _ ?_
            clear hKc
            apply wp_seq_k
            intro _ _
            go_cut [7, 8] (fun s7 s8 w' => ∃ lx' ly', RQ X Y (restL m ⟨ck, (ci : Int), Em⟩ al) (restL m ⟨dk, (di : Int), Em⟩ bl) lx' ly' ∧ RM wx w' ga gb G (.slice (some ⟨ga, offa, none⟩) (al.length + 1) ca) (.slice (some ⟨gb, offb, none⟩) (bl.length + 1) cb) s7 s8 (⟨ck, (ci : Int), Em⟩ :: al) (⟨dk, (di : Int), Em⟩ :: bl) lx' ly')
            case first =>
              rcases hck with rfl | rfl
              · rcases hdk with rfl | rfl
                · have hld : ledS m (⟨1, (ci : Int), Em⟩ : Cp) ⟨1, (di : Int), Em⟩ = [⟨1, m, Em⟩] := rfl
                  have hld2 : ledS m (⟨1, (di : Int), Em⟩ : Cp) ⟨1, (ci : Int), Em⟩ = [⟨1, m, Em⟩] := rfl
                  rw [hld, hld2] at HQN
                  clear hld hld2
                  go_wp2_with fail
                  have HBd := hid HR5.out.h4
                  clear z0 z1 z2 y0 y1 y2
                  refine wp_region_held_drew (S := fun w' => Blk w' 43 p (Cp.vals ⟨1, m, Em⟩) ∧ Blk w' 43 q (Cp.vals ⟨1, m, Em⟩)) (by kernel_rfl) (⟨HSp.out.k.kept rfl, HSq.out.k.kept rfl⟩) (fun hHeld => ?_)
                  refine wpAnyH_take (i := 0) (v := .slice xo lx.length xc) rfl (by kernel_rfl) (by kernel_rfl) (by kernel_rfl) (fun _ _ _ h => h) (Or.inl ⟨by rfl, by intro w hSw; go_simp⟩) hHeld ?_
                  try simp only [Act.put, List.setIfInBounds_toArray, List.set_cons_zero, List.set_cons_succ, List.getElem_toArray, List.getElem_cons_zero, List.getElem_cons_succ]
                  refine wpAnyH_take (i := 4) (v := .slice yo ly.length yc) rfl (by kernel_rfl) (by kernel_rfl) (by kernel_rfl) (fun _ _ _ h => h) (Or.inl ⟨by rfl, by intro w hSw; go_simp⟩) hHeld ?_
                  try simp only [Act.put, List.setIfInBounds_toArray, List.set_cons_zero, List.set_cons_succ, List.getElem_toArray, List.getElem_cons_zero, List.getElem_cons_succ]
                  refine wpAnyH_take (i := 1) (v := _) rfl (by kernel_rfl) (by kernel_rfl) (by kernel_rfl) (fun _ _ _ h => h) (yieldsIf_load_mid (by rfl) _ _ rfl _ _ rfl (Cp.vals ⟨1, m, Em⟩) _ (fun w hSw => hSw.1.range fun j v hv => by rw [Nat.zero_add]; exact hv) Try.underlying43 rfl (by kernel_rfl)) hHeld ?_
                  try simp only [Act.put, List.setIfInBounds_toArray, List.set_cons_zero, List.set_cons_succ, List.getElem_toArray, List.getElem_cons_zero, List.getElem_cons_succ]
                  refine wpAnyH_take (i := 5) (v := _) rfl (by kernel_rfl) (by kernel_rfl) (by kernel_rfl) (fun _ _ _ h => h) (yieldsIf_load_mid (by rfl) _ _ rfl _ _ rfl (Cp.vals ⟨1, m, Em⟩) _ (fun w hSw => hSw.2.range fun j v hv => by rw [Nat.zero_add]; exact hv) Try.underlying43 rfl (by kernel_rfl)) hHeld ?_
                  try simp only [Act.put, List.setIfInBounds_toArray, List.set_cons_zero, List.set_cons_succ, List.getElem_toArray, List.getElem_cons_zero, List.getElem_cons_succ]
                  have HO := hid (HR5.out.out.later (w' := w5.drew) (Below.refl _ _).drew)
                  replace HSp := hid (HSp.out.later (w' := w5.drew) (Below.refl _ _).drew)
                  replace HSq := hid (HSq.out.later (w' := w5.drew) (Below.refl _ _).drew)
                  have HW := hid (show Below G w5 w5.drew from (Below.refl _ _).drew)
                  simp only [Cp.vals]
                  refine wpAnyH_ready (rs := [2, 6]) (by kernel_rfl) (by simp) ?_
                  refine AllReadyH.cons rfl (fun K hK => ?_) (AllReadyH.cons rfl (fun K hK => ?_) AllReadyH.nil)
                  · go_simp
                    have hbx := (Below.refl w5.drew.heap.size w5.drew).alloc (Nat.le_refl _) (.cells (⟨1, m, Em⟩ : Cp).vals.toArray 43)
                    have HX1 := hid (Side.new (N := w5.heap.size) HO.out (⟨1, m, Em⟩ : Cp).vals (by simp))
                    replace HSp := hid (HSp.out.later hbx)
                    replace HSq := hid (HSq.out.later hbx)
                    replace HO := hid (HO.out.later hbx)
                    replace HW := hid (HW.out.alloc (Nat.le_trans HBd.out HW.out.size) (.cells (⟨1, m, Em⟩ : Cp).vals.toArray 43))
                    clear hbx
                    refine hK.out _ _ (⟨HSp.out.k, HSq.out.k⟩) (fun hHeld => ?_)
                    clear hK K
                    try simp only [Act.put, List.setIfInBounds_toArray, List.set_cons_zero, List.set_cons_succ, List.getElem_toArray, List.getElem_cons_zero, List.getElem_cons_succ]
                    refine wpAnyH_ready (rs := [3, 6]) (by kernel_rfl) (by simp) ?_
                    refine AllReadyH.cons rfl (fun K hK => ?_) (AllReadyH.cons rfl (fun K hK => ?_) AllReadyH.nil)
                    · refine Eq.mpr (if_pos (by rfl)) ?_
                      refine wp_append_o2 _ _ rfl G _ _ _ _ rfl HO.out (Nat.le_trans HBd.out HW.out.size) _ (⟨1, m, Em⟩ : Cp) rfl HX1.out (by omega) ?_
                      intro x1 u1 hO hb hSd
                      replace HW := hid (HW.out.trans hb)
                      replace HO := hid hO
                      replace HSp := hid (hSd _ _ HSp.out)
                      replace HSq := hid (hSd _ _ HSq.out)
                      replace HX1 := hid (hSd _ _ HX1.out)
                      clear hO hb hSd
                      refine hK.out _ _ (⟨HSp.out.k, HSq.out.k⟩) (fun hHeld => ?_)
                      clear hK K
                      try simp only [Act.put, List.setIfInBounds_toArray, List.set_cons_zero, List.set_cons_succ, List.getElem_toArray, List.getElem_cons_zero, List.getElem_cons_succ]
                      refine wpAnyH_ready (rs := [6]) (by kernel_rfl) (by simp) ?_
                      refine AllReadyH.cons rfl (fun K hK => ?_) AllReadyH.nil
                      go_simp
                      have hbx := (Below.refl u1.heap.size u1).alloc (Nat.le_refl _) (.cells (⟨1, m, Em⟩ : Cp).vals.toArray 43)
                      have HX2 := hid (Side.new (N := u1.heap.size) HO.out (⟨1, m, Em⟩ : Cp).vals (by simp))
                      replace HSp := hid (HSp.out.later hbx)
                      replace HSq := hid (HSq.out.later hbx)
                      replace HX1 := hid (HX1.out.later hbx)
                      replace HO := hid (HO.out.later hbx)
                      replace HW := hid (HW.out.alloc (Nat.le_trans HBd.out HW.out.size) (.cells (⟨1, m, Em⟩ : Cp).vals.toArray 43))
                      clear hbx
                      refine hK.out _ _ (⟨HSp.out.k, HSq.out.k⟩) (fun hHeld => ?_)
                      clear hK K
                      try simp only [Act.put, List.setIfInBounds_toArray, List.set_cons_zero, List.set_cons_succ, List.getElem_toArray, List.getElem_cons_zero, List.getElem_cons_succ]
                      refine wpAnyH_ready (rs := [7]) (by kernel_rfl) (by simp) ?_
                      refine AllReadyH.cons rfl (fun K hK => ?_) AllReadyH.nil
                      refine Eq.mpr (if_pos (by rfl)) ?_
                      refine wp_append_o2 _ _ rfl G _ _ _ _ rfl HO.out.swap (Nat.le_trans HBd.out HW.out.size) _ (⟨1, m, Em⟩ : Cp) rfl HX2.out.swap (by omega) ?_
                      intro x2 u2 hO hb hSd
                      replace HW := hid (HW.out.trans hb)
                      replace HO := hid hO.swap
                      replace HSp := hid (hSd _ _ HSp.out.swap)
                      replace HSq := hid (hSd _ _ HSq.out.swap)
                      replace HX1 := hid (hSd _ _ HX1.out.swap)
                      replace HX2 := hid (hSd _ _ HX2.out.swap)
                      replace HSp := hid HSp.out.swap
                      replace HSq := hid HSq.out.swap
                      replace HX1 := hid HX1.out.swap
                      replace HX2 := hid HX2.out.swap
                      clear hO hb hSd
                      refine hK.out _ _ (⟨HSp.out.k, HSq.out.k⟩) (fun hHeld => ?_)
                      clear hK K
                      try simp only [Act.put, List.setIfInBounds_toArray, List.set_cons_zero, List.set_cons_succ, List.getElem_toArray, List.getElem_cons_zero, List.getElem_cons_succ]
                      refine wpAnyH_ready (rs := [8]) (by kernel_rfl) (by simp) ?_
                      refine AllReadyH.cons rfl (fun K hK => ?_) AllReadyH.nil
                      go_simp
                      refine hK.out _ _ (⟨HSp.out.k, HSq.out.k⟩) (fun hHeld => ?_)
                      clear hK K
                      try simp only [Act.put, List.setIfInBounds_toArray, List.set_cons_zero, List.set_cons_succ, List.getElem_toArray, List.getElem_cons_zero, List.getElem_cons_succ]
                      refine wpAnyH_ready (rs := [9]) (by kernel_rfl) (by simp) ?_
                      refine AllReadyH.cons rfl (fun K hK => ?_) AllReadyH.nil
                      go_simp
                      refine hK.out _ _ (⟨HSp.out.k, HSq.out.k⟩) (fun hHeld => ?_)
                      clear hK K
                      try simp only [Act.put, List.setIfInBounds_toArray, List.set_cons_zero, List.set_cons_succ, List.getElem_toArray, List.getElem_cons_zero, List.getElem_cons_succ]
                      refine wpAnyH_done (by kernel_rfl) ?_ _
                      go_wp2_with fail
                      go_meet
                      case rel => exact ⟨_, _, HQN.out, HR5.out.app HW.out HO.out⟩
                    · go_simp
                      have hbx := (Below.refl (w5.drew.alloc (.cells (⟨1, m, Em⟩ : Cp).vals.toArray 43)).heap.size (w5.drew.alloc (.cells (⟨1, m, Em⟩ : Cp).vals.toArray 43))).alloc (Nat.le_refl _) (.cells (⟨1, m, Em⟩ : Cp).vals.toArray 43)
                      have HX2 := hid (Side.new (N := (w5.heap.size + 1)) HO.out (⟨1, m, Em⟩ : Cp).vals (by simp))
                      replace HSp := hid (HSp.out.later hbx)
                      replace HSq := hid (HSq.out.later hbx)
                      replace HX1 := hid (HX1.out.later hbx)
                      replace HO := hid (HO.out.later hbx)
                      replace HW := hid (HW.out.alloc (Nat.le_trans HBd.out HW.out.size) (.cells (⟨1, m, Em⟩ : Cp).vals.toArray 43))
                      clear hbx
                      refine hK.out _ _ (⟨HSp.out.k, HSq.out.k⟩) (fun hHeld => ?_)
                      clear hK K
                      try simp only [Act.put, List.setIfInBounds_toArray, List.set_cons_zero, List.set_cons_succ, List.getElem_toArray, List.getElem_cons_zero, List.getElem_cons_succ]
                      refine wpAnyH_ready (rs := [3]) (by kernel_rfl) (by simp) ?_
                      refine AllReadyH.cons rfl (fun K hK => ?_) AllReadyH.nil
                      refine Eq.mpr (if_pos (by rfl)) ?_
                      refine wp_append_o2 _ _ rfl G _ _ _ _ rfl HO.out (Nat.le_trans HBd.out HW.out.size) _ (⟨1, m, Em⟩ : Cp) rfl HX1.out (by omega) ?_
                      intro x1 u1 hO hb hSd
                      replace HW := hid (HW.out.trans hb)
                      replace HO := hid hO
                      replace HSp := hid (hSd _ _ HSp.out)
                      replace HSq := hid (hSd _ _ HSq.out)
                      replace HX1 := hid (hSd _ _ HX1.out)
                      replace HX2 := hid (hSd _ _ HX2.out)
                      clear hO hb hSd
                      refine hK.out _ _ (⟨HSp.out.k, HSq.out.k⟩) (fun hHeld => ?_)
                      clear hK K
                      try simp only [Act.put, List.setIfInBounds_toArray, List.set_cons_zero, List.set_cons_succ, List.getElem_toArray, List.getElem_cons_zero, List.getElem_cons_succ]
                      refine wpAnyH_ready (rs := [7]) (by kernel_rfl) (by simp) ?_
                      refine AllReadyH.cons rfl (fun K hK => ?_) AllReadyH.nil
                      refine Eq.mpr (if_pos (by rfl)) ?_
                      refine wp_append_o2 _ _ rfl G _ _ _ _ rfl HO.out.swap (Nat.le_trans HBd.out HW.out.size) _ (⟨1, m, Em⟩ : Cp) rfl HX2.out.swap (by omega) ?_
                      intro x2 u2 hO hb hSd
                      replace HW := hid (HW.out.trans hb)
                      replace HO := hid hO.swap
                      replace HSp := hid (hSd _ _ HSp.out.swap)
                      replace HSq := hid (hSd _ _ HSq.out.swap)
                      replace HX1 := hid (hSd _ _ HX1.out.swap)
                      replace HX2 := hid (hSd _ _ HX2.out.swap)
                      replace HSp := hid HSp.out.swap
                      replace HSq := hid HSq.out.swap
                      replace HX1 := hid HX1.out.swap
                      replace HX2 := hid HX2.out.swap
                      clear hO hb hSd
                      refine hK.out _ _ (⟨HSp.out.k, HSq.out.k⟩) (fun hHeld => ?_)
                      clear hK K
                      try simp only [Act.put, List.setIfInBounds_toArray, List.set_cons_zero, List.set_cons_succ, List.getElem_toArray, List.getElem_cons_zero, List.getElem_cons_succ]
                      refine wpAnyH_ready (rs := [8]) (by kernel_rfl) (by simp) ?_
                      refine AllReadyH.cons rfl (fun K hK => ?_) AllReadyH.nil
                      go_simp
                      refine hK.out _ _ (⟨HSp.out.k, HSq.out.k⟩) (fun hHeld => ?_)
                      clear hK K
                      try simp only [Act.put, List.setIfInBounds_toArray, List.set_cons_zero, List.set_cons_succ, List.getElem_toArray, List.getElem_cons_zero, List.getElem_cons_succ]
                      refine wpAnyH_ready (rs := [9]) (by kernel_rfl) (by simp) ?_
                      refine AllReadyH.cons rfl (fun K hK => ?_) AllReadyH.nil
                      go_simp
                      refine hK.out _ _ (⟨HSp.out.k, HSq.out.k⟩) (fun hHeld => ?_)
                      clear hK K
                      try simp only [Act.put, List.setIfInBounds_toArray, List.set_cons_zero, List.set_cons_succ, List.getElem_toArray, List.getElem_cons_zero, List.getElem_cons_succ]
                      refine wpAnyH_done (by kernel_rfl) ?_ _
                      go_wp2_with fail
                      go_meet
                      case rel => exact ⟨_, _, HQN.out, HR5.out.app HW.out HO.out⟩
                  · go_simp
                    have hbx := (Below.refl w5.drew.heap.size w5.drew).alloc (Nat.le_refl _) (.cells (⟨1, m, Em⟩ : Cp).vals.toArray 43)
                    have HX2 := hid (Side.new (N := w5.heap.size) HO.out (⟨1, m, Em⟩ : Cp).vals (by simp))
                    replace HSp := hid (HSp.out.later hbx)
                    replace HSq := hid (HSq.out.later hbx)
                    replace HO := hid (HO.out.later hbx)
                    replace HW := hid (HW.out.alloc (Nat.le_trans HBd.out HW.out.size) (.cells (⟨1, m, Em⟩ : Cp).vals.toArray 43))
                    clear hbx
                    refine hK.out _ _ (⟨HSp.out.k, HSq.out.k⟩) (fun hHeld => ?_)
                    clear hK K
                    try simp only [Act.put, List.setIfInBounds_toArray, List.set_cons_zero, List.set_cons_succ, List.getElem_toArray, List.getElem_cons_zero, List.getElem_cons_succ]
                    refine wpAnyH_ready (rs := [2]) (by kernel_rfl) (by simp) ?_
                    refine AllReadyH.cons rfl (fun K hK => ?_) AllReadyH.nil
                    go_simp
                    have hbx := (Below.refl (w5.drew.alloc (.cells (⟨1, m, Em⟩ : Cp).vals.toArray 43)).heap.size (w5.drew.alloc (.cells (⟨1, m, Em⟩ : Cp).vals.toArray 43))).alloc (Nat.le_refl _) (.cells (⟨1, m, Em⟩ : Cp).vals.toArray 43)
                    have HX1 := hid (Side.new (N := (w5.heap.size + 1)) HO.out (⟨1, m, Em⟩ : Cp).vals (by simp))
                    replace HSp := hid (HSp.out.later hbx)
                    replace HSq := hid (HSq.out.later hbx)
                    replace HX2 := hid (HX2.out.later hbx)
                    replace HO := hid (HO.out.later hbx)
                    replace HW := hid (HW.out.alloc (Nat.le_trans HBd.out HW.out.size) (.cells (⟨1, m, Em⟩ : Cp).vals.toArray 43))
                    clear hbx
                    refine hK.out _ _ (⟨HSp.out.k, HSq.out.k⟩) (fun hHeld => ?_)
                    clear hK K
                    try simp only [Act.put, List.setIfInBounds_toArray, List.set_cons_zero, List.set_cons_succ, List.getElem_toArray, List.getElem_cons_zero, List.getElem_cons_succ]
                    refine wpAnyH_ready (rs := [3]) (by kernel_rfl) (by simp) ?_
                    refine AllReadyH.cons rfl (fun K hK => ?_) AllReadyH.nil
                    refine Eq.mpr (if_pos (by rfl)) ?_
                    refine wp_append_o2 _ _ rfl G _ _ _ _ rfl HO.out (Nat.le_trans HBd.out HW.out.size) _ (⟨1, m, Em⟩ : Cp) rfl HX1.out (by omega) ?_
                    intro x1 u1 hO hb hSd
                    replace HW := hid (HW.out.trans hb)
                    replace HO := hid hO
                    replace HSp := hid (hSd _ _ HSp.out)
                    replace HSq := hid (hSd _ _ HSq.out)
                    replace HX1 := hid (hSd _ _ HX1.out)
                    replace HX2 := hid (hSd _ _ HX2.out)
                    clear hO hb hSd
                    refine hK.out _ _ (⟨HSp.out.k, HSq.out.k⟩) (fun hHeld => ?_)
                    clear hK K
                    try simp only [Act.put, List.setIfInBounds_toArray, List.set_cons_zero, List.set_cons_succ, List.getElem_toArray, List.getElem_cons_zero, List.getElem_cons_succ]
                    refine wpAnyH_ready (rs := [7]) (by kernel_rfl) (by simp) ?_
                    refine AllReadyH.cons rfl (fun K hK => ?_) AllReadyH.nil
                    refine Eq.mpr (if_pos (by rfl)) ?_
                    refine wp_append_o2 _ _ rfl G _ _ _ _ rfl HO.out.swap (Nat.le_trans HBd.out HW.out.size) _ (⟨1, m, Em⟩ : Cp) rfl HX2.out.swap (by omega) ?_
                    intro x2 u2 hO hb hSd
                    replace HW := hid (HW.out.trans hb)
                    replace HO := hid hO.swap
                    replace HSp := hid (hSd _ _ HSp.out.swap)
                    replace HSq := hid (hSd _ _ HSq.out.swap)
                    replace HX1 := hid (hSd _ _ HX1.out.swap)
                    replace HX2 := hid (hSd _ _ HX2.out.swap)
                    replace HSp := hid HSp.out.swap
                    replace HSq := hid HSq.out.swap
                    replace HX1 := hid HX1.out.swap
                    replace HX2 := hid HX2.out.swap
                    clear hO hb hSd
                    refine hK.out _ _ (⟨HSp.out.k, HSq.out.k⟩) (fun hHeld => ?_)
                    clear hK K
                    try simp only [Act.put, List.setIfInBounds_toArray, List.set_cons_zero, List.set_cons_succ, List.getElem_toArray, List.getElem_cons_zero, List.getElem_cons_succ]
                    refine wpAnyH_ready (rs := [8]) (by kernel_rfl) (by simp) ?_
                    refine AllReadyH.cons rfl (fun K hK => ?_) AllReadyH.nil
                    go_simp
                    refine hK.out _ _ (⟨HSp.out.k, HSq.out.k⟩) (fun hHeld => ?_)
                    clear hK K
                    try simp only [Act.put, List.setIfInBounds_toArray, List.set_cons_zero, List.set_cons_succ, List.getElem_toArray, List.getElem_cons_zero, List.getElem_cons_succ]
                    refine wpAnyH_ready (rs := [9]) (by kernel_rfl) (by simp) ?_
                    refine AllReadyH.cons rfl (fun K hK => ?_) AllReadyH.nil
                    go_simp
                    refine hK.out _ _ (⟨HSp.out.k, HSq.out.k⟩) (fun hHeld => ?_)
                    clear hK K
                    try simp only [Act.put, List.setIfInBounds_toArray, List.set_cons_zero, List.set_cons_succ, List.getElem_toArray, List.getElem_cons_zero, List.getElem_cons_succ]
                    refine wpAnyH_done (by kernel_rfl) ?_ _
                    go_wp2_with fail
                    go_meet
                    case rel => exact ⟨_, _, HQN.out, HR5.out.app HW.out HO.out⟩
                · have hld : ledS m (⟨1, (ci : Int), Em⟩ : Cp) ⟨3, (di : Int), Em⟩ = [] := rfl
                  have hld2 : ledS m (⟨3, (di : Int), Em⟩ : Cp) ⟨1, (ci : Int), Em⟩ = [⟨3, m, Em⟩] := rfl
                  rw [hld, hld2, List.append_nil] at HQN
                  clear hld hld2
                  go_wp2_with (at_builtin; go_must (refine wpList_append_o2 rfl _ _ rfl G _ _ _ _ rfl (HR5.out.out.swap.later ((Below.refl _ _).alloc (Nat.le_refl _) (.cells (Cp.vals (⟨3, m, Em⟩ : Cp)).toArray 43))) ?hs w5.heap.size (⟨3, m, Em⟩ : Cp) rfl (Side.new HR5.out.out.swap (Cp.vals (⟨3, m, Em⟩ : Cp)) rfl) ?hb ?_))
                  case hs => have := HR5.out.h4; simp; omega
                  case hb => omega
                  intro v7 w7 hO hbb hSd
                  have HR7 := hid ((HR5.out.later ((Below.refl _ _).alloc (Nat.le_refl _) (.cells (Cp.vals (⟨3, m, Em⟩ : Cp)).toArray 43))).app hbb hO.swap)
                  clear hO hbb hSd
                  go_wp2_with fail
                  go_meet
                  case rel => exact ⟨_, _, HQN.out, HR7.out⟩
              · rcases hdk with rfl | rfl
                · have hld : ledS m (⟨3, (ci : Int), Em⟩ : Cp) ⟨1, (di : Int), Em⟩ = [⟨3, m, Em⟩] := rfl
                  have hld2 : ledS m (⟨1, (di : Int), Em⟩ : Cp) ⟨3, (ci : Int), Em⟩ = [] := rfl
                  rw [hld, hld2, List.append_nil] at HQN
                  clear hld hld2
                  go_wp2_with (at_builtin; go_must (refine wpList_append_o2 rfl _ _ rfl G _ _ _ _ rfl (HR5.out.out.later ((Below.refl _ _).alloc (Nat.le_refl _) (.cells (Cp.vals (⟨3, m, Em⟩ : Cp)).toArray 43))) ?hs w5.heap.size (⟨3, m, Em⟩ : Cp) rfl (Side.new HR5.out.out (Cp.vals (⟨3, m, Em⟩ : Cp)) rfl) ?hb ?_))
                  case hs => have := HR5.out.h4; simp; omega
                  case hb => omega
                  intro v7 w7 hO hbb hSd
                  have HR7 := hid ((HR5.out.later ((Below.refl _ _).alloc (Nat.le_refl _) (.cells (Cp.vals (⟨3, m, Em⟩ : Cp)).toArray 43))).app hbb hO)
                  clear hO hbb hSd
                  go_wp2_with fail
                  go_meet
                  case rel => exact ⟨_, _, HQN.out, HR7.out⟩
                · have hld : ledS m (⟨3, (ci : Int), Em⟩ : Cp) ⟨3, (di : Int), Em⟩ = [] := rfl
                  have hld2 : ledS m (⟨3, (di : Int), Em⟩ : Cp) ⟨3, (ci : Int), Em⟩ = [] := rfl
                  rw [hld, hld2, List.append_nil, List.append_nil] at HQN
                  clear hld hld2 HSp HSq
                  go_wp2_with fail
                  go_meet
                  case rel => exact ⟨_, _, HQN.out, HR5.out⟩
            case rest =>
            obtain ⟨lx6, ly6, hQ6, hR9⟩ := hcut
            rename World => w9
            obtain ⟨ax6, cx6, rfl⟩ := hR9.out.o1.form
            obtain ⟨ay6, cy6, rfl⟩ := hR9.out.o2.form
            have HR9 := hid hR9
            replace HQN := hid hQ6
            have hnc : ck ≠ 2 := by rcases hck with rfl | rfl <;> decide
            have hnd : dk ≠ 2 := by rcases hdk with rfl | rfl <;> decide
            clear hR9 hQ6 HR5 HSp HSq z0 z1 z2 y0 y1 y2 hck hdk
            have hoa := HR9.out.oa
            have hob := HR9.out.ob
            obtain ⟨c0, c1, c2⟩ := hoa.cells
            obtain ⟨d0, d1, d2⟩ := hob.cells
            have f1 := hoa.frozen (offa + 1)
            have f2 := hob.frozen (offb + 1)
            have hne1 : ¬ ga = gb := fun e => HR9.out.ne ga rfl (by rw [e]; rfl)
            have hne2 : ¬ gb = ga := fun e => hne1 e.symm
            clear hoa hob
            simp only at c0 c1 c2 d0 d1 d2
            go_wp2_with fail
            go_region
            have HR6 := hid (HR9.out.setN ((ci : Int) - (m : Int)) ((di : Int) - (m : Int)))
            obtain ⟨w6, hw6⟩ : ∃ x, ((w9.setCell ⟨ga, offa + 1, none⟩ (.int .i64 ((ci : Int) - (m : Int)))).setCell ⟨gb, offb + 1, none⟩ (.int .i64 ((di : Int) - (m : Int)))).drew = x := ⟨_, rfl⟩
            rw [hw6] at HR6 ⊢
            clear hw6 c0 c1 c2 d0 d1 d2 f1 f2 hne1 hne2 HR9
            obtain ⟨c0, c1, c2⟩ := HR6.out.oa.cells
            obtain ⟨d0, d1, d2⟩ := HR6.out.ob.cells
            simp only at c0 c1 c2 d0 d1 d2
            by_cases hA : ci = m
            · have e7 : (((ci : Int) - (m : Int)) == 0) = true := by simp; omega
              by_cases hB : di = m
              · have e8 : (((di : Int) - (m : Int)) == 0) = true := by simp; omega
                rw [rest_zero hA, rest_zero hB] at HQN
                clear hA hB
                go_wp2_with fail
                go_roundw
                case rel => exact ⟨ga, gb, G, al, bl, _, _, ((HR6.out.tailA (HTa.out _ _ HR6.out.oa) (fun k hk => by rw [((HTa.out _ _ HR6.out.oa).lt hk).1]; rfl)).tailB (HTb.out _ _ HR6.out.ob) (fun k hk => by rw [((HTb.out _ _ HR6.out.ob).lt hk).1]; rfl)), HQN.out⟩
                case measure => simp [lenOf] <;> omega
              · have e8 : (((di : Int) - (m : Int)) == 0) = false := by simp; omega
                rw [rest_zero hA, rest_some hnd hB] at HQN
                clear hA hB
                go_wp2_with fail
                go_roundw
                case rel => exact ⟨ga, gb, G, al, ⟨dk, (di : Int) - (m : Int), Em⟩ :: bl, _, _, (HR6.out.tailA (HTa.out _ _ HR6.out.oa) (fun k hk => by rw [((HTa.out _ _ HR6.out.oa).lt hk).1]; rfl)), HQN.out⟩
                case measure => simp [lenOf] <;> omega
            · have e7 : (((ci : Int) - (m : Int)) == 0) = false := by simp; omega
              by_cases hB : di = m
              · have e8 : (((di : Int) - (m : Int)) == 0) = true := by simp; omega
                rw [rest_some hnc hA, rest_zero hB] at HQN
                clear hA hB
                go_wp2_with fail
                go_roundw
                case rel => exact ⟨ga, gb, G, ⟨ck, (ci : Int) - (m : Int), Em⟩ :: al, bl, _, _, (HR6.out.tailB (HTb.out _ _ HR6.out.ob) (fun k hk => by rw [((HTb.out _ _ HR6.out.ob).lt hk).1]; rfl)), HQN.out⟩
                case measure => simp [lenOf] <;> omega
              · exact absurd (show di = m by omega) hB
end Go.Proofs.Ytlgdllbhddnokaa

/- The contract of the second say's Two. -/
import Derived.Test.YtbhojomgbjchkaaRTwoS
import Derived.Test.YtbhojomgbjchkaaObR
import Derived.Deep.DeepCutAuto
namespace Go.Proofs.Ytbhojomgbjchkaa
open Go.RowKit
set_option linter.unusedSimpArgs false
set_option linter.unusedVariables false

theorem empty_new (w : World) (Bd : Nat) (hB : Bd ≤ w.heap.size) : HasC (w.alloc (.cells #[] 42)) Bd (.slice (some ⟨w.heap.size, 0, none⟩) 0 0) [] :=
  HasK.built (xs := []) (heap_alloc_new w _) (by simp) hB

set_option maxRecDepth 100000 in
set_option maxHeartbeats 4000000 in
theorem refTwo_any (va vb : Value) (a b : List Cp) (i u j t : Nat) (w : World) (ha : Ob w va a i u) (hb : Ob w vb b j t) :
    Calls Try.prog 16 #[va, vb] w fun e w' => (j ≠ u → e = .returned (.tuple #[.slice none 0 0, .int .i64 7])) ∧ (j = u → ∃ v', e = .returned (.tuple #[v', .int .i64 0]) ∧ Ob w' v' (twoS a b) i t) ∧ Below w.heap.size w w' := by
  obtain ⟨ao, ac, rfl⟩ := ha.rc.form
  obtain ⟨bo, bc, rfl⟩ := hb.rc.form
  have HA := hid ha
  have HB := hid hb
  have hla := ha.len
  have hlb := hb.len
  clear ha hb
  go_enter Try.func16, Try.ntmps16
  go_wp2_with fail
  refine (rin_ob HB.out).mono ?_
  rintro _ wx ⟨rfl, rfl⟩
  go_wp2_with fail
  refine (rout_ob HA.out).mono ?_
  rintro _ wx ⟨rfl, rfl⟩
  by_cases hju : j = u
  case neg =>
    have h1 : ((j : Int) == (u : Int)) = false := by simp; omega
    have HN := hid hju
    clear hju
    go_wp2_with fail
    go_ret2
    exact ⟨fun _ => rfl, fun h => absurd h HN.out, Below.refl _ _⟩
  subst hju
  go_wp2_with (at_builtin; go_must (refine wpList_append_c2 rfl _ _ rfl wx.heap.size _ [] rfl (empty_new wx wx.heap.size (Nat.le_refl _)) ?hs1 _ a rfl (HA.out.rc.later ((Below.refl _ _).alloc (Nat.le_refl _) _)) ?hb1 ?_))
  case hs1 => simp
  case hb1 => simp; omega
  intro v1 w1 hH1 hb1 hk1 hq1
  obtain ⟨g1, hg1, hg2, hO1⟩ := OwnC.of_has hH1 (Nat.le_refl _)
  have Hb1 := hid (show Below wx.heap.size wx w1 from ((Below.refl _ _).alloc (Nat.le_refl _) _).trans hb1)
  have hsz1 : wx.heap.size < w1.heap.size := by have := hb1.size; simp at this; omega
  have HO1 := hid hO1
  have HB1 := hid (HB.out.later Hb1.out)
  clear hH1 hb1 hk1 hq1 hO1
  go_wp2_with (at_builtin; go_must (refine wpList_append_c2 rfl _ _ rfl w1.heap.size _ [] rfl (empty_new w1 w1.heap.size (Nat.le_refl _)) ?hs1 _ b rfl (HB1.out.rc.later ((Below.refl _ _).alloc (Nat.le_refl _) _)) ?hb1 ?_))
  case hs1 => simp
  case hb1 => simp; omega
  intro v2 w2 hH2 hb2 hk2 hq2
  obtain ⟨g2, hg3, hg4, hO2⟩ := OwnC.of_has hH2 (Nat.le_refl _)
  have hb2' : Below w1.heap.size w1 w2 := ((Below.refl _ _).alloc (Nat.le_refl _) _).trans hb2
  have hsz2 : w1.heap.size < w2.heap.size := by have := hb2.size; simp at this; omega
  obtain ⟨a1, c1, rfl⟩ := HO1.out.form
  obtain ⟨a2, c2, rfl⟩ := hO2.form
  have HRW := hid (show RW wx w2 g1 g2 w2.heap.size (.slice a1 a.length c1) (.slice a2 b.length c2) (.slice none 0 0) a b [] from
    ⟨below_seq Hb1.out hb2', HO1.out.kept (hb2'.block _ (by omega)), hO2, HasC.nil _ _, hg1, by omega, by omega, Nat.le_refl _⟩)
  have HRP := hid (show RP a b a b [] from ⟨HA.out.good, HB.out.good, by rw [HB.out.ins, HA.out.outs], rfl, by rw [HA.out.ins]; have := HA.out.hi; omega, by rw [HA.out.outs]; have := HA.out.hu; omega, by rw [HB.out.outs]; have := HB.out.hu; omega⟩)
  clear hH2 hb2 hk2 hq2 hb2' hO2 HO1 HB1 Hb1 hg1 hg2 hg3 hg4
  go_wp2_with fail
  go_loopw [0, 1, 6] (fun va vb vo wr => ∃ ga gb G al bl l, RW wx wr ga gb G va vb vo al bl l ∧ RP a b al bl l) (fun va vb _ _ => lenOf va + lenOf vb)
  case atStart => exact ⟨g1, g2, w2.heap.size, a, b, [], HRW.out, HRP.out⟩
  case round =>
    clear HRW HRP
    obtain ⟨ga, gb, G, al, bl, l, hR, hP⟩ := hrel
    obtain ⟨aa, ca, rfl⟩ := hR.oa.form
    obtain ⟨ab, cb, rfl⟩ := hR.ob.form
    obtain ⟨oo, oc, rfl⟩ := hR.out.form
    have HR := hid hR
    have HP := hid hP
    have hll := hP.len
    clear hR hP
    cases al with
    | nil =>
      cases bl with
      | nil =>
        have hlc : l = compS a b := by have := HP.out.eq; rwa [comp_nil, List.append_nil] at this
        have hca := comp_ca HA.out.good HB.out.good (by rw [HB.out.ins, HA.out.outs])
        have hle := comp_le a b
        have hi1 := HA.out.hi
        have hu1 := HB.out.hu
        have HGL := hid (show Good l by rw [hlc]; exact hca.good)
        have HFL := hid (show Fit l by rw [hlc]; exact fit_of hca.good (by omega) (by rw [hca.ins, HA.out.ins]; omega) (by rw [hca.outs, HB.out.outs]; omega))
        have HLC := hid hlc
        clear hca hle hlc
        go_wp2_with fail
        refine (refNormal_any _ l _ HR.out.out.reads HFL.out HGL.out).mono ?_
        rintro _ w4 ⟨v4, rfl, hH4, hb4⟩
        have HH4 := hid hH4
        have Hb4 := hid (below_seq HR.out.below hb4)
        clear hH4 hb4
        go_wp2_with fail
        go_ret2
        have T := two_ta HA.out.good HB.out.good (by rw [HB.out.ins, HA.out.outs])
        exact ⟨⟨_, rfl, ⟨by rw [twoS, ← HLC.out]; exact HH4.out.reads, T.good, by rw [T.ins, HA.out.ins], by rw [T.outs, HB.out.outs], HA.out.hi, HB.out.hu⟩⟩, Hb4.out⟩
      | cons d bl =>
        have hk := HP.out.noA
        have e2 : (d.k == 2) = true := by simp [hk]
        have hob := HR.out.ob
        simp only [List.length_cons] at hob ⊢
        obtain ⟨pb, qb, hslb, htlb⟩ := hob.tail
        obtain ⟨offb, e2, hcb, d0, d1, d2⟩ := hob.head
        subst e2
        have HTB := hid htlb
        have hlb1 : (0 : Int) < (bl.length : Int) + 1 := by omega
        clear hob htlb
        have HPN := hid (HP.out.put (by simp) hk)
        clear hk
        go_wp2_with (at_builtin; go_must (refine wpList_append_c rfl _ _ rfl G _ l rfl (HR.out.out.later ((Below.refl _ _).alloc (Nat.le_refl _) _)) ?hs _ [d] rfl (one_new wr d G HR.out.h4).reads ?hb ?_))
        case hs => have := HR.out.h4; simp; omega
        case hb => simp; omega
        intro v7 w7 hH7 hb7
        have HR7 := hid ((HR.out.later ((Below.refl _ _).alloc (Nat.le_refl _) _)).app hb7 hH7)
        clear hH7 hb7
        go_wp2_with fail
        go_roundw
        case rel => exact ⟨ga, gb, G, [], bl, _, HR7.out.tailB (HTB.out _ _ HR7.out.ob), HPN.out⟩
        case measure => simp [lenOf]
    | cons c al =>
      have hoa := HR.out.oa
      simp only [List.length_cons] at hoa ⊢
      obtain ⟨pa, qa, hsla, htla⟩ := hoa.tail
      obtain ⟨offa, e1, hca, c0, c1, c2⟩ := hoa.head
      subst e1
      have HTA := hid htla
      have hla1 : (0 : Int) < (al.length : Int) + 1 := by omega
      clear hoa htla
      by_cases hk : c.k = 3
      · have e3 : (c.k == 3) = true := by simp [hk]
        have HPN := hid (HP.out.cut hk)
        clear hk
        go_wp2_with (at_builtin; go_must (refine wpList_append_c rfl _ _ rfl G _ l rfl (HR.out.out.later ((Below.refl _ _).alloc (Nat.le_refl _) _)) ?hs _ [c] rfl (one_new wr c G HR.out.h4).reads ?hb ?_))
        case hs => have := HR.out.h4; simp; omega
        case hb => simp; omega
        intro v7 w7 hH7 hb7
        have HR7 := hid ((HR.out.later ((Below.refl _ _).alloc (Nat.le_refl _) _)).app hb7 hH7)
        clear hH7 hb7
        go_wp2_with fail
        go_roundw
        case rel => exact ⟨ga, gb, G, al, bl, _, HR7.out.tailA (HTA.out _ _ HR7.out.oa), HPN.out⟩
        case measure => simp [lenOf]
      · have e3 : (c.k == 3) = false := by simpa using hk
        cases bl with
        | nil => exact absurd HP.out.noB hk
        | cons d bl =>
          have hob := HR.out.ob
          simp only [List.length_cons] at hob ⊢
          obtain ⟨pb, qb, hslb, htlb⟩ := hob.tail
          obtain ⟨offb, e2, hcb, d0, d1, d2⟩ := hob.head
          subst e2
          have HTB := hid htlb
          have hlb1 : (0 : Int) < (bl.length : Int) + 1 := by omega
          clear hob htlb
          by_cases hd : d.k = 2
          · have e2 : (d.k == 2) = true := by simp [hd]
            have HPN := hid (HP.out.put (by simpa using hk) hd)
            clear hk hd
            go_wp2_with (at_builtin; go_must (refine wpList_append_c rfl _ _ rfl G _ l rfl (HR.out.out.later ((Below.refl _ _).alloc (Nat.le_refl _) _)) ?hs _ [d] rfl (one_new wr d G HR.out.h4).reads ?hb ?_))
            case hs => have := HR.out.h4; simp; omega
            case hb => simp; omega
            intro v7 w7 hH7 hb7
            have HR7 := hid ((HR.out.later ((Below.refl _ _).alloc (Nat.le_refl _) _)).app hb7 hH7)
            clear hH7 hb7
            go_wp2_with fail
            go_roundw
            case rel => exact ⟨ga, gb, G, c :: al, bl, _, HR7.out.tailB (HTB.out _ _ HR7.out.ob), HPN.out⟩
            case measure => simp [lenOf]
          · have e2 : (d.k == 2) = false := by simpa using hd
            have HPN := hid (HP.out.both hk hd)
            obtain ⟨sc0, sc1, sc2, sc3⟩ := small HP.out.ga HP.out.ia HP.out.oa
            obtain ⟨sd0, sd1, sd2, sd3⟩ := small HP.out.gb (by rw [HP.out.io]; exact HP.out.oa) HP.out.ob
            have hzc := HP.out.ga.hd.szp
            have hzd := HP.out.gb.hd.szp
            obtain ⟨k, hkm⟩ : ∃ k, min c.sz d.sz = k := ⟨_, rfl⟩
            rw [hkm] at HPN
            have hif : (if (d.sz : Int) < (c.sz : Int) then (d.sz : Int) else (c.sz : Int)) = (k : Int) := by
              by_cases h : d.sz < c.sz
              · rw [if_pos (by omega)]; omega
              · rw [if_neg (by omega)]; omega
            have hk1 : 1 ≤ k ∧ k ≤ c.sz ∧ k ≤ d.sz ∧ (k = c.sz ∨ k = d.sz) := by omega
            have HBx := hid (show Below wr.heap.size wr wr.drew from (Below.refl _ _).drew)
            clear hkm
            go_upto_region 12 with fail
            go_cut [7] (fun s7 w' => s7 = .int .i64 (k : Int) ∧ Below wr.heap.size wr w')
            case first =>
              go_region_with (go_at_call 27; go_must (first | (refine (rsize_any c sc0 (by omega) (by omega) _).mono ?_) | (refine (rsize_any d sd0 (by omega) (by omega) _).mono ?_)); (rintro _ wn ⟨rfl, hbn⟩); (replace c0 := cell_later hbn c0); (replace c1 := cell_later hbn c1); (replace c2 := cell_later hbn c2); (replace d0 := cell_later hbn d0); (replace d1 := cell_later hbn d1); (replace d2 := cell_later hbn d2); (replace HBx := hid (below_seq HBx.out hbn)); (clear hbn))
              all_goals
                go_wp2_with fail
                all_goals
                  go_meet
                  case rel => exact ⟨by congr 1; omega, HBx.out⟩
            case rest =>
            obtain ⟨rfl, hbc⟩ := hcut
            replace c0 := cell_later hbc c0
            replace c1 := cell_later hbc c1
            replace c2 := cell_later hbc c2
            replace d0 := cell_later hbc d0
            replace d1 := cell_later hbc d1
            replace d2 := cell_later hbc d2
            have HR2 := hid (HR.out.later hbc)
            have hokc := HP.out.ga.hd
            have hokd := HP.out.gb.hd
            clear hbc HBx hif HR
            go_wp2_with fail
            refine (part_any c hokc k hk1.1 hk1.2.1 (by omega) _).mono ?_
            rintro _ w3 ⟨rfl, hb3⟩
            replace d0 := cell_later hb3 d0
            replace d1 := cell_later hb3 d1
            replace d2 := cell_later hb3 d2
            have HR3 := hid (HR2.out.later hb3)
            clear hb3 c0 c1 c2 HR2
            obtain ⟨x, hx⟩ : ∃ x, c.fr k = x := ⟨_, rfl⟩
            obtain ⟨rA, hrA⟩ : ∃ x, c.rs k = x := ⟨_, rfl⟩
            rw [hx, hrA]
            simp only [Cp.vals]
            have HX := hid hx
            have HRA := hid hrA
            clear hx hrA
            go_upto_region 14 with fail
            obtain ⟨w4, hw4⟩ : ∃ w4, (w3.alloc (.cells x.vals.toArray 42)).alloc (.cells rA.vals.toArray 42) = w4 := ⟨_, rfl⟩
            have hbx := below2 w3 (.cells x.vals.toArray 42) (.cells rA.vals.toArray 42)
            have hbk := boxes2 w3 x rA
            rw [hw4] at hbx hbk
            rw [show (w3.alloc (.cells #[.int .i64 x.k, .int .i64 x.n, .string x.s] 42)).alloc (.cells #[.int .i64 rA.k, .int .i64 rA.n, .string rA.s] 42) = w4 from hw4]
            have HR4 := hid (HR3.out.later hbx)
            replace d0 := cell_later hbx d0
            replace d1 := cell_later hbx d1
            replace d2 := cell_later hbx d2
            have HBX := hid hbk.1
            have HBR := hid hbk.2
            obtain ⟨gx, hgx⟩ : ∃ gx, w3.heap.size = gx := ⟨_, rfl⟩
            rw [hgx] at HBX HBR ⊢
            have HOB := hid (show ∀ q, blkOf (.slice oo l.length oc) = some q → q < gx from fun q h => by rw [← hgx]; exact HR3.out.out.blk h)
            have hGx : G ≤ gx := by rw [← hgx]; exact HR3.out.h4
            clear hbx hbk hw4 hgx HR3
            go_wp2_with fail
            refine (part_any d hokd k hk1.1 hk1.2.2.1 (by omega) _).mono ?_
            rintro _ w5 ⟨rfl, hb5⟩
            have HR5 := hid (HR4.out.later hb5)
            have HBX5 := hid (HBX.out.later hb5)
            have HBR5 := hid (HBR.out.later hb5)
            have hsz5 : gx + 2 ≤ w5.heap.size := by have := HBR5.out.lt; omega
            clear hb5 d0 d1 d2 HR4 HBX HBR
            obtain ⟨y, hy⟩ : ∃ x, d.fr k = x := ⟨_, rfl⟩
            obtain ⟨rB, hrB⟩ : ∃ x, d.rs k = x := ⟨_, rfl⟩
            rw [hy, hrB]
            simp only [Cp.vals]
            have HYY := hid hy
            have HRB := hid hrB
            clear hy hrB
            go_upto_region 15 with fail
            obtain ⟨w6, hw6⟩ : ∃ w6, (w5.alloc (.cells y.vals.toArray 42)).alloc (.cells rB.vals.toArray 42) = w6 := ⟨_, rfl⟩
            have hbx := below2 w5 (.cells y.vals.toArray 42) (.cells rB.vals.toArray 42)
            have hbk := boxes2 w5 y rB
            rw [hw6] at hbx hbk
            rw [show (w5.alloc (.cells #[.int .i64 y.k, .int .i64 y.n, .string y.s] 42)).alloc (.cells #[.int .i64 rB.k, .int .i64 rB.n, .string rB.s] 42) = w6 from hw6]
            have HR6 := hid (HR5.out.later hbx)
            have HBX6 := hid (HBX5.out.later hbx)
            have HBR6 := hid (HBR5.out.later hbx)
            have HBY6 := hid hbk.1
            have HBS6 := hid hbk.2
            obtain ⟨gy, hgy⟩ : ∃ gy, w5.heap.size = gy := ⟨_, rfl⟩
            rw [hgy] at HBY6 HBS6 hsz5 ⊢
            have hsz6 : gy + 2 ≤ w6.heap.size := by have := HBS6.out.lt; omega
            clear hbx hbk hw6 hgy HR5 HBX5 HBR5
            have hyk : y.k = d.k := by rw [← HYY.out, fr_k]
            have hxk : x.k = c.k := by rw [← HX.out, fr_k]
            have hrz := rs_sz hokc hk1.2.1
            have hsz := rs_sz hokd hk1.2.2.1
            rw [HRA.out] at hrz
            rw [HRB.out] at hsz
            have HRZ := hid hrz
            have HSZ := hid hsz
            have HK1 := hid hk1
            clear hrz hsz hk1
            have t0 : w6.cell? ⟨gy, 0, none⟩ = some (.int .i64 y.k) := HBY6.out.cell rfl
            by_cases h1 : d.k = 1
            · have e5 : (y.k == 1) = true := by rw [hyk]; simp [h1]
              have HJ := hid (show joint k c d = [x] by rw [joint, if_pos h1, HX.out])
              clear h1 hyk hxk
              have z0 : w6.cell? ⟨gx, 0, none⟩ = some (.int .i64 x.k) := HBX6.out.cell rfl
              have z1 : w6.cell? ⟨gx, 1, none⟩ = some (.int .i64 x.n) := HBX6.out.cell rfl
              have z2 : w6.cell? ⟨gx, 2, none⟩ = some (.string x.s) := HBX6.out.cell rfl
              go_wp2_with (at_builtin; go_must (refine wpList_append_c2 rfl _ _ rfl G _ l rfl (HR6.out.out.later ((Below.refl _ _).alloc (Nat.le_refl _) _)) ?hs _ [x] rfl (one_new w6 x G HR6.out.h4).reads ?hb ?_))
              case hs => have := HR6.out.h4; simp; omega
              case hb => simp; omega
              intro v7 w7 hH7 hb7 hk7 hq7
              have HR7 := hid ((HR6.out.later ((Below.refl _ _).alloc (Nat.le_refl _) _)).app hb7 hH7)
              have HBR7 := hid ((HBR6.out.alloc _).kept (hk7 (gx + 1) (by simp; omega) (fun h => absurd (HOB.out _ h) (by omega))))
              have HBS7 := hid ((HBS6.out.alloc _).kept (hk7 (gy + 1) (by simp; omega) (fun h => absurd (HOB.out _ h) (by omega))))
              clear hH7 hb7 hk7 hq7 z0 z1 z2 t0 HBR6 HBS6 HBX6 HBY6
              have r0 : w7.cell? ⟨gx + 1, 0, none⟩ = some (.int .i64 rA.k) := HBR7.out.cell rfl
              have r1 : w7.cell? ⟨gx + 1, 1, none⟩ = some (.int .i64 rA.n) := HBR7.out.cell rfl
              have r2 : w7.cell? ⟨gx + 1, 2, none⟩ = some (.string rA.s) := HBR7.out.cell rfl
              have s0 : w7.cell? ⟨gy + 1, 0, none⟩ = some (.int .i64 rB.k) := HBS7.out.cell rfl
              have s1 : w7.cell? ⟨gy + 1, 1, none⟩ = some (.int .i64 rB.n) := HBS7.out.cell rfl
              have s2 : w7.cell? ⟨gy + 1, 2, none⟩ = some (.string rB.s) := HBS7.out.cell rfl
              obtain ⟨c0, c1, c2⟩ := HR7.out.oa.cells
              obtain ⟨d0, d1, d2⟩ := HR7.out.ob.cells
              have f0 := HR7.out.oa.frozen offa
              have f1 := HR7.out.oa.frozen (offa + 1)
              have f2 := HR7.out.oa.frozen (offa + 2)
              have g0 := HR7.out.ob.frozen offb
              have g1 := HR7.out.ob.frozen (offb + 1)
              have g2 := HR7.out.ob.frozen (offb + 2)
              have hne1 : ¬ ga = gb := by have := HR7.out.h2; omega
              have hne2 : ¬ gb = ga := by have := HR7.out.h2; omega
              have hne3 : ¬ gx + 1 = ga ∧ ¬ gx + 1 = gb ∧ ¬ gy + 1 = ga ∧ ¬ gy + 1 = gb ∧ ¬ ga = gx + 1 ∧ ¬ gb = gx + 1 ∧ ¬ ga = gy + 1 ∧ ¬ gb = gy + 1 := by have := HR7.out.h2; have := HR7.out.h3; omega
              obtain ⟨n1, n2, n3, n4, n5, n6, n7, n8⟩ := hne3
              go_wp2_with fail
              go_region
              obtain ⟨w8, hw8⟩ : ∃ w8, (laid3 (laid3 w7 ga offa rA) gb offb rB).drew = w8 := ⟨_, rfl⟩
              have hw9 := hw8
              unfold laid3 at hw9
              rw [hw9]
              have HR8 := hid (HR7.out.set rA rB)
              rw [hw8] at HR8
              clear hw8 hw9 r0 r1 r2 s0 s1 s2 c0 c1 c2 d0 d1 d2 f0 f1 f2 g0 g1 g2 hne1 hne2 n1 n2 n3 n4 n5 n6 n7 n8 HR7 HBR7 HBS7
              obtain ⟨c0, c1, c2⟩ := HR8.out.oa.cells
              go_wp2_with fail
              refine (rsize_any rA HRZ.out.2.1 (by have := HRZ.out; omega) (by have := HRZ.out; omega) _).mono ?_
              rintro _ w9 ⟨rfl, hb9⟩
              have HR9 := hid (HR8.out.later hb9)
              clear hb9 HR8 c0 c1 c2
              rw [HRZ.out.1]
              obtain ⟨zA, hzA⟩ : ∃ z, c.sz - k = z := ⟨_, rfl⟩
              rw [hzA]
              have HZA := hid hzA
              clear hzA
              obtain ⟨d0, d1, d2⟩ := HR9.out.ob.cells
              by_cases hA : zA = 0
              · have HAA := hid (show c.sz = k by have h1 := HZA.out; have h4 := HK1.out; omega)
                subst hA
                go_wp2_with fail
                refine (rsize_any rB HSZ.out.2.1 (by have := HSZ.out; omega) (by have := HSZ.out; omega) _).mono ?_
                rintro _ w10 ⟨rfl, hb10⟩
                have HR10 := hid (HR9.out.later hb10)
                clear hb10 d0 d1 d2
                rw [HSZ.out.1]
                obtain ⟨zB, hzB⟩ : ∃ z, d.sz - k = z := ⟨_, rfl⟩
                rw [hzB]
                have HZB := hid hzB
                clear hzB
                by_cases hB : zB = 0
                · have HBB := hid (show d.sz = k by have h1 := HZB.out; have h4 := HK1.out; omega)
                  subst hB
                  have HPX := hid (show RP a b (al) (bl) _ by have h := HPN.out; rw [restL, if_pos HAA.out, restL, if_pos HBB.out, HJ.out] at h; exact h)
                  go_wp2_with fail
                  go_roundw
                  case rel => exact ⟨ga, gb, G, al, bl, _, ((HR10.out.tailA (HTA.out _ _ HR10.out.oa)).tailB (HTB.out _ _ HR10.out.ob)), HPX.out⟩
                  case measure => simp [lenOf] <;> omega
                · have HBB := hid (show ¬ d.sz = k by have h1 := HZB.out; omega)
                  have e8 : ((zB : Int) == 0) = false := by simp; omega
                  clear hB
                  have HPX := hid (show RP a b (al) (rB :: bl) _ by have h := HPN.out; rw [restL, if_pos HAA.out, restL, if_neg HBB.out, HRB.out, HJ.out] at h; exact h)
                  go_wp2_with fail
                  go_roundw
                  case rel => exact ⟨ga, gb, G, al, rB :: bl, _, (HR10.out.tailA (HTA.out _ _ HR10.out.oa)), HPX.out⟩
                  case measure => simp [lenOf] <;> omega
              · have HAA := hid (show ¬ c.sz = k by have h1 := HZA.out; omega)
                have e7 : ((zA : Int) == 0) = false := by simp; omega
                have HNA := hid hA
                clear hA
                go_wp2_with fail
                refine (rsize_any rB HSZ.out.2.1 (by have := HSZ.out; omega) (by have := HSZ.out; omega) _).mono ?_
                rintro _ w10 ⟨rfl, hb10⟩
                have HR10 := hid (HR9.out.later hb10)
                clear hb10 d0 d1 d2
                rw [HSZ.out.1]
                obtain ⟨zB, hzB⟩ : ∃ z, d.sz - k = z := ⟨_, rfl⟩
                rw [hzB]
                have HZB := hid hzB
                clear hzB
                by_cases hB : zB = 0
                · have HBB := hid (show d.sz = k by have h1 := HZB.out; have h4 := HK1.out; omega)
                  subst hB
                  have HPX := hid (show RP a b (rA :: al) (bl) _ by have h := HPN.out; rw [restL, if_neg HAA.out, HRA.out, restL, if_pos HBB.out, HJ.out] at h; exact h)
                  go_wp2_with fail
                  go_roundw
                  case rel => exact ⟨ga, gb, G, rA :: al, bl, _, (HR10.out.tailB (HTB.out _ _ HR10.out.ob)), HPX.out⟩
                  case measure => simp [lenOf] <;> omega
                · exact absurd (show zB = 0 by have h1 := HZA.out; have h2 := HZB.out; have h3 := HNA.out; have h4 := HK1.out; omega) hB
            · have e5 : (y.k == 1) = false := by rw [hyk]; simpa using h1
              have x0 : w6.cell? ⟨gx, 0, none⟩ = some (.int .i64 x.k) := HBX6.out.cell rfl
              by_cases h2 : c.k = 1
              · have e6 : (x.k == 1) = true := by rw [hxk]; simp [h2]
                have HJ := hid (show joint k c d = [y] by rw [joint, if_neg h1, if_pos h2, HYY.out])
                clear h1 h2 hyk hxk
                have z0 : w6.cell? ⟨gy, 0, none⟩ = some (.int .i64 y.k) := HBY6.out.cell rfl
                have z1 : w6.cell? ⟨gy, 1, none⟩ = some (.int .i64 y.n) := HBY6.out.cell rfl
                have z2 : w6.cell? ⟨gy, 2, none⟩ = some (.string y.s) := HBY6.out.cell rfl
                go_wp2_with (at_builtin; go_must (refine wpList_append_c2 rfl _ _ rfl G _ l rfl (HR6.out.out.later ((Below.refl _ _).alloc (Nat.le_refl _) _)) ?hs _ [y] rfl (one_new w6 y G HR6.out.h4).reads ?hb ?_))
                case hs => have := HR6.out.h4; simp; omega
                case hb => simp; omega
                intro v7 w7 hH7 hb7 hk7 hq7
                have HR7 := hid ((HR6.out.later ((Below.refl _ _).alloc (Nat.le_refl _) _)).app hb7 hH7)
                have HBR7 := hid ((HBR6.out.alloc _).kept (hk7 (gx + 1) (by simp; omega) (fun h => absurd (HOB.out _ h) (by omega))))
                have HBS7 := hid ((HBS6.out.alloc _).kept (hk7 (gy + 1) (by simp; omega) (fun h => absurd (HOB.out _ h) (by omega))))
                clear hH7 hb7 hk7 hq7 z0 z1 z2 t0 HBR6 HBS6 HBX6 HBY6
                clear x0
                have r0 : w7.cell? ⟨gx + 1, 0, none⟩ = some (.int .i64 rA.k) := HBR7.out.cell rfl
                have r1 : w7.cell? ⟨gx + 1, 1, none⟩ = some (.int .i64 rA.n) := HBR7.out.cell rfl
                have r2 : w7.cell? ⟨gx + 1, 2, none⟩ = some (.string rA.s) := HBR7.out.cell rfl
                have s0 : w7.cell? ⟨gy + 1, 0, none⟩ = some (.int .i64 rB.k) := HBS7.out.cell rfl
                have s1 : w7.cell? ⟨gy + 1, 1, none⟩ = some (.int .i64 rB.n) := HBS7.out.cell rfl
                have s2 : w7.cell? ⟨gy + 1, 2, none⟩ = some (.string rB.s) := HBS7.out.cell rfl
                obtain ⟨c0, c1, c2⟩ := HR7.out.oa.cells
                obtain ⟨d0, d1, d2⟩ := HR7.out.ob.cells
                have f0 := HR7.out.oa.frozen offa
                have f1 := HR7.out.oa.frozen (offa + 1)
                have f2 := HR7.out.oa.frozen (offa + 2)
                have g0 := HR7.out.ob.frozen offb
                have g1 := HR7.out.ob.frozen (offb + 1)
                have g2 := HR7.out.ob.frozen (offb + 2)
                have hne1 : ¬ ga = gb := by have := HR7.out.h2; omega
                have hne2 : ¬ gb = ga := by have := HR7.out.h2; omega
                have hne3 : ¬ gx + 1 = ga ∧ ¬ gx + 1 = gb ∧ ¬ gy + 1 = ga ∧ ¬ gy + 1 = gb ∧ ¬ ga = gx + 1 ∧ ¬ gb = gx + 1 ∧ ¬ ga = gy + 1 ∧ ¬ gb = gy + 1 := by have := HR7.out.h2; have := HR7.out.h3; omega
                obtain ⟨n1, n2, n3, n4, n5, n6, n7, n8⟩ := hne3
                go_wp2_with fail
                go_region
                obtain ⟨w8, hw8⟩ : ∃ w8, (laid3 (laid3 w7 ga offa rA) gb offb rB).drew = w8 := ⟨_, rfl⟩
                have hw9 := hw8
                unfold laid3 at hw9
                rw [hw9]
                have HR8 := hid (HR7.out.set rA rB)
                rw [hw8] at HR8
                clear hw8 hw9 r0 r1 r2 s0 s1 s2 c0 c1 c2 d0 d1 d2 f0 f1 f2 g0 g1 g2 hne1 hne2 n1 n2 n3 n4 n5 n6 n7 n8 HR7 HBR7 HBS7
                obtain ⟨c0, c1, c2⟩ := HR8.out.oa.cells
                go_wp2_with fail
                refine (rsize_any rA HRZ.out.2.1 (by have := HRZ.out; omega) (by have := HRZ.out; omega) _).mono ?_
                rintro _ w9 ⟨rfl, hb9⟩
                have HR9 := hid (HR8.out.later hb9)
                clear hb9 HR8 c0 c1 c2
                rw [HRZ.out.1]
                obtain ⟨zA, hzA⟩ : ∃ z, c.sz - k = z := ⟨_, rfl⟩
                rw [hzA]
                have HZA := hid hzA
                clear hzA
                obtain ⟨d0, d1, d2⟩ := HR9.out.ob.cells
                by_cases hA : zA = 0
                · have HAA := hid (show c.sz = k by have h1 := HZA.out; have h4 := HK1.out; omega)
                  subst hA
                  go_wp2_with fail
                  refine (rsize_any rB HSZ.out.2.1 (by have := HSZ.out; omega) (by have := HSZ.out; omega) _).mono ?_
                  rintro _ w10 ⟨rfl, hb10⟩
                  have HR10 := hid (HR9.out.later hb10)
                  clear hb10 d0 d1 d2
                  rw [HSZ.out.1]
                  obtain ⟨zB, hzB⟩ : ∃ z, d.sz - k = z := ⟨_, rfl⟩
                  rw [hzB]
                  have HZB := hid hzB
                  clear hzB
                  by_cases hB : zB = 0
                  · have HBB := hid (show d.sz = k by have h1 := HZB.out; have h4 := HK1.out; omega)
                    subst hB
                    have HPX := hid (show RP a b (al) (bl) _ by have h := HPN.out; rw [restL, if_pos HAA.out, restL, if_pos HBB.out, HJ.out] at h; exact h)
                    go_wp2_with fail
                    go_roundw
                    case rel => exact ⟨ga, gb, G, al, bl, _, ((HR10.out.tailA (HTA.out _ _ HR10.out.oa)).tailB (HTB.out _ _ HR10.out.ob)), HPX.out⟩
                    case measure => simp [lenOf] <;> omega
                  · have HBB := hid (show ¬ d.sz = k by have h1 := HZB.out; omega)
                    have e8 : ((zB : Int) == 0) = false := by simp; omega
                    clear hB
                    have HPX := hid (show RP a b (al) (rB :: bl) _ by have h := HPN.out; rw [restL, if_pos HAA.out, restL, if_neg HBB.out, HRB.out, HJ.out] at h; exact h)
                    go_wp2_with fail
                    go_roundw
                    case rel => exact ⟨ga, gb, G, al, rB :: bl, _, (HR10.out.tailA (HTA.out _ _ HR10.out.oa)), HPX.out⟩
                    case measure => simp [lenOf] <;> omega
                · have HAA := hid (show ¬ c.sz = k by have h1 := HZA.out; omega)
                  have e7 : ((zA : Int) == 0) = false := by simp; omega
                  have HNA := hid hA
                  clear hA
                  go_wp2_with fail
                  refine (rsize_any rB HSZ.out.2.1 (by have := HSZ.out; omega) (by have := HSZ.out; omega) _).mono ?_
                  rintro _ w10 ⟨rfl, hb10⟩
                  have HR10 := hid (HR9.out.later hb10)
                  clear hb10 d0 d1 d2
                  rw [HSZ.out.1]
                  obtain ⟨zB, hzB⟩ : ∃ z, d.sz - k = z := ⟨_, rfl⟩
                  rw [hzB]
                  have HZB := hid hzB
                  clear hzB
                  by_cases hB : zB = 0
                  · have HBB := hid (show d.sz = k by have h1 := HZB.out; have h4 := HK1.out; omega)
                    subst hB
                    have HPX := hid (show RP a b (rA :: al) (bl) _ by have h := HPN.out; rw [restL, if_neg HAA.out, HRA.out, restL, if_pos HBB.out, HJ.out] at h; exact h)
                    go_wp2_with fail
                    go_roundw
                    case rel => exact ⟨ga, gb, G, rA :: al, bl, _, (HR10.out.tailB (HTB.out _ _ HR10.out.ob)), HPX.out⟩
                    case measure => simp [lenOf] <;> omega
                  · exact absurd (show zB = 0 by have h1 := HZA.out; have h2 := HZB.out; have h3 := HNA.out; have h4 := HK1.out; omega) hB
              · have e6 : (x.k == 1) = false := by rw [hxk]; simpa using h2
                have HJ := hid (show joint k c d = [] by rw [joint, if_neg h1, if_neg h2])
                clear h1 h2 hyk hxk
                have HPZ := HPN
                have r0 : w6.cell? ⟨gx + 1, 0, none⟩ = some (.int .i64 rA.k) := HBR6.out.cell rfl
                have r1 : w6.cell? ⟨gx + 1, 1, none⟩ = some (.int .i64 rA.n) := HBR6.out.cell rfl
                have r2 : w6.cell? ⟨gx + 1, 2, none⟩ = some (.string rA.s) := HBR6.out.cell rfl
                have s0 : w6.cell? ⟨gy + 1, 0, none⟩ = some (.int .i64 rB.k) := HBS6.out.cell rfl
                have s1 : w6.cell? ⟨gy + 1, 1, none⟩ = some (.int .i64 rB.n) := HBS6.out.cell rfl
                have s2 : w6.cell? ⟨gy + 1, 2, none⟩ = some (.string rB.s) := HBS6.out.cell rfl
                obtain ⟨c0, c1, c2⟩ := HR6.out.oa.cells
                obtain ⟨d0, d1, d2⟩ := HR6.out.ob.cells
                have f0 := HR6.out.oa.frozen offa
                have f1 := HR6.out.oa.frozen (offa + 1)
                have f2 := HR6.out.oa.frozen (offa + 2)
                have g0 := HR6.out.ob.frozen offb
                have g1 := HR6.out.ob.frozen (offb + 1)
                have g2 := HR6.out.ob.frozen (offb + 2)
                have hne1 : ¬ ga = gb := by have := HR6.out.h2; omega
                have hne2 : ¬ gb = ga := by have := HR6.out.h2; omega
                have hne3 : ¬ gx + 1 = ga ∧ ¬ gx + 1 = gb ∧ ¬ gy + 1 = ga ∧ ¬ gy + 1 = gb ∧ ¬ ga = gx + 1 ∧ ¬ gb = gx + 1 ∧ ¬ ga = gy + 1 ∧ ¬ gb = gy + 1 := by have := HR6.out.h2; have := HR6.out.h3; omega
                obtain ⟨n1, n2, n3, n4, n5, n6, n7, n8⟩ := hne3
                go_wp2_with fail
                go_region
                obtain ⟨w8, hw8⟩ : ∃ w8, (laid3 (laid3 w6 ga offa rA) gb offb rB).drew = w8 := ⟨_, rfl⟩
                have hw9 := hw8
                unfold laid3 at hw9
                rw [hw9]
                have HR8 := hid (HR6.out.set rA rB)
                rw [hw8] at HR8
                clear hw8 hw9 r0 r1 r2 s0 s1 s2 c0 c1 c2 d0 d1 d2 f0 f1 f2 g0 g1 g2 hne1 hne2 n1 n2 n3 n4 n5 n6 n7 n8 HR6 HBR6 HBS6
                obtain ⟨c0, c1, c2⟩ := HR8.out.oa.cells
                go_wp2_with fail
                refine (rsize_any rA HRZ.out.2.1 (by have := HRZ.out; omega) (by have := HRZ.out; omega) _).mono ?_
                rintro _ w9 ⟨rfl, hb9⟩
                have HR9 := hid (HR8.out.later hb9)
                clear hb9 HR8 c0 c1 c2
                rw [HRZ.out.1]
                obtain ⟨zA, hzA⟩ : ∃ z, c.sz - k = z := ⟨_, rfl⟩
                rw [hzA]
                have HZA := hid hzA
                clear hzA
                obtain ⟨d0, d1, d2⟩ := HR9.out.ob.cells
                by_cases hA : zA = 0
                · have HAA := hid (show c.sz = k by have h1 := HZA.out; have h4 := HK1.out; omega)
                  subst hA
                  go_wp2_with fail
                  refine (rsize_any rB HSZ.out.2.1 (by have := HSZ.out; omega) (by have := HSZ.out; omega) _).mono ?_
                  rintro _ w10 ⟨rfl, hb10⟩
                  have HR10 := hid (HR9.out.later hb10)
                  clear hb10 d0 d1 d2
                  rw [HSZ.out.1]
                  obtain ⟨zB, hzB⟩ : ∃ z, d.sz - k = z := ⟨_, rfl⟩
                  rw [hzB]
                  have HZB := hid hzB
                  clear hzB
                  by_cases hB : zB = 0
                  · have HBB := hid (show d.sz = k by have h1 := HZB.out; have h4 := HK1.out; omega)
                    subst hB
                    have HPX := hid (show RP a b (al) (bl) _ by have h := HPN.out; rw [restL, if_pos HAA.out, restL, if_pos HBB.out, HJ.out, List.append_nil] at h; exact h)
                    go_wp2_with fail
                    go_roundw
                    case rel => exact ⟨ga, gb, G, al, bl, _, ((HR10.out.tailA (HTA.out _ _ HR10.out.oa)).tailB (HTB.out _ _ HR10.out.ob)), HPX.out⟩
                    case measure => simp [lenOf] <;> omega
                  · have HBB := hid (show ¬ d.sz = k by have h1 := HZB.out; omega)
                    have e8 : ((zB : Int) == 0) = false := by simp; omega
                    clear hB
                    have HPX := hid (show RP a b (al) (rB :: bl) _ by have h := HPN.out; rw [restL, if_pos HAA.out, restL, if_neg HBB.out, HRB.out, HJ.out, List.append_nil] at h; exact h)
                    go_wp2_with fail
                    go_roundw
                    case rel => exact ⟨ga, gb, G, al, rB :: bl, _, (HR10.out.tailA (HTA.out _ _ HR10.out.oa)), HPX.out⟩
                    case measure => simp [lenOf] <;> omega
                · have HAA := hid (show ¬ c.sz = k by have h1 := HZA.out; omega)
                  have e7 : ((zA : Int) == 0) = false := by simp; omega
                  have HNA := hid hA
                  clear hA
                  go_wp2_with fail
                  refine (rsize_any rB HSZ.out.2.1 (by have := HSZ.out; omega) (by have := HSZ.out; omega) _).mono ?_
                  rintro _ w10 ⟨rfl, hb10⟩
                  have HR10 := hid (HR9.out.later hb10)
                  clear hb10 d0 d1 d2
                  rw [HSZ.out.1]
                  obtain ⟨zB, hzB⟩ : ∃ z, d.sz - k = z := ⟨_, rfl⟩
                  rw [hzB]
                  have HZB := hid hzB
                  clear hzB
                  by_cases hB : zB = 0
                  · have HBB := hid (show d.sz = k by have h1 := HZB.out; have h4 := HK1.out; omega)
                    subst hB
                    have HPX := hid (show RP a b (rA :: al) (bl) _ by have h := HPN.out; rw [restL, if_neg HAA.out, HRA.out, restL, if_pos HBB.out, HJ.out, List.append_nil] at h; exact h)
                    go_wp2_with fail
                    go_roundw
                    case rel => exact ⟨ga, gb, G, rA :: al, bl, _, (HR10.out.tailB (HTB.out _ _ HR10.out.ob)), HPX.out⟩
                    case measure => simp [lenOf] <;> omega
                  · exact absurd (show zB = 0 by have h1 := HZA.out; have h2 := HZB.out; have h3 := HNA.out; have h4 := HK1.out; omega) hB
end Go.Proofs.Ytbhojomgbjchkaa

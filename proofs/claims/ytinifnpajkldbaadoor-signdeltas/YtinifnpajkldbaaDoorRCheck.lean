/- The contracts of the second say's User and Check (chapter 8). -/
import Derived.Test.YtinifnpajkldbaaDoorPk26
import Derived.Test.YtinifnpajkldbaaDoorPk30
namespace Go.Proofs.YtinifnpajkldbaaDoor
open Go.RowKit
set_option linter.unusedSimpArgs false
set_option linter.unusedVariables false

set_option maxHeartbeats 1000000 in
theorem rUser_any (D U : Int) (w : World) : Calls Tryd.prog 70 #[.agg #[.int .i64 D, .int .i64 U]] w fun e w' => e = .returned (.bool (userS D U)) ∧ Below w.heap.size w w' := by
  have HB := hid (show ∀ ob, Below w.heap.size w (w.alloc ob) from fun ob => (Below.refl _ _).alloc (Nat.le_refl _) ob)
  by_cases h1 : 0 ≤ D
  case neg =>
    have HR := hid (show userS D U = false by rw [userS, upS_neg (by omega)]; rfl)
    go_enter Tryd.func70, Tryd.ntmps70
    go_wp2
    go_ret
    exact ⟨by rw [HR.out]; rfl, HB.out _⟩
  by_cases h2 : D < 3
  case neg =>
    have HR := hid (show userS D U = false by rw [userS, upS_out (by omega)]; rfl)
    go_enter Tryd.func70, Tryd.ntmps70
    go_wp2
    go_ret
    exact ⟨by rw [HR.out]; rfl, HB.out _⟩
  by_cases h3 : 0 ≤ U
  case neg =>
    have HR := hid (show userS D U = false by rw [userS, upS_in (m := 2) (by omega) (by omega), upS_neg (by omega)]; rfl)
    go_enter Tryd.func70, Tryd.ntmps70
    go_wp2
    go_ret
    exact ⟨by rw [HR.out]; rfl, HB.out _⟩
  by_cases h4 : U < 8
  case neg =>
    have HR := hid (show userS D U = false by rw [userS, upS_in (m := 2) (by omega) (by omega), upS_out (by omega)]; rfl)
    go_enter Tryd.func70, Tryd.ntmps70
    go_wp2
    go_ret
    exact ⟨by rw [HR.out]; rfl, HB.out _⟩
  · have HR := hid (show userS D U = true by rw [userS, upS_in (m := 2) (by omega) (by omega), upS_in (by omega) (by omega)]; rfl)
    go_enter Tryd.func70, Tryd.ntmps70
    go_wp2
    go_ret
    exact ⟨by rw [HR.out]; rfl, HB.out _⟩

set_option maxRecDepth 100000 in
set_option maxHeartbeats 4000000 in
theorem rCheck_any (d : Dl) (hd : d.h.length = 32) (v : Value) (o : List Cp) (w : World) (hv : RC w v o) (hs : ∀ c ∈ o, c.s.size ≤ 1099511627776) (hln : o.length ≤ 1099511627776) :
    Calls Tryd.prog 45 #[.agg (d.cells v).toArray] w fun e w' => e = .returned (.int .i64 (chkD d o)) ∧ Below w.heap.size w w' := by
  obtain ⟨ao, cap, rfl⟩ := hv.form
  obtain ⟨cs, hcs⟩ : ∃ cs, d.cells (.slice ao o.length cap) = cs := ⟨_, rfl⟩
  rw [hcs]
  have HCS := hid hcs
  have HV := hid hv
  have HS := hid hs
  have HD := hid hd
  obtain ⟨L, hL⟩ : ∃ L, w.heap.size = L := ⟨_, rfl⟩
  clear hcs hv hs hd
  obtain ⟨r1, hr1⟩ : ∃ r, userS d.aD d.aU = r := ⟨_, rfl⟩
  have HR := hid (show chkD d o = if r1 && upS 1073741824 d.id && upS 1048576 d.ver then (if d.k = 1 then editS o d.wD d.wU else if d.k = 2 ∨ d.k = 3 then peopleS o d.wD d.wU else 3) else 1 by rw [chkD, hr1])
  have H1 := hid hr1
  clear hr1
  go_enter Tryd.func45, Tryd.ntmps45
  go_wp2_with ((show wpList _ _ _ (⟨some 1, Op.box _ _, _, _, _, _⟩ :: _) _ _; go_must (refine wpList_box_blk rfl 30 _ rfl cs rfl L hL ?_); intro w1 hB1 hb1 hs1; rw [← HCS.out] at hB1; have HW := hid (DW.mk HD.out hB1); obtain ⟨c0, c1, c2, c3, c36, c37, c38, c39⟩ := HW.out.cells; clear c2 c3 c36 c37 c38 c39 hB1; replace hb1 := hid hb1))
  subst hL
  refine (rUser_any _ _ _).mono ?_
  rintro _ w2 ⟨rfl, hb2⟩
  have HW2 := hid (HW.out.later hb2)
  have Hb2 := hid (show Below w.heap.size w w2 from below_seq hb1.out hb2)
  replace c0 := HW2.out.cells
  obtain ⟨c0, c1, c2, c3, c36, c37, c38, c39⟩ := c0
  rw [H1.out]
  clear hb2 c0 c1 hs1 HW hb1 H1 c36 c37 c38 c39
  cases r1 with
  | false =>
    have HE := hid (show chkD d o = 1 from HR.out)
    go_wp2_with fail
    go_ret
    exact ⟨by rw [HE.out]; rfl, Hb2.out⟩
  | true =>
  replace HR := hid (show chkD d o = if upS 1073741824 d.id && upS 1048576 d.ver then (if d.k = 1 then editS o d.wD d.wU else if d.k = 2 ∨ d.k = 3 then peopleS o d.wD d.wU else 3) else 1 from HR.out)
  by_cases h1 : d.id < 0
  · have HE := hid (show chkD d o = 1 by rw [HR.out, upS_neg h1]; rfl)
    go_wp2_with fail
    go_ret
    exact ⟨by rw [HE.out]; rfl, Hb2.out⟩
  by_cases h2 : 1073741824 < d.id
  · have HE := hid (show chkD d o = 1 by rw [HR.out, upS_out h2]; rfl)
    go_wp2_with fail
    go_ret
    exact ⟨by rw [HE.out]; rfl, Hb2.out⟩
  by_cases h3 : d.ver < 0
  · have HE := hid (show chkD d o = 1 by rw [HR.out, upS_neg h3, Bool.and_false]; rfl)
    go_wp2_with fail
    go_ret
    exact ⟨by rw [HE.out]; rfl, Hb2.out⟩
  by_cases h4 : 1048576 < d.ver
  · have HE := hid (show chkD d o = 1 by rw [HR.out, upS_out h4, Bool.and_false]; rfl)
    go_wp2_with fail
    go_ret
    exact ⟨by rw [HE.out]; rfl, Hb2.out⟩
  replace HR := hid (show chkD d o = if d.k = 1 then editS o d.wD d.wU else if d.k = 2 ∨ d.k = 3 then peopleS o d.wD d.wU else 3 by rw [HR.out, upS_in (by omega) (by omega), upS_in (by omega) (by omega)]; rfl)
  obtain ⟨x0, x1, x2, x3, c36, c37, c38, c39⟩ := HW2.out.cells
  clear x0 x1 x2 x3
  have HVL := hid (HV.out.later Hb2.out)
  by_cases k1 : d.k = 1
  · rw [if_pos k1] at HR
    rw [k1] at c36
    clear k1
    go_wp2_with fail
    refine (refCheck_any _ o _ HVL.out HS.out hln).mono ?_
    rintro _ w3 ⟨rfl, hb3⟩
    have d38 := cell_later hb3 c38
    have d39 := cell_later hb3 c39
    have Hb3 := hid (show Below w.heap.size w w3 from below_seq Hb2.out hb3)
    clear hb3 c37 c38 c39 c2 c3 c36
    obtain ⟨r, hr⟩ : ∃ r, chkS o = r := ⟨_, rfl⟩
    replace HR := hid (show chkD d o = if r ≠ 0 then r else if d.wD = 0 ∧ d.wU = 0 then 0 else 1 by rw [HR.out, editS, hr])
    rw [hr]
    clear hr
    by_cases h0 : r = 0
    · subst h0
      have hneq := fun wx => neq_addr wx d.wD d.wU 0 0
      by_cases hz : d.wD = 0 ∧ d.wU = 0
      · have HZ := hid (show (!(d.wD == 0 && d.wU == 0)) = false by rw [hz.1, hz.2]; rfl)
        have HE := hid (show chkD d o = 0 by rw [HR.out, if_neg (by simp), if_pos hz])
        rw [HZ.out] at hneq
        clear hz
        go_wp2_with fail
        go_ret
        exact ⟨by rw [HE.out]; rfl, Hb3.out⟩
      · have HZ := hid (show (!(d.wD == 0 && d.wU == 0)) = true by simp; omega)
        have HE := hid (show chkD d o = 1 by rw [HR.out, if_neg (by simp), if_neg hz])
        rw [HZ.out] at hneq
        clear hz
        go_wp2_with fail
        go_ret
        exact ⟨by rw [HE.out]; rfl, Hb3.out⟩
    · have hne : (r == 0) = false := by simpa using h0
      have HE := hid (show chkD d o = r by rw [HR.out, if_pos h0])
      go_wp2_with fail
      go_ret
      exact ⟨by rw [HE.out]; rfl, Hb3.out⟩
  have e1 : (d.k == 1) = false := by simpa using k1
  by_cases k23 : d.k = 2 ∨ d.k = 3
  · have HP := hid (show chkD d o = peopleS o d.wD d.wU by rw [HR.out, if_neg k1, if_pos k23])
    obtain ⟨n, hn⟩ : ∃ n, o.length = n := ⟨_, rfl⟩
    replace HP := hid (show chkD d o = if n = 0 ∧ userS d.wD d.wU = true then 0 else 1 by rw [HP.out, peopleS, hn])
    rw [hn] at c37 hln
    clear k1 hn
    by_cases h0 : n = 0
    · subst h0
      rcases k23 with k | k
      all_goals
        rw [k] at c36 e1
        clear k
        go_wp2_with fail
        refine (rUser_any _ _ _).mono ?_
        rintro _ w3 ⟨rfl, hb3⟩
        have Hb3 := hid (show Below w.heap.size w w3 from below_seq Hb2.out hb3)
        clear hb3 c37 c38 c39 c2 c3 c36
        obtain ⟨r, hr⟩ : ∃ r, userS d.wD d.wU = r := ⟨_, rfl⟩
        rw [hr] at HP ⊢
        clear hr
        cases r
        · have HE := hid (show chkD d o = 1 by rw [HP.out]; simp)
          go_wp2_with fail
          go_ret
          exact ⟨by rw [HE.out]; rfl, Hb3.out⟩
        · have HE := hid (show chkD d o = 0 by rw [HP.out]; simp)
          go_wp2_with fail
          go_ret
          exact ⟨by rw [HE.out]; rfl, Hb3.out⟩
    · have h1 : (0 : Int) < (n : Int) := by omega
      have HE := hid (show chkD d o = 1 by rw [HP.out, if_neg (by omega)])
      rcases k23 with k | k
      all_goals
        rw [k] at c36 e1
        clear k
        go_wp2_with fail
        go_ret
        exact ⟨by rw [HE.out]; rfl, Hb2.out⟩
  have e2 : (d.k == 2) = false := by simp; omega
  have e3 : (d.k == 3) = false := by simp; omega
  have HE := hid (show chkD d o = 3 by rw [HR.out, if_neg k1, if_neg k23])
  clear k1 k23
  go_wp2_with fail
  go_ret
  exact ⟨by rw [HE.out]; rfl, Hb2.out⟩
end Go.Proofs.YtinifnpajkldbaaDoor

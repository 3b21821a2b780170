/- The contracts of package delta's Check and what it calls. -/
import Derived.Test.YtajkjbhfkeakhaaDl
import Derived.Test.YtajkjbhfkeakhaaChk
import Derived.Laws.StructEq
namespace Go.Proofs.Ytajkjbhfkeakhaa
open Go.RowKit
set_option linter.unusedSimpArgs false
set_option linter.unusedVariables false

def upS (m n : Int) : Bool := decide (0 ≤ n) && decide (n ≤ m)
def userS (D U : Int) : Bool := upS 2 D && upS 7 U
def editS (o : List Cp) (D U : Int) : Int := if chkS o ≠ 0 then chkS o else if D = 0 ∧ U = 0 then 0 else 1
def peopleS (o : List Cp) (D U : Int) : Int := if o.length = 0 ∧ userS D U = true then 0 else 1
def chkD (d : Dl) (o : List Cp) : Int :=
  if userS d.aD d.aU && upS 1073741824 d.id && upS 1048576 d.ver then (if d.k = 1 then editS o d.wD d.wU else if d.k = 2 ∨ d.k = 3 then peopleS o d.wD d.wU else 3) else 1

theorem upS_neg {m n : Int} (h : n < 0) : upS m n = false := by unfold upS; simp; omega
theorem upS_out {m n : Int} (h : m < n) : upS m n = false := by unfold upS; simp; omega
theorem upS_in {m n : Int} (h : 0 ≤ n) (h2 : n ≤ m) : upS m n = true := by unfold upS; simp; omega

set_option maxHeartbeats 1000000 in
theorem upTo_any (m n : Int) (w : World) : Calls Try.prog 52 #[.int .i64 m, .int .i64 n] w fun e w' => e = .returned (.bool (upS m n)) ∧ w' = w := by
  by_cases h : n < 0
  · have HR := hid (upS_neg (m := m) h)
    have h1 : ¬ (0 : Int) ≤ n := by omega
    go_enter Try.func52, Try.ntmps52
    go_wp2
    go_ret
    exact ⟨by rw [HR.out]; rfl, rfl⟩
  have h1 : (0 : Int) ≤ n := by omega
  by_cases h2 : n ≤ m
  · have HR := hid (upS_in h1 h2)
    go_enter Try.func52, Try.ntmps52
    go_wp2
    go_ret
    exact ⟨by rw [HR.out]; rfl, rfl⟩
  · have HR := hid (upS_out (m := m) (n := n) (by omega))
    go_enter Try.func52, Try.ntmps52
    go_wp2
    go_ret
    exact ⟨by rw [HR.out]; rfl, rfl⟩

set_option maxHeartbeats 1000000 in
theorem isUser_any (D U : Int) (w : World) : Calls Try.prog 51 #[.agg #[.int .i64 D, .int .i64 U]] w fun e w' => e = .returned (.bool (userS D U)) ∧ Below w.heap.size w w' := by
  have HB := hid (show ∀ ob, Below w.heap.size w (w.alloc ob) from fun ob => (Below.refl _ _).alloc (Nat.le_refl _) ob)
  obtain ⟨x, hx⟩ : ∃ x, upS 2 D = x := ⟨_, rfl⟩
  obtain ⟨y, hy⟩ : ∃ y, upS 7 U = y := ⟨_, rfl⟩
  have HR := hid (show userS D U = (x && y) by rw [userS, hx, hy])
  have HX := hid hx
  have HY := hid hy
  clear hx hy
  go_enter Try.func51, Try.ntmps51
  go_wp2_with fail
  refine (upTo_any _ _ _).mono ?_
  rintro _ w2 ⟨rfl, hw2⟩
  subst hw2
  rw [HX.out]
  cases x
  · go_wp2_with fail
    go_ret
    exact ⟨by rw [HR.out]; rfl, HB.out _⟩
  · go_wp2_with fail
    refine (upTo_any _ _ _).mono ?_
    rintro _ w3 ⟨rfl, hw3⟩
    subst hw3
    rw [HY.out]
    go_wp2_with fail
    go_ret
    exact ⟨by rw [HR.out]; cases y <;> rfl, HB.out _⟩

theorem neq_addr (w : World) (a b c d : Int) : (binOp .neq 23 (.agg #[.int .i64 a, .int .i64 b]) (.agg #[.int .i64 c, .int .i64 d])).run Try.prog w = .ok (.bool (!(a == c && b == d))) w := by
  have hS : Try.prog.underlying 23 = some (.struct (Try.prog.fieldsOf 23)) := by kernel_rfl
  have hp : Try.prog.stoodInHeld 23 = false := by kernel_rfl
  rw [run_neq_struct, show (10000 : Nat) = 9999 + 1 from rfl, run_equalIn_agg w 9999 23 _ _ hS hp]
  simp only [Program.fieldsOf, Try.underlying23]
  go_simp
  by_cases h1 : a = c <;> by_cases h2 : b = d <;> simp [h1, h2]

set_option maxRecDepth 100000 in
set_option maxHeartbeats 1000000 in
theorem checkEdit_any (d : Dl) (hd : d.h.length = 32) (v : Value) (o : List Cp) (w : World) (hv : RC w v o) (hs : ∀ c ∈ o, c.s.size ≤ 1099511627776) (hln : o.length ≤ 1099511627776) :
    Calls Try.prog 53 #[.agg (d.cells v).toArray] w fun e w' => e = .returned (.int .i64 (editS o d.wD d.wU)) ∧ Below w.heap.size w w' := by
  obtain ⟨ao, cap, rfl⟩ := hv.form
  obtain ⟨cs, hcs⟩ : ∃ cs, d.cells (.slice ao o.length cap) = cs := ⟨_, rfl⟩
  rw [hcs]
  have HCS := hid hcs
  have HV := hid hv
  have HS := hid hs
  have HD := hid hd
  obtain ⟨L, hL⟩ : ∃ L, w.heap.size = L := ⟨_, rfl⟩
  clear hcs hv hs hd
  go_enter Try.func53, Try.ntmps53
  go_wp2_with ((show wpList _ _ _ (⟨some 1, Op.box _ _, _, _, _, _⟩ :: _) _ _; go_must (refine wpList_box_blk rfl 29 _ rfl cs rfl L hL ?_); intro w1 hB1 hb1 hs1; rw [← HCS.out] at hB1; have HW := hid (DW.mk HD.out hB1); obtain ⟨c0, c1, c2, c3, c36, c37, c38, c39⟩ := HW.out.cells; clear c0 c1 c2 c3 c36 hB1; replace hb1 := hid hb1))
  subst hL
  refine (Check_any _ o _ (HV.out.later hb1.out) HS.out hln).mono ?_
  rintro _ w2 ⟨rfl, hb2⟩
  have d38 := cell_later hb2 c38
  have d39 := cell_later hb2 c39
  have Hb2 := hid (show Below w.heap.size w w2 from below_seq hb1.out hb2)
  clear hb2 c37 c38 c39 hs1
  obtain ⟨r, hr⟩ : ∃ r, chkS o = r := ⟨_, rfl⟩
  have HR := hid (show editS o d.wD d.wU = if r ≠ 0 then r else if d.wD = 0 ∧ d.wU = 0 then 0 else 1 by rw [editS, hr])
  rw [hr]
  clear hr
  by_cases h0 : r = 0
  · subst h0
    have hneq := fun wx => neq_addr wx d.wD d.wU 0 0
    by_cases hz : d.wD = 0 ∧ d.wU = 0
    · have HZ := hid (show (!(d.wD == 0 && d.wU == 0)) = false by rw [hz.1, hz.2]; rfl)
      have HE := hid (show editS o d.wD d.wU = 0 by rw [HR.out, if_neg (by simp), if_pos hz])
      rw [HZ.out] at hneq
      clear hz
      go_wp2_with fail
      go_ret
      exact ⟨by rw [HE.out]; rfl, Hb2.out⟩
    · have HZ := hid (show (!(d.wD == 0 && d.wU == 0)) = true by simp; omega)
      have HE := hid (show editS o d.wD d.wU = 1 by rw [HR.out, if_neg (by simp), if_neg hz])
      rw [HZ.out] at hneq
      clear hz
      go_wp2_with fail
      go_ret
      exact ⟨by rw [HE.out]; rfl, Hb2.out⟩
  · have hne : (r == 0) = false := by simpa using h0
    have HE := hid (show editS o d.wD d.wU = r by rw [HR.out, if_pos h0])
    go_wp2_with fail
    go_ret
    exact ⟨by rw [HE.out]; rfl, Hb2.out⟩

set_option maxRecDepth 100000 in
set_option maxHeartbeats 1000000 in
theorem checkPeople_any (d : Dl) (hd : d.h.length = 32) (v : Value) (o : List Cp) (w : World) (hv : RC w v o) (hln : o.length ≤ 1099511627776) :
    Calls Try.prog 54 #[.agg (d.cells v).toArray] w fun e w' => e = .returned (.int .i64 (peopleS o d.wD d.wU)) ∧ Below w.heap.size w w' := by
  obtain ⟨ao, cap, rfl⟩ := hv.form
  obtain ⟨cs, hcs⟩ : ∃ cs, d.cells (.slice ao o.length cap) = cs := ⟨_, rfl⟩
  rw [hcs]
  have HCS := hid hcs
  have HD := hid hd
  obtain ⟨L, hL⟩ : ∃ L, w.heap.size = L := ⟨_, rfl⟩
  clear hcs hv hd
  obtain ⟨n, hn⟩ : ∃ n, o.length = n := ⟨_, rfl⟩
  have HR := hid (show peopleS o d.wD d.wU = if n = 0 ∧ userS d.wD d.wU = true then 0 else 1 by rw [peopleS, hn])
  rw [hn] at HCS hln
  clear hn
  by_cases h0 : n = 0
  · subst h0
    go_enter Try.func54, Try.ntmps54
    go_wp2_with ((show wpList _ _ _ (⟨some 1, Op.box _ _, _, _, _, _⟩ :: _) _ _; go_must (refine wpList_box_blk rfl 29 _ rfl cs rfl L hL ?_); intro w1 hB1 hb1 hs1; rw [← HCS.out] at hB1; have HW := hid (DW.mk HD.out hB1); obtain ⟨c0, c1, c2, c3, c36, c37, c38, c39⟩ := HW.out.cells; clear c0 c1 c2 c3 c36 hB1; replace hb1 := hid hb1))
    subst hL
    refine (isUser_any _ _ _).mono ?_
    rintro _ w2 ⟨rfl, hb2⟩
    have Hb2 := hid (show Below w.heap.size w w2 from below_seq hb1.out hb2)
    clear hb2 c37 c38 c39 hs1
    obtain ⟨r, hr⟩ : ∃ r, userS d.wD d.wU = r := ⟨_, rfl⟩
    rw [hr] at HR ⊢
    clear hr
    cases r
    · go_wp2_with fail
      go_ret
      exact ⟨by rw [HR.out]; rfl, Hb2.out⟩
    · go_wp2_with fail
      go_ret
      exact ⟨by rw [HR.out]; rfl, Hb2.out⟩
  · have h1 : (0 : Int) < (n : Int) := by omega
    have HE := hid (show peopleS o d.wD d.wU = 1 by rw [HR.out, if_neg (by omega)])
    go_enter Try.func54, Try.ntmps54
    go_wp2_with ((show wpList _ _ _ (⟨some 1, Op.box _ _, _, _, _, _⟩ :: _) _ _; go_must (refine wpList_box_blk rfl 29 _ rfl cs rfl L hL ?_); intro w1 hB1 hb1 hs1; rw [← HCS.out] at hB1; have HW := hid (DW.mk HD.out hB1); obtain ⟨c0, c1, c2, c3, c36, c37, c38, c39⟩ := HW.out.cells; clear c0 c1 c2 c3 c36 hB1; replace hb1 := hid hb1))
    subst hL
    go_ret
    exact ⟨by rw [HE.out]; rfl, hb1.out⟩

set_option maxRecDepth 100000 in
set_option maxHeartbeats 2000000 in
theorem dCheck_any (d : Dl) (hd : d.h.length = 32) (v : Value) (o : List Cp) (w : World) (hv : RC w v o) (hs : ∀ c ∈ o, c.s.size ≤ 1099511627776) (hln : o.length ≤ 1099511627776) :
    Calls Try.prog 25 #[.agg (d.cells v).toArray] w fun e w' => e = .returned (.int .i64 (chkD d o)) ∧ Below w.heap.size w w' := by
  obtain ⟨cs, hcs⟩ : ∃ cs, d.cells v = cs := ⟨_, rfl⟩
  rw [hcs]
  have HCS := hid hcs
  have HV := hid hv
  have HS := hid hs
  have HD := hid hd
  have hi := hid (show (Try.prog.info? 29).map (·.size) = some cs.length by rw [← hcs, Dl.len hd]; kernel_rfl)
  obtain ⟨L, hL⟩ : ∃ L, w.heap.size = L := ⟨_, rfl⟩
  clear hcs hv hs hd
  obtain ⟨r1, hr1⟩ : ∃ r, userS d.aD d.aU = r := ⟨_, rfl⟩
  obtain ⟨r2, hr2⟩ : ∃ r, upS 1073741824 d.id = r := ⟨_, rfl⟩
  obtain ⟨r3, hr3⟩ : ∃ r, upS 1048576 d.ver = r := ⟨_, rfl⟩
  have HR := hid (show chkD d o = if r1 && r2 && r3 then (if d.k = 1 then editS o d.wD d.wU else if d.k = 2 ∨ d.k = 3 then peopleS o d.wD d.wU else 3) else 1 by rw [chkD, hr1, hr2, hr3])
  have H1 := hid hr1
  have H2 := hid hr2
  have H3 := hid hr3
  clear hr1 hr2 hr3
  go_enter Try.func25, Try.ntmps25
  go_wp2_with ((show wpList _ _ _ (⟨some 1, Op.box _ _, _, _, _, _⟩ :: _) _ _; go_must (refine wpList_box_blk rfl 29 _ rfl cs rfl L hL ?_); intro w1 hB1 hb1 hs1; rw [← HCS.out] at hB1; have HW := hid (DW.mk HD.out hB1); obtain ⟨c0, c1, c2, c3, c36, c37, c38, c39⟩ := HW.out.cells; clear c2 c3 c36 c37 c38 c39 hB1; replace hb1 := hid hb1))
  subst hL
  refine (isUser_any _ _ _).mono ?_
  rintro _ w2 ⟨rfl, hb2⟩
  have HW2 := hid (HW.out.later hb2)
  have Hb2 := hid (show Below w.heap.size w w2 from below_seq hb1.out hb2)
  obtain ⟨c0, c1, c2, c3, c36, c37, c38, c39⟩ := HW2.out.cells
  rw [H1.out]
  clear hb2 c0 c1 c3 c36 c37 c38 c39 hs1 HW hb1 H1
  cases r1 with
  | false =>
    have HE := hid (show chkD d o = 1 from HR.out)
    go_wp2_with fail
    go_ret
    exact ⟨by rw [HE.out]; rfl, Hb2.out⟩
  | true =>
  go_wp2_with fail
  refine (upTo_any _ _ _).mono ?_
  rintro _ w3 ⟨rfl, hw3⟩
  rw [hw3]
  clear hw3 w3
  rw [H2.out]
  cases r2 with
  | false =>
    have HE := hid (show chkD d o = 1 from HR.out)
    go_wp2_with fail
    go_ret
    exact ⟨by rw [HE.out]; rfl, Hb2.out⟩
  | true =>
  obtain ⟨c0, c1, c2', c3, c36, c37, c38, c39⟩ := HW2.out.cells
  clear c0 c1 c2' c2 c36 c37 c38 c39
  go_wp2_with fail
  refine (upTo_any _ _ _).mono ?_
  rintro _ w3 ⟨rfl, hw3⟩
  rw [hw3]
  clear hw3 w3
  rw [H3.out]
  cases r3 with
  | false =>
    have HE := hid (show chkD d o = 1 from HR.out)
    go_wp2_with fail
    go_ret
    exact ⟨by rw [HE.out]; rfl, Hb2.out⟩
  | true =>
  have HR2 := hid (show chkD d o = if d.k = 1 then editS o d.wD d.wU else if d.k = 2 ∨ d.k = 3 then peopleS o d.wD d.wU else 3 from HR.out)
  obtain ⟨c0, c1, c2, c3', c36, c37, c38, c39⟩ := HW2.out.cells
  clear c0 c1 c2 c3 c3' c37 c38 c39 HR
  have hr := hid (show w2.rangeAt w.heap.size 0 cs by rw [← HCS.out]; exact HW2.out.whole)
  have HVL := hid (HV.out.later Hb2.out)
  by_cases h1 : d.k = 1
  · have HE := hid (show chkD d o = editS o d.wD d.wU by rw [HR2.out, if_pos h1])
    rw [h1] at c36
    go_wp2_with (show wpList _ _ _ (⟨some 23, Op.load _ _, _, _, _, _⟩ :: _) _ _; go_must (refine wpList_load_mid rfl 29 _ rfl w.heap.size 0 rfl cs _ hr.out Try.underlying29 rfl hi.out ?_))
    rw [← HCS.out]
    refine (checkEdit_any d HD.out v o _ HVL.out HS.out hln).mono ?_
    rintro _ w3 ⟨rfl, hb3⟩
    go_wp2_with fail
    go_ret
    exact ⟨by rw [HE.out]; rfl, below_seq Hb2.out hb3⟩
  have e1 : (d.k == 1) = false := by simpa using h1
  by_cases h2 : d.k = 2
  · have HE := hid (show chkD d o = peopleS o d.wD d.wU by rw [HR2.out, if_neg h1, if_pos (.inl h2)])
    rw [h2] at c36 e1
    go_wp2_with (show wpList _ _ _ (⟨some 28, Op.load _ _, _, _, _, _⟩ :: _) _ _; go_must (refine wpList_load_mid rfl 29 _ rfl w.heap.size 0 rfl cs _ hr.out Try.underlying29 rfl hi.out ?_))
    rw [← HCS.out]
    refine (checkPeople_any d HD.out v o _ HVL.out hln).mono ?_
    rintro _ w3 ⟨rfl, hb3⟩
    go_wp2_with fail
    go_ret
    exact ⟨by rw [HE.out]; rfl, below_seq Hb2.out hb3⟩
  have e2 : (d.k == 2) = false := by simpa using h2
  by_cases h3 : d.k = 3
  · have HE := hid (show chkD d o = peopleS o d.wD d.wU by rw [HR2.out, if_neg h1, if_pos (.inr h3)])
    rw [h3] at c36 e1 e2
    go_wp2_with (show wpList _ _ _ (⟨some 28, Op.load _ _, _, _, _, _⟩ :: _) _ _; go_must (refine wpList_load_mid rfl 29 _ rfl w.heap.size 0 rfl cs _ hr.out Try.underlying29 rfl hi.out ?_))
    rw [← HCS.out]
    refine (checkPeople_any d HD.out v o _ HVL.out hln).mono ?_
    rintro _ w3 ⟨rfl, hb3⟩
    go_wp2_with fail
    go_ret
    exact ⟨by rw [HE.out]; rfl, below_seq Hb2.out hb3⟩
  have e3 : (d.k == 3) = false := by simpa using h3
  have HE := hid (show chkD d o = 3 by rw [HR2.out, if_neg h1, if_neg (by omega)])
  clear h1 h2 h3
  go_wp2_with fail
  go_ret
  exact ⟨by rw [HE.out]; rfl, Hb2.out⟩
end Go.Proofs.Ytajkjbhfkeakhaa

/- Texts laid together: GDelta, Chk, DCheck. -/
import Derived.Test.YtinifnpajkldbaaDoorPk2
import Derived.Test.YtinifnpajkldbaaDoorPk6
import Derived.Test.YtinifnpajkldbaaDoorRBytes
import Derived.Test.YtinifnpajkldbaaDoorMacRef
import Derived.Laws.Tables
import Derived.Test.YtinifnpajkldbaaDoorPk4
import Derived.WalkLawsBesides
import Derived.Test.YtinifnpajkldbaaDoorPk1
import Derived.Laws.StructEq

/- The contract of the second say's Delta (chapter 9). -/
namespace Go.Proofs.YtinifnpajkldbaaDoor
open Go.RowKit
set_option linter.unusedSimpArgs false
set_option linter.unusedVariables false

set_option maxRecDepth 100000 in
theorem built_signed0 (a : Option Addr) (n c : Nat) (h0 h1 h2 h3 h4 h5 h6 h7 h8 h9 h10 h11 h12 h13 h14 h15 h16 h17 h18 h19 h20 h21 h22 h23 h24 h25 h26 h27 h28 h29 h30 h31 : UInt8) : Tryd.prog.built 40 [(0, .slice a n c), (1, .agg (B [h0, h1, h2, h3, h4, h5, h6, h7, h8, h9, h10, h11, h12, h13, h14, h15, h16, h17, h18, h19, h20, h21, h22, h23, h24, h25, h26, h27, h28, h29, h30, h31]).toArray)] = some (sgC (.slice a n c) [h0, h1, h2, h3, h4, h5, h6, h7, h8, h9, h10, h11, h12, h13, h14, h15, h16, h17, h18, h19, h20, h21, h22, h23, h24, h25, h26, h27, h28, h29, h30, h31]).toArray := by kernel_rfl
theorem built_signed (a : Option Addr) (n c : Nat) (m : List UInt8) (hm : m.length = 32) : Tryd.prog.built 40 [(0, .slice a n c), (1, .agg (B m).toArray)] = some (sgC (.slice a n c) m).toArray := by
  match m, hm with
  | [h0, h1, h2, h3, h4, h5, h6, h7, h8, h9, h10, h11, h12, h13, h14, h15, h16, h17, h18, h19, h20, h21, h22, h23, h24, h25, h26, h27, h28, h29, h30, h31], _ => exact built_signed0 a n c h0 h1 h2 h3 h4 h5 h6 h7 h8 h9 h10 h11 h12 h13 h14 h15 h16 h17 h18 h19 h20 h21 h22 h23 h24 h25 h26 h27 h28 h29 h30 h31
theorem run_signed (w : World) (a : Option Addr) (n c : Nat) (m : List UInt8) (hm : m.length = 32) : (Instr.build 40 #[(0, .slice a n c), (1, .agg (B m).toArray)]).run Tryd.prog w = .ok (.agg (sgC (.slice a n c) m).toArray) w :=
  run_build w _ _ _ (built_signed a n c m hm)

/-- A value built of parts. -/
theorem wpList_build9 {P : Program} {ops : Array Oper} {rest : List Oper} {op : Oper} {a : Act} {w : World} {Q : Exit → Act → World → Prop} (hgd : op.guard = none) (ty : TypeId) (ps : Array (Nat × Operand)) (ho : op.op = .build ty ps)
    (vs : Array (Nat × Value)) (hv : (ps.map fun (i, x) => (i, a.eval x)) = vs) (cells : Array Value) (h : ∀ w, (Instr.build ty vs).run P w = .ok (.agg cells) w) (hk : wpList P ops Q rest (a.put op.dst (.agg cells)) w) : wpList P ops Q (op :: rest) a w := by
  refine wpList_plain hgd fun K hK => ?_
  unfold Oper.wp execOp
  simp only [ho, hv, Sem.run_bind, Sem.run_pure, h, Result.andThen_ok]
  exact hK _ _ hk

set_option maxRecDepth 100000 in
set_option maxHeartbeats 4000000 in
theorem gDelta_any (ks : List Value) (KY : Nat → List UInt8) (d : Dl) (hd : d.h.length = 32) (j : Nat) (hD : d.aD = (j : Int)) (hj : j < 3) (v : Value) (o : List Cp) (w : World) (hk : KW w ks KY) (hv : RC w v o) (hf : FewS o) :
    Calls Tryd.prog 15 #[.agg ks.toArray, .agg (d.cells v).toArray] w fun x w' => ∃ g cap, x = .returned (.agg (sgC (.slice (some ⟨g, 0, none⟩) (84 + partsN o) cap) (macS (KY j) (dB d o))).toArray) ∧ w.heap.size ≤ g ∧ Owns w' 5 g cap (84 + partsN o) (B (dB d o)) ∧ Below w.heap.size w w' := by
  obtain ⟨ds, hds⟩ : ∃ ds, d.cells v = ds := ⟨_, rfl⟩
  have HDS := hid hds
  have HDL := hid (show ds.length = 40 by rw [← hds]; exact Dl.len hd)
  obtain ⟨L, hL⟩ : ∃ L, w.heap.size = L := ⟨_, rfl⟩
  obtain ⟨N, hN⟩ : ∃ N, 84 + partsN o = N := ⟨_, rfl⟩
  have HNL := hid (show (dB d o).length = N by rw [dB_len d o hd, hN])
  have hN2 : N ≤ 8200 := by rw [← hN]; have := hf.le; omega
  have HRB := hid (show ∀ wx, Below L w wx → Calls Tryd.prog 29 #[.agg ds.toArray] wx (fun x w' => ∃ g cap, x = .returned (.slice (some ⟨g, 0, none⟩) N cap) ∧ wx.heap.size ≤ g ∧ Owns w' 5 g cap N (B (dB d o)) ∧ Below wx.heap.size wx w') from fun wx h => by
    have := rBytes_any d hd v o wx (hv.later (by rw [hL]; exact h)) hf
    rw [hds, hN] at this
    exact this)
  obtain ⟨dc, hdc⟩ : ∃ dc, dB d o = dc := ⟨_, rfl⟩
  rw [hdc] at HNL HRB
  obtain ⟨mc, hmc⟩ : ∃ mc, macS (KY j) dc = mc := ⟨_, rfl⟩
  have HMC := hid hmc
  have HMC32 := hid (show mc.length = 32 by rw [← hmc]; exact macS_len _ _)
  obtain ⟨ka, kn, kc, k1, k2, k3, k4, k5⟩ := hk.get j hj
  have HKJ := hid k1
  have HKN := hid k2
  have HK2 := hid k3
  have HKR := hid k5
  have HKL := hid hk.len
  have hj3' : (j : Int) < 3 := by omega
  have HI := hid (show (Tryd.prog.info? 30).map (·.size) = some 40 by kernel_rfl)
  have HIS := hid (show (Tryd.prog.info? 40).map (·.size) = some 33 by kernel_rfl)
  have HZ := hid (show (Tryd.prog.info? 40).bind (fun i => i.zero.map fun z => z.cells.toList) = some (sgC (.slice none 0 0) (List.replicate 32 0)) by kernel_rfl)
  have HDW := hid (show ∀ wx, Blk wx 30 (L + 1) ds → wx.rangeAt (L + 1) 0 ds ∧ wx.cell? ⟨L + 1, 0, none⟩ = some (.int .i64 (j : Int)) from fun wx h => ⟨h.range fun j v hv => by rw [Nat.zero_add]; exact hv, by
    rw [← hds] at h
    rw [← hD]
    exact h.cell (j := 0) rfl⟩)
  rw [hN, hdc, hmc, hds]
  clear hds hN hdc hmc k1 k2 k3 k4 k5 hk hv hf hd hD
  go_enter Tryd.func15, Tryd.ntmps15
  go_upto_region 1 with (first
    | (show wpList _ _ _ (⟨some 2, Op.box _ _, _, _, _, _⟩ :: _) _ _; go_must (refine wpList_box_blk rfl 35 _ rfl ks rfl L hL ?_); intro w1 hB1 hb1 hs1; have HB1 := hid hB1; have Hb1 := hid hb1; clear hB1 hb1)
    | (show wpList _ _ _ (⟨some 3, Op.box _ _, _, _, _, _⟩ :: _) _ _; go_must (refine wpList_box_blk rfl 30 _ rfl ds rfl (L + 1) hs1 ?_); intro w2 hB2 hb2 hs2; have HB2 := hid hB2; have Hb2 := hid hb2; clear hB2 hb2)
    | (show wpList _ _ _ (⟨some 4, Op.alloc _, _, _, _, _⟩ :: _) _ _; go_must (refine wpList_alloc_blk rfl 40 rfl _ HZ.out (L + 2) hs2 ?_); intro w3 hB3 hb3 hs3; have HB3 := hid hB3; have Hb3 := hid hb3; clear hB3 hb3))
  -- REGION1
  have HS := hid (show HB L (L + 3) w [(30, L + 1, ds), (35, L, ks)] (L + 2) 40 33 w3 from by
    refine HB.cons (HB.cons (HB.nil (by omega) HB3.out (sgC_len (by simp)) (Hb1.out.trans ((Hb2.out.mono (by omega)).trans (Hb3.out.mono (by omega)))) (by omega) (by omega)) ?_ (by omega) (by omega)) ?_ (by omega) (by omega)
    · exact (HB1.out.kept (Hb2.out.block L (by omega))).kept (Hb3.out.block L (by omega))
    · exact HB2.out.kept (Hb3.out.block (L + 1) (by omega)))
  clear hs1 hs2 hs3 HB1 HB2 HB3 Hb1 Hb2 Hb3
  go_wp2_with (show wpList _ _ _ (⟨some 6, Op.load _ _, _, _, _, _⟩ :: _) _ _; go_must (refine wpList_load_mid rfl 30 _ rfl (L + 1) 0 rfl ds _ (HDW.out _ HS.out.fst).1 Tryd.underlying30 rfl (by rw [HDL.out]; exact HI.out) ?_))
  refine (HRB.out _ HS.out.bel).mono ?_
  rintro _ w4 ⟨g4, c4, rfl, hg4, hO4, hb4⟩
  have HO4 := hid hO4
  have hg4' : L + 3 ≤ g4 := Nat.le_trans HS.out.size hg4
  have HS4 := hid (HS.out.later hb4)
  have cD := (HDW.out _ HS4.out.fst).2
  have cK := HS4.out.tl.fst.cell HKJ.out
  clear hg4 hO4 hb4 HS
  go_wp2_with fail
  -- CALL
  refine (refMac_any (KY j) ka kn kc HKN.out dc _ N c4 HNL.out _ (HKR.out.later (by rw [hL]; exact HS4.out.bel)) HO4.out.reads (by have := HK2.out; omega) (by omega)).mono ?_
  rintro _ w5 ⟨rfl, hb5⟩
  rw [HMC.out]
  have HO5 := hid (HO4.out.later hb5)
  have HS5 := hid (HS4.out.later hb5)
  obtain ⟨gs, hgs⟩ : ∃ gs, sgC (.slice (some ⟨g4, 0, none⟩) N c4) mc = gs := ⟨_, rfl⟩
  have HGL := hid (show gs.length = 33 by rw [← hgs]; exact sgC_len HMC32.out)
  have HGO := hid (show ∀ v ∈ gs, v.oneCell' = true by rw [← hgs]; exact sgC_one rfl)
  have HGS := hid hgs
  obtain ⟨mcs, hmcs⟩ : ∃ mcs, B mc = mcs := ⟨_, rfl⟩
  have HBD := hid (show ∀ wx, (Instr.build 40 #[(0, .slice (some ⟨g4, 0, none⟩) N c4), (1, .agg mcs.toArray)]).run Tryd.prog wx = .ok (.agg gs.toArray) wx from fun wx => by rw [← hmcs, ← hgs]; exact run_signed wx _ N c4 mc HMC32.out)
  rw [hmcs]
  clear hb5 cD cK hgs hmcs HS4 HO4
  go_wp2_with (first
    | (show wpList _ _ _ (⟨some 16, Op.build _ _, _, _, _, _⟩ :: _) _ _; go_must (refine wpList_build9 rfl 40 _ rfl #[(0, .slice (some ⟨g4, 0, none⟩) N c4), (1, .agg mcs.toArray)] (by first | rfl | simp [Act.eval] | go_simp) gs.toArray HBD.out ?_))
    | (show wpList _ _ _ (⟨none, Op.store _ (Operand.tmp 4) (Operand.tmp 16), _, _, _, _⟩ :: _) _ _; go_must (refine wpList_store_list rfl 40 _ _ rfl (L + 2) 0 gs rfl rfl (HS5.out.there (by rw [HGL.out]; omega)) (by rw [HGL.out]; exact HIS.out) HGO.out ?_); intro w6 hw6; have HX := hid (show Blk w6 40 (L + 2) gs ∧ HB L (L + 3) w [(30, L + 1, ds), (35, L, ks)] (L + 2) 40 33 w6 ∧ Owns w6 5 g4 c4 N (B dc) by rw [hw6]; exact ⟨HS5.out.whole HGL.out, HS5.out.store gs 0 (by rw [HGL.out]; omega), HO5.out.kept (setCells_heap (by omega) gs 0 _)⟩); clear hw6))
  -- RET
  refine ret_cell 4 40 rfl (L + 2) rfl gs _ (HX.out.1.range fun j v hv => by rw [Nat.zero_add]; exact hv) Tryd.underlying40 rfl (by rw [HGL.out]; exact HIS.out) rfl ⟨g4, c4, by rw [HGS.out], by omega, HX.out.2.2, by rw [hL]; exact HX.out.2.1.bel⟩
end Go.Proofs.YtinifnpajkldbaaDoor

/- The contract of Check. -/
namespace Go.Proofs.YtinifnpajkldbaaDoor
open Go.RowKit
set_option linter.unusedSimpArgs false
set_option linter.unusedVariables false

def chkP (c : Cp) : Int :=
  if c.k = 1 ∨ c.k = 3 then (if c.n < 1 ∨ 120 < c.n ∨ c.s.size ≠ 0 then 1 else 0)
  else if c.k = 2 then (if c.n ≠ 0 ∨ c.s.size = 0 then 1 else if 120 < c.s.size then 5 else 0) else 3
def chkL : List Cp → Int
  | [] => 0
  | c :: o => if chkP c ≠ 0 then chkP c else chkL o
def chkS (o : List Cp) : Int := if 40 < o.length then 4 else chkL o

theorem ne0 {s : ByteArray} (h : s.size ≠ 0) : s.toList.isEmpty = false := by
  rw [ByteArray.toList_eq]
  cases hl : s.data.toList with
  | nil =>
    have : s.size = 0 := by have := congrArg List.length hl; simpa using this
    omega
  | cons => rfl

set_option maxHeartbeats 1000000 in
theorem checkPart_any (c : Cp) (w : World) (hsz : c.s.size ≤ 1099511627776) :
    Calls Tryd.prog 98 #[.agg c.vals.toArray] w fun e w' => e = .returned (.int .i64 (chkP c)) ∧ Below w.heap.size w w' := by
  obtain ⟨k, n, s⟩ := c
  simp only [Cp.vals]
  simp only at hsz
  have HB := hid (show ∀ ob, Below w.heap.size w (w.alloc ob) from fun ob => (Below.refl _ _).alloc (Nat.le_refl _) ob)
  by_cases h13 : k = 1 ∨ k = 3
  · by_cases h1 : n < 1
    · have HR := hid (show chkP ⟨k, n, s⟩ = 1 by rw [chkP, if_pos h13, if_pos (.inl h1)])
      rcases h13 with rfl | rfl
      all_goals
        go_enter Tryd.func98, Tryd.ntmps98
        go_wp2
        go_ret
        exact ⟨by rw [HR.out]; rfl, HB.out _⟩
    by_cases h2 : 120 < n
    · have HR := hid (show chkP ⟨k, n, s⟩ = 1 by rw [chkP, if_pos h13, if_pos (.inr (.inl h2))])
      rcases h13 with rfl | rfl
      all_goals
        go_enter Tryd.func98, Tryd.ntmps98
        go_wp2
        go_ret
        exact ⟨by rw [HR.out]; rfl, HB.out _⟩
    by_cases h3 : s.size = 0
    · have HR := hid (show chkP ⟨k, n, s⟩ = 0 by rw [chkP, if_pos h13, if_neg (by simp only; omega)])
      have hs := em0 h3
      subst hs
      rcases h13 with rfl | rfl
      all_goals
        go_enter Tryd.func98, Tryd.ntmps98
        go_wp2
        go_ret
        exact ⟨by rw [HR.out]; rfl, HB.out _⟩
    · have HR := hid (show chkP ⟨k, n, s⟩ = 1 by rw [chkP, if_pos h13, if_pos (.inr (.inr h3))])
      have hs := ne0 h3
      rcases h13 with rfl | rfl
      all_goals
        go_enter Tryd.func98, Tryd.ntmps98
        go_wp2
        go_ret
        exact ⟨by rw [HR.out]; rfl, HB.out _⟩
  have e1 : (k == 1) = false := by simp; omega
  have e3 : (k == 3) = false := by simp; omega
  by_cases h2 : k = 2
  · subst h2
    by_cases hn : n = 0
    · subst hn
      by_cases h3 : s.size = 0
      · have HR := hid (show chkP ⟨2, 0, s⟩ = 1 by rw [chkP, if_neg h13, if_pos rfl, if_pos (.inr h3)])
        have hs := em0 h3
        subst hs
        go_enter Tryd.func98, Tryd.ntmps98
        go_wp2
        go_ret
        exact ⟨by rw [HR.out]; rfl, HB.out _⟩
      have hs := ne0 h3
      by_cases h4 : 120 < s.size
      · have HR := hid (show chkP ⟨2, 0, s⟩ = 5 by rw [chkP, if_neg h13, if_pos rfl, if_neg (by simp only; omega), if_pos h4])
        go_enter Tryd.func98, Tryd.ntmps98
        go_wp2
        go_ret
        exact ⟨by rw [HR.out]; rfl, HB.out _⟩
      · have HR := hid (show chkP ⟨2, 0, s⟩ = 0 by rw [chkP, if_neg h13, if_pos rfl, if_neg (by simp only; omega), if_neg h4])
        go_enter Tryd.func98, Tryd.ntmps98
        go_wp2
        go_ret
        exact ⟨by rw [HR.out]; rfl, HB.out _⟩
    · have HR := hid (show chkP ⟨2, n, s⟩ = 1 by rw [chkP, if_neg h13, if_pos rfl, if_pos (.inl hn)])
      have hne : (n == 0) = false := by simpa using hn
      go_enter Tryd.func98, Tryd.ntmps98
      go_wp2
      go_ret
      exact ⟨by rw [HR.out]; rfl, HB.out _⟩
  · have HR := hid (show chkP ⟨k, n, s⟩ = 3 by rw [chkP, if_neg h13, if_neg h2])
    have e2 : (k == 2) = false := by simp; omega
    go_enter Tryd.func98, Tryd.ntmps98
    go_wp2
    go_ret
    exact ⟨by rw [HR.out]; rfl, HB.out _⟩

set_option maxRecDepth 100000 in
set_option maxHeartbeats 1000000 in
theorem Check_any (v : Value) (o : List Cp) (w : World) (hv : RC w v o) (hs : ∀ c ∈ o, c.s.size ≤ 1099511627776) (hln : o.length ≤ 1099511627776) :
    Calls Tryd.prog 86 #[v] w fun e w' => e = .returned (.int .i64 (chkS o)) ∧ Below w.heap.size w w' := by
  obtain ⟨ao, cap, rfl⟩ := hv.form
  have HV := hid hv
  have HS := hid hs
  clear hv hs
  by_cases h40 : 40 < o.length
  · have HR := hid (show chkS o = 4 by rw [chkS, if_pos h40])
    go_enter Tryd.func86, Tryd.ntmps86
    go_wp2
    go_ret
    exact ⟨by rw [HR.out]; rfl, Below.refl _ _⟩
  have HR := hid (show chkS o = chkL o by rw [chkS, if_neg h40])
  go_enter Tryd.func86, Tryd.ntmps86
  go_wp2
  go_loopw [11] (fun i wr => ∃ j : Nat, j ≤ o.length ∧ i = .int .i64 j ∧ chkL (o.drop j) = chkL o ∧ Below w.heap.size w wr) (fun i _ => o.length - (intOf i).toNat)
  case atStart => exact ⟨0, Nat.zero_le _, rfl, rfl, Below.refl _ _⟩
  case round =>
    obtain ⟨j, hj, rfl, hx, hb⟩ := hrel
    have Hb := hid hb
    have HX := hid hx
    clear hb hx
    by_cases hlt : j < o.length
    · have hlt' : (j : Int) < (o.length : Int) := by omega
      obtain ⟨c, hc⟩ : ∃ c, o[j]? = some c := ⟨_, List.getElem?_eq_getElem hlt⟩
      obtain ⟨g, off, cap', e, hcap, hr, hg⟩ := HV.out.place (by omega)
      injection e with e1 e2 e3
      subst e1 e3
      obtain ⟨c0, c1, c2⟩ := RC.cells hr hc
      replace c0 := cell_later Hb.out c0
      replace c1 := cell_later Hb.out c1
      replace c2 := cell_later Hb.out c2
      have hsz := HS.out c (List.mem_of_getElem? hc)
      have HD := hid (show chkL (o.drop j) = if chkP c ≠ 0 then chkP c else chkL (o.drop (j + 1)) by rw [drop_cons' o j c hc]; rfl)
      clear hr hc e2
      go_wp2_with fail
      refine (checkPart_any c _ hsz).mono ?_
      rintro _ w2 ⟨rfl, hb2⟩
      have Hb2 := hid (show Below w.heap.size w w2 from (Hb.out.alloc Hb.out.size _).trans (hb2.mono (by have := Hb.out.size; simp; omega)))
      clear hb2
      obtain ⟨r, hr⟩ : ∃ r, chkP c = r := ⟨_, rfl⟩
      rw [hr] at HD ⊢
      by_cases h0 : r = 0
      · subst h0
        have HN := hid (show chkL (o.drop (j + 1)) = chkL o by rw [← HX.out, HD.out]; simp)
        go_wp2_with fail
        go_roundw
        case rel => exact ⟨j + 1, by omega, by go_num, HN.out, Hb2.out⟩
        case measure => simp [intOf]; omega
      · have HN := hid (show chkL o = r by rw [← HX.out, HD.out, if_pos h0])
        have hne : (r == 0) = false := by simpa using h0
        go_wp2_with fail
        go_ret
        exact ⟨by rw [HR.out, HN.out]; rfl, Hb2.out⟩
    · have hj2 : j = o.length := by omega
      subst hj2
      have HN := hid (show chkL o = 0 by rw [← HX.out, List.drop_length]; rfl)
      go_wp2
      go_ret
      exact ⟨by rw [HR.out, HN.out]; rfl, Hb.out⟩
end Go.Proofs.YtinifnpajkldbaaDoor

/- The contracts of package delta's Check and what it calls. -/
namespace Go.Proofs.YtinifnpajkldbaaDoor
open Go.RowKit
set_option linter.unusedSimpArgs false
set_option linter.unusedVariables false

def upS (m n : Int) : Bool := decide (0 ≤ n) && decide (n ≤ m)
def userS (D U : Int) : Bool := upS 2 D && upS 7 U
def editS (o : List Cp) (D U : Int) : Int := if chkS o ≠ 0 then chkS o else if D = 0 ∧ U = 0 then 0 else 1
def peopleS (o : List Cp) (D U : Int) : Int := if o.length = 0 ∧ userS D U = true then 0 else 1
def chkD (d : Dl) (o : List Cp) : Int :=
  if userS d.aD d.aU && upS 1073741824 d.id && upS 1048576 d.ver then (if d.k = 1 then editS o d.wD d.wU else if d.k = 2 ∨ d.k = 3 then peopleS o d.wD d.wU else 3) else 1

theorem upS_neg {m n : Int} (h : n < 0) : upS m n = false := by unfold upS; simp; omega
theorem upS_out {m n : Int} (h : m < n) : upS m n = false := by unfold upS; simp; omega
theorem upS_in {m n : Int} (h : 0 ≤ n) (h2 : n ≤ m) : upS m n = true := by unfold upS; simp; omega

set_option maxHeartbeats 1000000 in
theorem upTo_any (m n : Int) (w : World) : Calls Tryd.prog 88 #[.int .i64 m, .int .i64 n] w fun e w' => e = .returned (.bool (upS m n)) ∧ w' = w := by
  by_cases h : n < 0
  · have HR := hid (upS_neg (m := m) h)
    have h1 : ¬ (0 : Int) ≤ n := by omega
    go_enter Tryd.func88, Tryd.ntmps88
    go_wp2
    go_ret
    exact ⟨by rw [HR.out]; rfl, rfl⟩
  have h1 : (0 : Int) ≤ n := by omega
  by_cases h2 : n ≤ m
  · have HR := hid (upS_in h1 h2)
    go_enter Tryd.func88, Tryd.ntmps88
    go_wp2
    go_ret
    exact ⟨by rw [HR.out]; rfl, rfl⟩
  · have HR := hid (upS_out (m := m) (n := n) (by omega))
    go_enter Tryd.func88, Tryd.ntmps88
    go_wp2
    go_ret
    exact ⟨by rw [HR.out]; rfl, rfl⟩

set_option maxHeartbeats 1000000 in
theorem isUser_any (D U : Int) (w : World) : Calls Tryd.prog 87 #[.agg #[.int .i64 D, .int .i64 U]] w fun e w' => e = .returned (.bool (userS D U)) ∧ Below w.heap.size w w' := by
  have HB := hid (show ∀ ob, Below w.heap.size w (w.alloc ob) from fun ob => (Below.refl _ _).alloc (Nat.le_refl _) ob)
  obtain ⟨x, hx⟩ : ∃ x, upS 2 D = x := ⟨_, rfl⟩
  obtain ⟨y, hy⟩ : ∃ y, upS 7 U = y := ⟨_, rfl⟩
  have HR := hid (show userS D U = (x && y) by rw [userS, hx, hy])
  have HX := hid hx
  have HY := hid hy
  clear hx hy
  go_enter Tryd.func87, Tryd.ntmps87
  go_wp2_with fail
  refine (upTo_any _ _ _).mono ?_
  rintro _ w2 ⟨rfl, hw2⟩
  subst hw2
  rw [HX.out]
  cases x
  · go_wp2_with fail
    go_ret
    exact ⟨by rw [HR.out]; rfl, HB.out _⟩
  · go_wp2_with fail
    refine (upTo_any _ _ _).mono ?_
    rintro _ w3 ⟨rfl, hw3⟩
    subst hw3
    rw [HY.out]
    go_wp2_with fail
    go_ret
    exact ⟨by rw [HR.out]; cases y <;> rfl, HB.out _⟩

theorem neq_addr (w : World) (a b c d : Int) : (binOp .neq 24 (.agg #[.int .i64 a, .int .i64 b]) (.agg #[.int .i64 c, .int .i64 d])).run Tryd.prog w = .ok (.bool (!(a == c && b == d))) w := by
  have hS : Tryd.prog.underlying 24 = some (.struct (Tryd.prog.fieldsOf 24)) := by kernel_rfl
  have hp : Tryd.prog.stoodInHeld 24 = false := by kernel_rfl
  rw [run_neq_struct, show (10000 : Nat) = 9999 + 1 from rfl, run_equalIn_agg w 9999 24 _ _ hS hp]
  simp only [Program.fieldsOf, Tryd.underlying24]
  go_simp
  by_cases h1 : a = c <;> by_cases h2 : b = d <;> simp [h1, h2]

set_option maxRecDepth 100000 in
set_option maxHeartbeats 1000000 in
theorem checkEdit_any (d : Dl) (hd : d.h.length = 32) (v : Value) (o : List Cp) (w : World) (hv : RC w v o) (hs : ∀ c ∈ o, c.s.size ≤ 1099511627776) (hln : o.length ≤ 1099511627776) :
    Calls Tryd.prog 89 #[.agg (d.cells v).toArray] w fun e w' => e = .returned (.int .i64 (editS o d.wD d.wU)) ∧ Below w.heap.size w w' := by
  obtain ⟨ao, cap, rfl⟩ := hv.form
  obtain ⟨cs, hcs⟩ : ∃ cs, d.cells (.slice ao o.length cap) = cs := ⟨_, rfl⟩
  rw [hcs]
  have HCS := hid hcs
  have HV := hid hv
  have HS := hid hs
  have HD := hid hd
  obtain ⟨L, hL⟩ : ∃ L, w.heap.size = L := ⟨_, rfl⟩
  clear hcs hv hs hd
  go_enter Tryd.func89, Tryd.ntmps89
  go_wp2_with ((show wpList _ _ _ (⟨some 1, Op.box _ _, _, _, _, _⟩ :: _) _ _; go_must (refine wpList_box_blk rfl 30 _ rfl cs rfl L hL ?_); intro w1 hB1 hb1 hs1; rw [← HCS.out] at hB1; have HW := hid (DW.mk HD.out hB1); obtain ⟨c0, c1, c2, c3, c36, c37, c38, c39⟩ := HW.out.cells; clear c0 c1 c2 c3 c36 hB1; replace hb1 := hid hb1))
  subst hL
  refine (Check_any _ o _ (HV.out.later hb1.out) HS.out hln).mono ?_
  rintro _ w2 ⟨rfl, hb2⟩
  have d38 := cell_later hb2 c38
  have d39 := cell_later hb2 c39
  have Hb2 := hid (show Below w.heap.size w w2 from below_seq hb1.out hb2)
  clear hb2 c37 c38 c39 hs1
  obtain ⟨r, hr⟩ : ∃ r, chkS o = r := ⟨_, rfl⟩
  have HR := hid (show editS o d.wD d.wU = if r ≠ 0 then r else if d.wD = 0 ∧ d.wU = 0 then 0 else 1 by rw [editS, hr])
  rw [hr]
  clear hr
  by_cases h0 : r = 0
  · subst h0
    have hneq := fun wx => neq_addr wx d.wD d.wU 0 0
    by_cases hz : d.wD = 0 ∧ d.wU = 0
    · have HZ := hid (show (!(d.wD == 0 && d.wU == 0)) = false by rw [hz.1, hz.2]; rfl)
      have HE := hid (show editS o d.wD d.wU = 0 by rw [HR.out, if_neg (by simp), if_pos hz])
      rw [HZ.out] at hneq
      clear hz
      go_wp2_with fail
      go_ret
      exact ⟨by rw [HE.out]; rfl, Hb2.out⟩
    · have HZ := hid (show (!(d.wD == 0 && d.wU == 0)) = true by simp; omega)
      have HE := hid (show editS o d.wD d.wU = 1 by rw [HR.out, if_neg (by simp), if_neg hz])
      rw [HZ.out] at hneq
      clear hz
      go_wp2_with fail
      go_ret
      exact ⟨by rw [HE.out]; rfl, Hb2.out⟩
  · have hne : (r == 0) = false := by simpa using h0
    have HE := hid (show editS o d.wD d.wU = r by rw [HR.out, if_pos h0])
    go_wp2_with fail
    go_ret
    exact ⟨by rw [HE.out]; rfl, Hb2.out⟩

set_option maxRecDepth 100000 in
set_option maxHeartbeats 1000000 in
theorem checkPeople_any (d : Dl) (hd : d.h.length = 32) (v : Value) (o : List Cp) (w : World) (hv : RC w v o) (hln : o.length ≤ 1099511627776) :
    Calls Tryd.prog 90 #[.agg (d.cells v).toArray] w fun e w' => e = .returned (.int .i64 (peopleS o d.wD d.wU)) ∧ Below w.heap.size w w' := by
  obtain ⟨ao, cap, rfl⟩ := hv.form
  obtain ⟨cs, hcs⟩ : ∃ cs, d.cells (.slice ao o.length cap) = cs := ⟨_, rfl⟩
  rw [hcs]
  have HCS := hid hcs
  have HD := hid hd
  obtain ⟨L, hL⟩ : ∃ L, w.heap.size = L := ⟨_, rfl⟩
  clear hcs hv hd
  obtain ⟨n, hn⟩ : ∃ n, o.length = n := ⟨_, rfl⟩
  have HR := hid (show peopleS o d.wD d.wU = if n = 0 ∧ userS d.wD d.wU = true then 0 else 1 by rw [peopleS, hn])
  rw [hn] at HCS hln
  clear hn
  by_cases h0 : n = 0
  · subst h0
    go_enter Tryd.func90, Tryd.ntmps90
    go_wp2_with ((show wpList _ _ _ (⟨some 1, Op.box _ _, _, _, _, _⟩ :: _) _ _; go_must (refine wpList_box_blk rfl 30 _ rfl cs rfl L hL ?_); intro w1 hB1 hb1 hs1; rw [← HCS.out] at hB1; have HW := hid (DW.mk HD.out hB1); obtain ⟨c0, c1, c2, c3, c36, c37, c38, c39⟩ := HW.out.cells; clear c0 c1 c2 c3 c36 hB1; replace hb1 := hid hb1))
    subst hL
    refine (isUser_any _ _ _).mono ?_
    rintro _ w2 ⟨rfl, hb2⟩
    have Hb2 := hid (show Below w.heap.size w w2 from below_seq hb1.out hb2)
    clear hb2 c37 c38 c39 hs1
    obtain ⟨r, hr⟩ : ∃ r, userS d.wD d.wU = r := ⟨_, rfl⟩
    rw [hr] at HR ⊢
    clear hr
    cases r
    · go_wp2_with fail
      go_ret
      exact ⟨by rw [HR.out]; rfl, Hb2.out⟩
    · go_wp2_with fail
      go_ret
      exact ⟨by rw [HR.out]; rfl, Hb2.out⟩
  · have h1 : (0 : Int) < (n : Int) := by omega
    have HE := hid (show peopleS o d.wD d.wU = 1 by rw [HR.out, if_neg (by omega)])
    go_enter Tryd.func90, Tryd.ntmps90
    go_wp2_with ((show wpList _ _ _ (⟨some 1, Op.box _ _, _, _, _, _⟩ :: _) _ _; go_must (refine wpList_box_blk rfl 30 _ rfl cs rfl L hL ?_); intro w1 hB1 hb1 hs1; rw [← HCS.out] at hB1; have HW := hid (DW.mk HD.out hB1); obtain ⟨c0, c1, c2, c3, c36, c37, c38, c39⟩ := HW.out.cells; clear c0 c1 c2 c3 c36 hB1; replace hb1 := hid hb1))
    subst hL
    go_ret
    exact ⟨by rw [HE.out]; rfl, hb1.out⟩

set_option maxRecDepth 100000 in
set_option maxHeartbeats 2000000 in
theorem dCheck_any (d : Dl) (hd : d.h.length = 32) (v : Value) (o : List Cp) (w : World) (hv : RC w v o) (hs : ∀ c ∈ o, c.s.size ≤ 1099511627776) (hln : o.length ≤ 1099511627776) :
    Calls Tryd.prog 66 #[.agg (d.cells v).toArray] w fun e w' => e = .returned (.int .i64 (chkD d o)) ∧ Below w.heap.size w w' := by
  obtain ⟨cs, hcs⟩ : ∃ cs, d.cells v = cs := ⟨_, rfl⟩
  rw [hcs]
  have HCS := hid hcs
  have HV := hid hv
  have HS := hid hs
  have HD := hid hd
  have hi := hid (show (Tryd.prog.info? 30).map (·.size) = some cs.length by rw [← hcs, Dl.len hd]; kernel_rfl)
  obtain ⟨L, hL⟩ : ∃ L, w.heap.size = L := ⟨_, rfl⟩
  clear hcs hv hs hd
  obtain ⟨r1, hr1⟩ : ∃ r, userS d.aD d.aU = r := ⟨_, rfl⟩
  obtain ⟨r2, hr2⟩ : ∃ r, upS 1073741824 d.id = r := ⟨_, rfl⟩
  obtain ⟨r3, hr3⟩ : ∃ r, upS 1048576 d.ver = r := ⟨_, rfl⟩
  have HR := hid (show chkD d o = if r1 && r2 && r3 then (if d.k = 1 then editS o d.wD d.wU else if d.k = 2 ∨ d.k = 3 then peopleS o d.wD d.wU else 3) else 1 by rw [chkD, hr1, hr2, hr3])
  have H1 := hid hr1
  have H2 := hid hr2
  have H3 := hid hr3
  clear hr1 hr2 hr3
  go_enter Tryd.func66, Tryd.ntmps66
  go_wp2_with ((show wpList _ _ _ (⟨some 1, Op.box _ _, _, _, _, _⟩ :: _) _ _; go_must (refine wpList_box_blk rfl 30 _ rfl cs rfl L hL ?_); intro w1 hB1 hb1 hs1; rw [← HCS.out] at hB1; have HW := hid (DW.mk HD.out hB1); obtain ⟨c0, c1, c2, c3, c36, c37, c38, c39⟩ := HW.out.cells; clear c2 c3 c36 c37 c38 c39 hB1; replace hb1 := hid hb1))
  subst hL
  refine (isUser_any _ _ _).mono ?_
  rintro _ w2 ⟨rfl, hb2⟩
  have HW2 := hid (HW.out.later hb2)
  have Hb2 := hid (show Below w.heap.size w w2 from below_seq hb1.out hb2)
  obtain ⟨c0, c1, c2, c3, c36, c37, c38, c39⟩ := HW2.out.cells
  rw [H1.out]
  clear hb2 c0 c1 c3 c36 c37 c38 c39 hs1 HW hb1 H1
  cases r1 with
  | false =>
    have HE := hid (show chkD d o = 1 from HR.out)
    go_wp2_with fail
    go_ret
    exact ⟨by rw [HE.out]; rfl, Hb2.out⟩
  | true =>
  go_wp2_with fail
  refine (upTo_any _ _ _).mono ?_
  rintro _ w3 ⟨rfl, hw3⟩
  rw [hw3]
  clear hw3 w3
  rw [H2.out]
  cases r2 with
  | false =>
    have HE := hid (show chkD d o = 1 from HR.out)
    go_wp2_with fail
    go_ret
    exact ⟨by rw [HE.out]; rfl, Hb2.out⟩
  | true =>
  obtain ⟨c0, c1, c2', c3, c36, c37, c38, c39⟩ := HW2.out.cells
  clear c0 c1 c2' c2 c36 c37 c38 c39
  go_wp2_with fail
  refine (upTo_any _ _ _).mono ?_
  rintro _ w3 ⟨rfl, hw3⟩
  rw [hw3]
  clear hw3 w3
  rw [H3.out]
  cases r3 with
  | false =>
    have HE := hid (show chkD d o = 1 from HR.out)
    go_wp2_with fail
    go_ret
    exact ⟨by rw [HE.out]; rfl, Hb2.out⟩
  | true =>
  have HR2 := hid (show chkD d o = if d.k = 1 then editS o d.wD d.wU else if d.k = 2 ∨ d.k = 3 then peopleS o d.wD d.wU else 3 from HR.out)
  obtain ⟨c0, c1, c2, c3', c36, c37, c38, c39⟩ := HW2.out.cells
  clear c0 c1 c2 c3 c3' c37 c38 c39 HR
  have hr := hid (show w2.rangeAt w.heap.size 0 cs by rw [← HCS.out]; exact HW2.out.whole)
  have HVL := hid (HV.out.later Hb2.out)
  by_cases h1 : d.k = 1
  · have HE := hid (show chkD d o = editS o d.wD d.wU by rw [HR2.out, if_pos h1])
    rw [h1] at c36
    go_wp2_with (show wpList _ _ _ (⟨some 23, Op.load _ _, _, _, _, _⟩ :: _) _ _; go_must (refine wpList_load_mid rfl 30 _ rfl w.heap.size 0 rfl cs _ hr.out Tryd.underlying30 rfl hi.out ?_))
    rw [← HCS.out]
    refine (checkEdit_any d HD.out v o _ HVL.out HS.out hln).mono ?_
    rintro _ w3 ⟨rfl, hb3⟩
    go_wp2_with fail
    go_ret
    exact ⟨by rw [HE.out]; rfl, below_seq Hb2.out hb3⟩
  have e1 : (d.k == 1) = false := by simpa using h1
  by_cases h2 : d.k = 2
  · have HE := hid (show chkD d o = peopleS o d.wD d.wU by rw [HR2.out, if_neg h1, if_pos (.inl h2)])
    rw [h2] at c36 e1
    go_wp2_with (show wpList _ _ _ (⟨some 28, Op.load _ _, _, _, _, _⟩ :: _) _ _; go_must (refine wpList_load_mid rfl 30 _ rfl w.heap.size 0 rfl cs _ hr.out Tryd.underlying30 rfl hi.out ?_))
    rw [← HCS.out]
    refine (checkPeople_any d HD.out v o _ HVL.out hln).mono ?_
    rintro _ w3 ⟨rfl, hb3⟩
    go_wp2_with fail
    go_ret
    exact ⟨by rw [HE.out]; rfl, below_seq Hb2.out hb3⟩
  have e2 : (d.k == 2) = false := by simpa using h2
  by_cases h3 : d.k = 3
  · have HE := hid (show chkD d o = peopleS o d.wD d.wU by rw [HR2.out, if_neg h1, if_pos (.inr h3)])
    rw [h3] at c36 e1 e2
    go_wp2_with (show wpList _ _ _ (⟨some 28, Op.load _ _, _, _, _, _⟩ :: _) _ _; go_must (refine wpList_load_mid rfl 30 _ rfl w.heap.size 0 rfl cs _ hr.out Tryd.underlying30 rfl hi.out ?_))
    rw [← HCS.out]
    refine (checkPeople_any d HD.out v o _ HVL.out hln).mono ?_
    rintro _ w3 ⟨rfl, hb3⟩
    go_wp2_with fail
    go_ret
    exact ⟨by rw [HE.out]; rfl, below_seq Hb2.out hb3⟩
  have e3 : (d.k == 3) = false := by simpa using h3
  have HE := hid (show chkD d o = 3 by rw [HR2.out, if_neg h1, if_neg (by omega)])
  clear h1 h2 h3
  go_wp2_with fail
  go_ret
  exact ⟨by rw [HE.out]; rfl, Hb2.out⟩
end Go.Proofs.YtinifnpajkldbaaDoor

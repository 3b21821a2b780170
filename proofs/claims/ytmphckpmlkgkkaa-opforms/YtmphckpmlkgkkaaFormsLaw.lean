/- The law OpForms: what Normal writes has its form, and parts in two have the same Normal. -/
import Derived.Test.YtmphckpmlkgkkaaNormalsLaw
import Derived.BigQuiet
import Derived.Deep.RegionLaw
namespace Go.Proofs.Ytmphckpmlkgkkaa
open Go.RowKit
set_option linter.unusedSimpArgs false
set_option linter.unusedVariables false

theorem nf_at : ∀ (r : List Cp) (j : Nat) (c d : Cp), NF r → r[j]? = some c → r[j + 1]? = some d → NFp c d
  | [], j, c, d, h, hc, hd => by simp at hc
  | x :: r, 0, c, d, h, hc, hd => by
    cases hc
    exact h.1 d (by cases r with
      | nil => simp at hd
      | cons y r => simpa using hd)
  | x :: r, j + 1, c, d, h, hc, hd => nf_at r j c d h.2 (by simpa using hc) (by simpa using hd)

/-- An append of parts as one step of a region that draws. -/
theorem step_append_c {w : World} {ops : Array Oper} {op : Oper} {a : Act} {K : Act → World → Prop} {Q : Exit → Act → World → Prop} {E : Prop} (hgd : op.guard = none) (s x : Operand)
    (ho : op.op = .call { callee := .builtin .append, args := #[s, x], argTypes := #[27, 27] })
    (Bd : Nat) (v : Value) (o : List Cp) (hs : a.eval s = v) (hown : HasC w Bd v o) (hBd : Bd ≤ w.heap.size)
    (y : Value) (p : List Cp) (hx : a.eval x = y) (hsrc : RC w y p) (hb : o.length + p.length ≤ 4398046511104)
    (h : ∀ v' w', HasC w' Bd v' (o ++ p) → Below Bd w w' → K (a.put op.dst v') w') : if Region.wanted op (yielded ops a.tmps) = true then Oper.wp Try.prog op a w K Q else E := by
  have hw : Region.wanted op (yielded ops a.tmps) = true := by simp [Region.wanted, hgd]
  rw [if_pos hw]
  obtain ⟨i, z, hi, hz, hsz, hzs, hby⟩ := info_comp
  obtain ⟨v', w', hr, hH, hB, _⟩ := run_append_k (P := Try.prog) 3 32 w 27 27 op.type 42 i z Try.underlying27 hi hz hsz hzs hby Bd v _ _ hown hBd y _ _ hsrc.src (by omega) (by omega)
  unfold Oper.wp execOp
  simp only [ho, resolve, invoke, builtin, Sem.run_bind, Sem.run_pure, Result.andThen_ok, List.map_toArray, List.map_cons, List.map_nil, hs, hx, hr]
  refine h v' w' ?_ hB
  unfold HasC
  rw [List.length_append, C_append]
  exact hH

/-- Parts that are built behind one new block. -/
theorem new2 (w : World) (ob : Obj) (q : List Cp) (n : Nat) (hn : q.length = n) (Bd : Nat) (hB : Bd ≤ w.heap.size) : HasC ((w.alloc ob).alloc (.cells (C q).toArray 42)) Bd (.slice (some ⟨w.heap.size + 1, 0, none⟩) n n) q := by
  have := (parts_new (w.alloc ob) q n hn).mono (B2 := Bd) (by simp; omega)
  rwa [show (w.alloc ob).heap.size = w.heap.size + 1 by simp] at this

theorem vals_out : ∀ (o : List Cp), Vals o → outS o ≤ o.length * 240
  | [], _ => by simp [outS]
  | c :: o, h => by
    have ih := vals_out o (fun d hd => h d (by simp [hd]))
    have hc : c.outl ≤ 240 := by
      rw [Cp.outl]
      rcases h c (by simp) with ⟨_, _, _, _⟩ | ⟨_, _, _, _⟩ <;> split <;> omega
    rw [outS, List.length_cons]
    omega

/-- What holds of the parts in two, at the head of a round. -/
structure SP (o : List Cp) (j : Nat) (sp : List Cp) : Prop where
  vals : Vals sp
  same : ∀ r, sp.foldr push r = (o.take j).foldr push r
  len : sp.length ≤ 2 * j

theorem SP.step {o : List Cp} {j : Nat} {sp : List Cp} (h : SP o j sp) {c : Cp} (hc : o[j]? = some c) {q : List Cp} (hq : Vals q) (hl : q.length ≤ 2) (hs : ∀ r, q.foldr push r = push c r) : SP o (j + 1) (sp ++ q) :=
  ⟨h.vals.append hq, fun r => by rw [List.foldr_append, hs, h.same, take_succ' o j c hc, List.foldr_append]; rfl, by rw [List.length_append]; have := h.len; omega⟩

theorem foldr_norm (o : List Cp) : o.foldr push [] = normS o := by
  induction o with
  | nil => rfl
  | cons c o ih => rw [List.foldr_cons, ih]; rfl

theorem put_cut (s : ByteArray) (k : Nat) (h1 : 1 ≤ k) (h2 : k < s.size) : ∃ s1 s2 : ByteArray, s1 ++ s2 = s ∧ s1.size = k ∧ s2.size = s.size - k ∧
    (∀ wx, (Instr.slice 9 (.string s) none (some (.int .i64 (k : Int))) none).run Try.prog wx = .ok (.string s1) wx) ∧
    ∀ wx, (Instr.slice 9 (.string s) (some (.int .i64 (k : Int))) none none).run Try.prog wx = .ok (.string s2) wx := by
  refine ⟨s.extract 0 k, s.extract k s.size, ?_, by rw [ByteArray.size_extract]; omega, by rw [ByteArray.size_extract]; omega, fun wx => ?_, fun wx => ?_⟩
  · apply ByteArray.ext
    apply Array.ext'
    have e1 := Lib.extract_data s 0 k
    have e2 := Lib.extract_data s k s.size
    rw [append_list, e1, e2, List.drop_zero, Nat.sub_zero]
    rw [List.take_of_length_le (l := s.data.toList.drop k) (by rw [List.length_drop, ← size_list]; omega), List.take_append_drop]
  · rw [run_slice_string_h (ht := Try.underlying9) (h0 := by omega) (h2 := by omega)]
    simp
  · rw [run_slice_string_l (ht := Try.underlying9) (h0 := by omega) (h1 := by omega)]
    simp

set_option maxRecDepth 100000 in
set_option maxHeartbeats 8000000 in
theorem forms_any (n : Int) (an : Option Addr) (len capn : Nat) (cut : Int) (w : World) (hns : NS w an len) (hcn : len ≤ capn) (hln : len ≤ 9223372036854775807) :
    Calls Try.prog 5 #[.int .i64 n, .slice an len capn, .int .i64 cut] w fun e w' => e = .returned (.bool true) ∧ Below w.heap.size w w' := by
  have HNS := hid hns
  clear hns
  go_enter Try.func5, Try.ntmps5
  go_wp2_with fail
  refine (known_any _).mono ?_
  rintro _ w1 ⟨rfl, hb1⟩
  have Hb1 := hid hb1
  clear hb1
  go_wp2_with fail
  refine (within_any n 100 (by omega) (by omega) _).mono ?_
  rintro _ w2 ⟨rfl, rfl⟩
  obtain ⟨q, hq⟩ : ∃ q : Nat, n % 100 = (q : Int) := Int.eq_ofNat_of_zero_le (by omega)
  have hq1 : q ≤ 100 := by omega
  rw [hq]
  clear hq
  go_wp2_with fail
  refine (Make_any q hq1 an len capn _ (HNS.out.later Hb1.out) hcn hln).mono ?_
  rintro _ w3 ⟨v, rfl, m, hH, hb3, hM⟩
  obtain ⟨av, cv, rfl⟩ := hH.form
  have Hb3 := hid (below_seq Hb1.out hb3)
  have HH := hid hH
  have HMd := hid hM
  have HNV := hid (norm_vals hM.good (by have := hM.ins; omega) hM.outs)
  have HNL := hid (show (normS m).length ≤ 14 from Nat.le_trans (len_norm m) hM.len)
  have HCN := hid (can_norm m)
  have HNF := hid (nf_norm m)
  clear hb3 hH hM
  go_wp2_with fail
  refine (Normal_any _ m _ HH.out.reads HMd.out.fit HMd.out.good (by have := HMd.out.outs; omega)).mono ?_
  rintro _ w4 ⟨v4, rfl, hH4, hb4⟩
  have Hb4 := hid (below_seq Hb3.out hb4)
  generalize normS m = o at *
  replace hH4 := hH4.mono (Nat.le_refl _)
  obtain ⟨a4, c4, rfl⟩ := hH4.form
  have HO := hid hH4
  have hol : o.length ≤ 14 := HNL.out
  clear hb4 hH4 HH HMd
  go_wp2_with fail
  go_loopw [8] (fun i wr => ∃ j : Nat, (j + 1 ≤ o.length ∨ j = 0) ∧ i = .int .i64 ((j + 1 : Nat) : Int) ∧ Below w.heap.size w wr ∧ Below w4.heap.size w4 wr) (fun i _ => 15 - (intOf i).toNat)
  case atStart => exact ⟨0, .inr rfl, rfl, Hb4.out, Below.refl _ _⟩
  case round =>
    obtain ⟨j, hj, rfl, hb, hb4⟩ := hrel
    have Hb := hid hb
    have Hbb := hid hb4
    clear hb hb4
    by_cases hlt : j + 1 < o.length
    · have hlt' : (j : Int) + 1 < (o.length : Int) := by omega
      have hlt2 : (j : Int) < (o.length : Int) := by omega
      obtain ⟨c, hc⟩ : ∃ c, o[j]? = some c := ⟨_, List.getElem?_eq_getElem (by omega)⟩
      obtain ⟨d, hd⟩ : ∃ c, o[j + 1]? = some c := ⟨_, List.getElem?_eq_getElem hlt⟩
      have hp := nf_at o j c d HNF.out hc hd
      have kc := (HNV.out c (List.mem_of_getElem? hc)).ok.kind
      have kd := (HNV.out d (List.mem_of_getElem? hd)).ok.kind
      obtain ⟨g, off, cap', e, hcap, hr, hgs⟩ := HO.out.reads.place (by omega)
      injection e with e1 e2 e3
      subst e1 e3
      obtain ⟨c0, _, _⟩ := RC.cells hr hc
      obtain ⟨d0, _, _⟩ := RC.cells hr hd
      replace c0 := cell_later Hbb.out c0
      replace d0 := cell_later Hbb.out d0
      clear hr hc hd e2
      unfold NFp at hp
      generalize c.k = x at *
      generalize d.k = y at *
      have hxy : (x = 1 ∧ y = 2) ∨ (x = 1 ∧ y = 3) ∨ (x = 2 ∧ y = 1) ∨ (x = 2 ∧ y = 3) ∨ (x = 3 ∧ y = 1) := by
        omega
      clear hp kc kd
      rcases hxy with ⟨rfl, rfl⟩ | ⟨rfl, rfl⟩ | ⟨rfl, rfl⟩ | ⟨rfl, rfl⟩ | ⟨rfl, rfl⟩
      all_goals
        go_wp2_with fail
        go_quiet (fail)
        go_wp2_with fail
        go_roundw
        case rel => exact ⟨j + 1, .inl (by omega), by go_num, below_drewN Hb.out nq, below_drewN Hbb.out nq⟩
        case measure => simp [intOf]; omega
    · have hge : ¬ (j : Int) + 1 < (o.length : Int) := by omega
      have HO2 := hid (HO.out.later Hbb.out)
      clear HO Hbb hj
      go_wp2_with fail
      rename World => wy
      go_loopw [9, 10] (fun sv i wx => ∃ (k : Nat) (sp : List Cp), k ≤ o.length ∧ i = .int .i64 k ∧ HasC wx wy.heap.size sv sp ∧ SP o k sp ∧ Below wy.heap.size wy wx) (fun _ i _ => o.length - (intOf i).toNat)
      case atStart => exact ⟨0, [], Nat.zero_le _, rfl, HasC.nil _ _, ⟨fun c hc => by simp at hc, fun r => rfl, by simp⟩, Below.refl _ _⟩
      case round =>
        obtain ⟨k, sp, hk, rfl, hS, hSP, hbx⟩ := hrel
        have hOx := HO2.out.later hbx
        obtain ⟨asp, csp, rfl⟩ := hS.form
        have HS := hid hS
        have HOx := hid hOx
        have HSP := hid hSP
        have Hbx := hid hbx
        have hspl := hSP.len
        clear hS hOx hSP hbx
        by_cases hkl : k < o.length
        · have hkl' : (k : Int) < (o.length : Int) := by omega
          obtain ⟨c, hc⟩ : ∃ c, o[k]? = some c := ⟨_, List.getElem?_eq_getElem hkl⟩
          have hcv := HNV.out c (List.mem_of_getElem? hc)
          have hcc := HCN.out c (List.mem_of_getElem? hc)
          obtain ⟨g, off, cap', e, hcap, hr, hgs⟩ := HOx.out.reads.place (by omega)
          injection e with e1 e2 e3
          subst e1 e3
          obtain ⟨c0, c1, c2⟩ := RC.cells hr hc
          have HC := hid hc
          have hb2 : ∀ ob, Below wr.heap.size wr (wr.alloc ob) := fun ob => (Below.refl _ _).alloc (Nat.le_refl _) ob
          have HB2 := hid (show ∀ ob ob2, Below wr.heap.size wr ((wr.alloc ob).alloc ob2) from fun ob ob2 => (hb2 ob).alloc (by simp) ob2)
          have HB1 := hid hb2
          clear hr hc e2 hb2
          rcases good_can hcv.ok hcc with ⟨m1, hm1, rfl⟩ | ⟨s, hs1, rfl⟩ | ⟨m1, hm1, rfl⟩
          · replace c0 : wr.cell? ⟨g, off + k * 3, none⟩ = some (.int .i64 1) := c0
            replace c1 : wr.cell? ⟨g, off + k * 3 + 1, none⟩ = some (.int .i64 (m1 : Int)) := c1
            replace c2 : wr.cell? ⟨g, off + k * 3 + 2, none⟩ = some (.string ⟨#[]⟩) := c2
            have hm2 : m1 ≤ 120 := by rcases hcv with ⟨_, _, h, _⟩ | ⟨h, _⟩; simp only [pK] at h; omega; simp [pK] at h
            clear hcv hcc
            by_cases hgt : 1 < m1
            case pos =>
              have hgt' : (1 : Int) < (m1 : Int) := by omega
              go_wp2_with fail
              refine (within_any cut ((m1 : Int) - 1) (by omega) (by omega) _).mono ?_
              rintro _ _ ⟨rfl, rfl⟩
              obtain ⟨r, hr⟩ : ∃ r : Nat, cut % ((m1 : Int) - 1) = (r : Int) := Int.eq_ofNat_of_zero_le (Int.emod_nonneg _ (by omega))
              have hr1 : (r : Int) < (m1 : Int) - 1 := by rw [← hr]; exact Int.emod_lt_of_pos _ (by omega)
              rw [hr]
              clear hr
              go_wp2_with (at_builtin; go_must (refine wpList_append_c rfl _ _ rfl wy.heap.size _ sp rfl (HS.out.later (HB2.out _ _)) ?hs _ [pK (1 + (r : Int)), pK ((m1 : Int) - (1 + (r : Int)))] rfl (new2 wr _ [pK (1 + (r : Int)), pK ((m1 : Int) - (1 + (r : Int)))] 2 rfl wy.heap.size Hbx.out.size).reads ?hb ?_))
              case hs => have := Hbx.out.size; first | omega | (simp; omega)
              case hb => first | omega | (simp; omega)
              intro v6 w6 hH6 hb6
              have HR := hid (show SP o (k + 1) (sp ++ [pK (1 + (r : Int)), pK ((m1 : Int) - (1 + (r : Int)))]) from HSP.out.step HC.out ((val_K (n := 1 + (r : Int)) (by omega) (by omega)).append (val_K (n := (m1 : Int) - (1 + (r : Int))) (by omega) (by omega))) (by simp) (fun rest => by rw [List.foldr_cons, List.foldr_cons, List.foldr_nil, push_K rfl, push_K rfl, push_K rfl]; show pushK (1 + (r : Int)) (pushK ((m1 : Int) - (1 + (r : Int))) _) = pushK (m1 : Int) _; rw [K_K]; congr 1; omega))
              obtain ⟨sp6, hsp6⟩ : ∃ sp6, sp ++ [pK (1 + (r : Int)), pK ((m1 : Int) - (1 + (r : Int)))] = sp6 := ⟨_, rfl⟩
              rw [hsp6] at hH6 HR
              obtain ⟨a6, c6, rfl⟩ := hH6.form
              have H6 := hid hH6
              have Hb6 := hid (show Below wy.heap.size wy w6 from ((Hbx.out.alloc Hbx.out.size _).alloc (by have := Hbx.out.size; simp; omega) _).trans hb6)
              have hl6 := HR.out.len
              clear hH6 hb6 hsp6
              go_wp2_with fail
              go_roundw
              case rel => exact ⟨k + 1, sp6, by omega, by go_num, H6.out, HR.out, Hb6.out⟩
              case measure => simp [intOf]; omega
            case neg =>
              have hm3 : m1 = 1 := by omega
              subst hm3
              clear hgt
              go_wp2_with (at_builtin; go_must (refine wpList_append_c rfl _ _ rfl wy.heap.size _ sp rfl (HS.out.later (HB2.out _ _)) ?hs _ [pK 1] rfl (new2 wr _ [pK 1] 1 rfl wy.heap.size Hbx.out.size).reads ?hb ?_))
              case hs => have := Hbx.out.size; first | omega | (simp; omega)
              case hb => first | omega | (simp; omega)
              intro v6 w6 hH6 hb6
              have HR := hid (show SP o (k + 1) (sp ++ [pK 1]) from HSP.out.step HC.out (val_K (n := 1) (by omega) (by omega)) (by simp) (fun rest => rfl))
              obtain ⟨sp6, hsp6⟩ : ∃ sp6, sp ++ [pK 1] = sp6 := ⟨_, rfl⟩
              rw [hsp6] at hH6 HR
              obtain ⟨a6, c6, rfl⟩ := hH6.form
              have H6 := hid hH6
              have Hb6 := hid (show Below wy.heap.size wy w6 from ((Hbx.out.alloc Hbx.out.size _).alloc (by have := Hbx.out.size; simp; omega) _).trans hb6)
              have hl6 := HR.out.len
              clear hH6 hb6 hsp6
              go_wp2_with fail
              go_roundw
              case rel => exact ⟨k + 1, sp6, by omega, by go_num, H6.out, HR.out, Hb6.out⟩
              case measure => simp [intOf]; omega
          · replace c0 : wr.cell? ⟨g, off + k * 3, none⟩ = some (.int .i64 2) := c0
            replace c1 : wr.cell? ⟨g, off + k * 3 + 1, none⟩ = some (.int .i64 0) := c1
            replace c2 : wr.cell? ⟨g, off + k * 3 + 2, none⟩ = some (.string s) := c2
            have hs2 : s.size ≤ 120 := by rcases hcv with ⟨h | h, _⟩ | ⟨_, _, _, h⟩; simp [pP] at h; simp [pP] at h; exact h
            clear hcv hcc
            by_cases hgt : 1 < s.size
            case pos =>
              have hgt' : (1 : Int) < (s.size : Int) := by omega
              go_wp2_with fail
              refine (within_any cut ((s.size : Int) - 1) (by omega) (by omega) _).mono ?_
              rintro _ _ ⟨rfl, rfl⟩
              obtain ⟨r, hr⟩ : ∃ r : Nat, cut % ((s.size : Int) - 1) = (r : Int) := Int.eq_ofNat_of_zero_le (Int.emod_nonneg _ (by omega))
              have hr1 : (r : Int) < (s.size : Int) - 1 := by rw [← hr]; exact Int.emod_lt_of_pos _ (by omega)
              rw [hr]
              clear hr
              obtain ⟨s1, s2, hss, hz1, hz2, hsl1, hsl2⟩ := put_cut s (1 + r) (by omega) (by omega)
              simp only [Int.natCast_add, Int.natCast_one] at hsl1 hsl2
              have HSS := hid hss
              have HZ1 := hid hz1
              have HZ2 := hid hz2
              clear hss hz1 hz2
              have hszf : ∀ ob ob2, wy.heap.size ≤ ((wr.alloc ob).alloc ob2).drew.heap.size := fun ob ob2 => by have := Hbx.out.size; simp; omega
              have hbd2 : sp.length + [pP s1, pP s2].length ≤ 4398046511104 := by simp; omega
              have HSZ := hid hszf
              have HBD := hid hbd2
              clear hszf hbd2
              go_wp2_with fail
              go_region_law (refine step_append_c rfl _ _ rfl wy.heap.size _ sp rfl (HS.out.later (HB2.out _ _).drew) (HSZ.out _ _) _ [pP s1, pP s2] rfl ((new2 wr _ [pP s1, pP s2] 2 rfl wy.heap.size Hbx.out.size).reads.later (Below.refl _ _).drew) HBD.out ?_; intro v6 w6 hH6 hb6; replace hH6 := hid hH6; replace hb6 := hid hb6)
              all_goals
                replace hH6 := hH6.out
                replace hb6 := hb6.out
                have HR := hid (show SP o (k + 1) (sp ++ [pP s1, pP s2]) from HSP.out.step HC.out ((val_P (s := s1) (by have := HZ1.out; omega) (by have := HZ1.out; omega)).append (val_P (s := s2) (by have := HZ2.out; omega) (by have := HZ2.out; omega))) (by simp) (fun rest => by rw [List.foldr_cons, List.foldr_cons, List.foldr_nil, push_P rfl, push_P rfl, push_P rfl]; show pushP s1 (pushP s2 _) = pushP s _; rw [P_P, HSS.out]))
                obtain ⟨sp6, hsp6⟩ : ∃ sp6, sp ++ [pP s1, pP s2] = sp6 := ⟨_, rfl⟩
                rw [hsp6] at hH6 HR
                obtain ⟨a6, c6, rfl⟩ := hH6.form
                have H6 := hid hH6
                have Hb6 := hid (show Below wy.heap.size wy w6 from (((Hbx.out.alloc Hbx.out.size _).alloc (by have := Hbx.out.size; simp; omega) _).drew).trans hb6)
                have hl6 := HR.out.len
                clear hH6 hb6 hsp6
                go_wp2_with fail
                go_roundw
                case rel => exact ⟨k + 1, sp6, by omega, by go_num, H6.out, HR.out, Hb6.out⟩
                case measure => simp [intOf]; omega
            case neg =>
              have hs3 : s.size = 1 := by omega
              have hgt' : ¬ (1 : Int) < (s.size : Int) := by omega
              clear hgt hs3
              go_wp2_with (at_builtin; go_must (refine wpList_append_c rfl _ _ rfl wy.heap.size _ sp rfl (HS.out.later (HB2.out _ _)) ?hs _ [pP s] rfl (new2 wr _ [pP s] 1 rfl wy.heap.size Hbx.out.size).reads ?hb ?_))
              case hs => have := Hbx.out.size; first | omega | (simp; omega)
              case hb => first | omega | (simp; omega)
              intro v6 w6 hH6 hb6
              have HR := hid (show SP o (k + 1) (sp ++ [pP s]) from HSP.out.step HC.out (val_P (s := s) hs1 hs2) (by simp) (fun rest => rfl))
              obtain ⟨sp6, hsp6⟩ : ∃ sp6, sp ++ [pP s] = sp6 := ⟨_, rfl⟩
              rw [hsp6] at hH6 HR
              obtain ⟨a6, c6, rfl⟩ := hH6.form
              have H6 := hid hH6
              have Hb6 := hid (show Below wy.heap.size wy w6 from ((Hbx.out.alloc Hbx.out.size _).alloc (by have := Hbx.out.size; simp; omega) _).trans hb6)
              have hl6 := HR.out.len
              clear hH6 hb6 hsp6
              go_wp2_with fail
              go_roundw
              case rel => exact ⟨k + 1, sp6, by omega, by go_num, H6.out, HR.out, Hb6.out⟩
              case measure => simp [intOf]; omega
          · replace c0 : wr.cell? ⟨g, off + k * 3, none⟩ = some (.int .i64 3) := c0
            replace c1 : wr.cell? ⟨g, off + k * 3 + 1, none⟩ = some (.int .i64 (m1 : Int)) := c1
            replace c2 : wr.cell? ⟨g, off + k * 3 + 2, none⟩ = some (.string ⟨#[]⟩) := c2
            have hm2 : m1 ≤ 120 := by rcases hcv with ⟨_, _, h, _⟩ | ⟨h, _⟩; simp only [pX] at h; omega; simp [pX] at h
            clear hcv hcc
            by_cases hgt : 1 < m1
            case pos =>
              have hgt' : (1 : Int) < (m1 : Int) := by omega
              go_wp2_with fail
              refine (within_any cut ((m1 : Int) - 1) (by omega) (by omega) _).mono ?_
              rintro _ _ ⟨rfl, rfl⟩
              obtain ⟨r, hr⟩ : ∃ r : Nat, cut % ((m1 : Int) - 1) = (r : Int) := Int.eq_ofNat_of_zero_le (Int.emod_nonneg _ (by omega))
              have hr1 : (r : Int) < (m1 : Int) - 1 := by rw [← hr]; exact Int.emod_lt_of_pos _ (by omega)
              rw [hr]
              clear hr
              go_wp2_with (at_builtin; go_must (refine wpList_append_c rfl _ _ rfl wy.heap.size _ sp rfl (HS.out.later (HB2.out _ _)) ?hs _ [pX (1 + (r : Int)), pX ((m1 : Int) - (1 + (r : Int)))] rfl (new2 wr _ [pX (1 + (r : Int)), pX ((m1 : Int) - (1 + (r : Int)))] 2 rfl wy.heap.size Hbx.out.size).reads ?hb ?_))
              case hs => have := Hbx.out.size; first | omega | (simp; omega)
              case hb => first | omega | (simp; omega)
              intro v6 w6 hH6 hb6
              have HR := hid (show SP o (k + 1) (sp ++ [pX (1 + (r : Int)), pX ((m1 : Int) - (1 + (r : Int)))]) from HSP.out.step HC.out ((val_X (n := 1 + (r : Int)) (by omega) (by omega)).append (val_X (n := (m1 : Int) - (1 + (r : Int))) (by omega) (by omega))) (by simp) (fun rest => by rw [List.foldr_cons, List.foldr_cons, List.foldr_nil, push_X rfl, push_X rfl, push_X rfl]; show pushX (1 + (r : Int)) (pushX ((m1 : Int) - (1 + (r : Int))) _) = pushX (m1 : Int) _; rw [X_X]; congr 1; omega))
              obtain ⟨sp6, hsp6⟩ : ∃ sp6, sp ++ [pX (1 + (r : Int)), pX ((m1 : Int) - (1 + (r : Int)))] = sp6 := ⟨_, rfl⟩
              rw [hsp6] at hH6 HR
              obtain ⟨a6, c6, rfl⟩ := hH6.form
              have H6 := hid hH6
              have Hb6 := hid (show Below wy.heap.size wy w6 from ((Hbx.out.alloc Hbx.out.size _).alloc (by have := Hbx.out.size; simp; omega) _).trans hb6)
              have hl6 := HR.out.len
              clear hH6 hb6 hsp6
              go_wp2_with fail
              go_roundw
              case rel => exact ⟨k + 1, sp6, by omega, by go_num, H6.out, HR.out, Hb6.out⟩
              case measure => simp [intOf]; omega
            case neg =>
              have hm3 : m1 = 1 := by omega
              subst hm3
              clear hgt
              go_wp2_with (at_builtin; go_must (refine wpList_append_c rfl _ _ rfl wy.heap.size _ sp rfl (HS.out.later (HB2.out _ _)) ?hs _ [pX 1] rfl (new2 wr _ [pX 1] 1 rfl wy.heap.size Hbx.out.size).reads ?hb ?_))
              case hs => have := Hbx.out.size; first | omega | (simp; omega)
              case hb => first | omega | (simp; omega)
              intro v6 w6 hH6 hb6
              have HR := hid (show SP o (k + 1) (sp ++ [pX 1]) from HSP.out.step HC.out (val_X (n := 1) (by omega) (by omega)) (by simp) (fun rest => rfl))
              obtain ⟨sp6, hsp6⟩ : ∃ sp6, sp ++ [pX 1] = sp6 := ⟨_, rfl⟩
              rw [hsp6] at hH6 HR
              obtain ⟨a6, c6, rfl⟩ := hH6.form
              have H6 := hid hH6
              have Hb6 := hid (show Below wy.heap.size wy w6 from ((Hbx.out.alloc Hbx.out.size _).alloc (by have := Hbx.out.size; simp; omega) _).trans hb6)
              have hl6 := HR.out.len
              clear hH6 hb6 hsp6
              go_wp2_with fail
              go_roundw
              case rel => exact ⟨k + 1, sp6, by omega, by go_num, H6.out, HR.out, Hb6.out⟩
              case measure => simp [intOf]; omega
        · have hke : k = o.length := by omega
          subst hke
          have hnge : ¬ (o.length : Int) < (o.length : Int) := by omega
          have HE := hid (show normS sp = o by rw [← foldr_norm, HSP.out.same, take_all', foldr_norm, norm_of_nf o HCN.out HNF.out])
          have HV := hid HSP.out.vals
          by_cases h40 : 40 < sp.length
          · have h40' : (40 : Int) < (sp.length : Int) := by omega
            go_wp2_with fail
            go_ret
            exact ⟨rfl, below_seq Hb.out Hbx.out⟩
          · have h40' : ¬ (40 : Int) < (sp.length : Int) := by omega
            have HOS := hid (show outS sp ≤ 1099511627776 by
              have h1 := vals_out sp HV.out
              omega)
            go_wp2_with fail
            refine (Normal_any _ sp _ HS.out.reads (HV.out.fit (by omega)) HV.out.good HOS.out).mono ?_
            rintro _ w8 ⟨v8, rfl, hH8, hb8⟩
            rw [HE.out] at hH8
            obtain ⟨a8, c8, rfl⟩ := hH8.form
            have HO8 := hid (HOx.out.later hb8)
            have H8 := hid hH8
            have Hb8 := hid (below_seq (below_seq Hb.out Hbx.out) hb8)
            clear hH8 hb8
            go_wp2_with fail
            refine (Same_any _ _ o o _ H8.out.reads HO8.out.reads (by omega) (by omega)).mono ?_
            rintro _ w9 ⟨rfl, hb9⟩
            rw [sameL_self]
            have Hb9 := hid (below_seq Hb8.out hb9)
            clear hb9
            go_wp2_with fail
            go_ret
            exact ⟨rfl, Hb9.out⟩

theorem forms_row (a0 : Int) (a1 : Option Addr) (len1 cap1 : Nat) (z1 : List Int) (a2 : Int) (w : World) (w1 : IsRow .i64 w a1 len1 cap1 z1) :
    Calls Try.prog 5 #[.int .i64 a0, .slice a1 len1 cap1, .int .i64 a2] w fun e w' => e = .returned (.bool true) ∧ Below w.heap.size w w' :=
  forms_any a0 a1 len1 cap1 a2 w (ns_of_row w1) (cap_of_row w1) (len_of_row w1)
end Go.Proofs.Ytmphckpmlkgkkaa

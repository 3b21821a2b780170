/- The contract of package invert's Op. -/
import Derived.Test.YtbhojomgbjchkaaISt
import Derived.Test.YtbhojomgbjchkaaNormal
import Derived.Deep.RegionHeld3
namespace Go.Proofs.Ytbhojomgbjchkaa
open Go.RowKit
set_option linter.unusedSimpArgs false
set_option linter.unusedVariables false

/-- An append of parts as one operation that is ready. -/
theorem wp_append_c {w : World} {op : Oper} {a : Act} {K : Act → World → Prop} {Q : Exit → Act → World → Prop} (s x : Operand)
    (ho : op.op = .call { callee := .builtin .append, args := #[s, x], argTypes := #[27, 27] })
    (Bd : Nat) (v : Value) (o : List Cp) (hs : a.eval s = v) (hown : HasC w Bd v o) (hBd : Bd ≤ w.heap.size)
    (y : Value) (p : List Cp) (hx : a.eval x = y) (hsrc : RC w y p) (hb : o.length + p.length ≤ 4398046511104)
    (h : ∀ v' w', HasC w' Bd v' (o ++ p) → Below Bd w w' → K (a.put op.dst v') w') : Oper.wp Try.prog op a w K Q := by
  obtain ⟨i, z, hi, hz, hsz, hzs, hby⟩ := info_comp
  obtain ⟨v', w', hr, hH, hB, _⟩ := run_append_k (P := Try.prog) 3 32 w 27 27 op.type 42 i z Try.underlying27 hi hz hsz hzs hby Bd v _ _ hown hBd y _ _ hsrc.src (by omega) (by omega)
  unfold Oper.wp execOp
  simp only [ho, resolve, invoke, builtin, Sem.run_bind, Sem.run_pure, Result.andThen_ok, List.map_toArray, List.map_cons, List.map_nil, hs, hx, hr]
  refine h v' w' ?_ hB
  unfold HasC
  rw [List.length_append, C_append]
  exact hH

/-- What holds at the label: l undoes the first j parts, which go over the first q bytes of d. -/
structure IP (d : ByteArray) (o : List Cp) (j q : Nat) (l : List Cp) : Prop where
  le : j ≤ o.length
  at' : (q : Int) = inS (o.take j)
  len : l.length = j
  eq : l ++ undS (d.data.toList.drop q) (o.drop j) = undS d.data.toList o
theorem IP.start (d : ByteArray) (o : List Cp) : IP d o 0 0 [] := ⟨Nat.zero_le _, rfl, rfl, rfl⟩
theorem IP.step {d : ByteArray} {o l : List Cp} {j q m : Nat} {c : Cp} (h : IP d o j q l) (hc : o[j]? = some c) (hm : c.over = (m : Int)) : IP d o (j + 1) (q + m) (l ++ [undC c (d.extract q (q + m))]) := by
  have hj := (List.getElem?_eq_some_iff.1 hc).1
  have := und_step hc h.eq
  rw [hm, Int.toNat_natCast, ext_ba] at this
  exact ⟨by omega, by rw [inS_take_succ o j c hc, ← h.at', hm]; omega, by rw [List.length_append, h.len]; rfl, this⟩
theorem IP.over {d : ByteArray} {o l : List Cp} {q : Nat} (h : IP d o o.length q l) : l = undS d.data.toList o := by
  have := h.eq
  rwa [List.drop_length, undS, List.append_nil] at this

set_option maxRecDepth 100000 in
set_option maxHeartbeats 4000000 in
theorem iOp_any (d : ByteArray) (v : Value) (o : List Cp) (w : World) (hv : RC w v o) (hf : Fit o) (hg : Good o) (hd : d.size ≤ 1099511627776) (hu : outS o ≤ 1099511627776) :
    Calls Try.prog 12 #[.string d, v] w fun e w' => (inS o ≠ d.size → e = .returned (.tuple #[.slice none 0 0, .int .i64 7])) ∧ (inS o = d.size → ∃ v', e = .returned (.tuple #[v', .int .i64 0]) ∧ HasC w' w.heap.size v' (invS d o)) ∧ Below w.heap.size w w' := by
  obtain ⟨ao, cap, rfl⟩ := hv.form
  have HV := hid hv
  have HF := hid hf
  have HG := hid hg
  have HU := hid hu
  have hlen := hf.1
  clear hv hf hg hu
  go_enter Try.func12, Try.ntmps12
  go_wp2_with fail
  refine wp_scope_at 0 (fun a' w' => inS o = d.size ∧ ∃ (j p n : Nat) (vo : Value) (l : List Cp), a' = ⟨#[.string d, .slice ao o.length cap, a'.tmps.getD 2 undef, a'.tmps.getD 3 undef, a'.tmps.getD 4 undef, a'.tmps.getD 5 undef, vo, st p n, .int .i64 (j : Int), a'.tmps.getD 9 undef, a'.tmps.getD 10 undef, a'.tmps.getD 11 undef, a'.tmps.getD 12 undef, a'.tmps.getD 13 undef, a'.tmps.getD 14 undef, a'.tmps.getD 15 undef, a'.tmps.getD 16 undef, a'.tmps.getD 17 undef, a'.tmps.getD 18 undef, a'.tmps.getD 19 undef, a'.tmps.getD 20 undef, a'.tmps.getD 21 undef, a'.tmps.getD 22 undef, a'.tmps.getD 23 undef, a'.tmps.getD 24 undef, a'.tmps.getD 25 undef, a'.tmps.getD 26 undef, a'.tmps.getD 27 undef, a'.tmps.getD 28 undef, a'.tmps.getD 29 undef, a'.tmps.getD 30 undef, a'.tmps.getD 31 undef, a'.tmps.getD 32 undef, a'.tmps.getD 33 undef, a'.tmps.getD 34 undef, a'.tmps.getD 35 undef, a'.tmps.getD 36 undef, a'.tmps.getD 37 undef, a'.tmps.getD 38 undef, a'.tmps.getD 39 undef, a'.tmps.getD 40 undef, a'.tmps.getD 41 undef, a'.tmps.getD 42 undef, a'.tmps.getD 43 undef, a'.tmps.getD 44 undef], []⟩ ∧ IP d o j (p + n) l ∧ HasC w' w.heap.size vo l ∧ Below w.heap.size w w')
    (fun a' _ => o.length - (intOf (a'.tmps.getD 8 undef)).toNat) rfl ?pass ?first
  case first =>
    intro hy
    have HY := hid hy
    clear hy
    go_wp2_with fail
    refine (In_any _ o _ HV.out HF.out).mono ?_
    rintro _ w1 ⟨rfl, hb1⟩
    have Hb1 := hid hb1
    clear hb1
    by_cases h1 : inS o = d.size
    case neg =>
      have hne : (inS o == (d.size : Int)) = false := by simpa using h1
      have HN := hid h1
      clear h1
      obtain ⟨n0, hn0⟩ : ∃ n0, inS o = n0 := ⟨_, rfl⟩
      rw [hn0] at hne ⊢
      clear hn0
      go_wp2_with fail
      simp only [Exit.jump]
      go_ret2
      exact ⟨fun _ => rfl, fun h => absurd h HN.out, Hb1.out⟩
    have HE := hid h1
    rw [h1]
    clear h1
    go_wp2_with fail
    rename_i hK
    exact wp_label (hK _ _ (HY.out _ _ ⟨HE.out, 0, 0, 0, _, [], rfl, IP.start d o, HasC.nil _ _, Hb1.out⟩))
  case pass =>
    rintro a' w' ⟨hE, j, p, n, vo, l, ha, hP, hO, hb⟩
    obtain ⟨f, ha2⟩ : ∃ f : Nat → Value, a' = ⟨#[.string d, .slice ao o.length cap, f 2, f 3, f 4, f 5, vo, st p n, .int .i64 (j : Int), f 9, f 10, f 11, f 12, f 13, f 14, f 15, f 16, f 17, f 18, f 19, f 20, f 21, f 22, f 23, f 24, f 25, f 26, f 27, f 28, f 29, f 30, f 31, f 32, f 33, f 34, f 35, f 36, f 37, f 38, f 39, f 40, f 41, f 42, f 43, f 44], []⟩ := ⟨fun i => a'.tmps.getD i undef, ha⟩
    clear ha
    subst ha2
    obtain ⟨oo, oc, rfl⟩ := hO.form
    have HO := hid hO
    have HP := hid hP
    have Hb := hid hb
    have HE := hid hE
    have hjl := hP.le
    have HLL := hid hP.len
    have hq : p + n ≤ d.size := by
      have h1 := hP.at'
      have h2 := inS_split o j
      have h3 := (HG.out.drop j).inS_nn
      omega
    clear hO hP hb hE
    by_cases hlt : j = o.length
    case pos =>
      subst hlt
      have HI := hid (und_ua o d.data.toList HG.out (by rw [HE.out]; simp))
      have HL := hid HP.out.over
      have HFl := hid (show Fit l by
        rw [HL.out]
        refine fit_of HI.out.good (by rw [und_len]; exact hlen) ?_ ?_
        · rw [HI.out.ins]; exact HU.out
        · rw [HI.out.outs, HE.out]; omega)
      clear hjl hq
      go_wp2_with fail
      refine (Normal_any _ l _ HO.out.reads HFl.out (by rw [HL.out]; exact HI.out.good) (by rw [HL.out, HI.out.outs, HE.out]; omega)).mono ?_
      rintro _ w2 ⟨v2, rfl, hH2, hb2⟩
      have H2 := hid (show HasC w2 w.heap.size v2 (invS d o) by rw [invS, ← HL.out]; exact hH2.mono Hb.out.size)
      have Hb2 := hid (below_seq Hb.out hb2)
      clear hH2 hb2
      go_wp2_with fail
      simp only [Exit.jump]
      go_ret2
      exact ⟨fun h => absurd HE.out h, fun _ => ⟨_, rfl, H2.out⟩, Hb2.out⟩
    case neg =>
      have hlt1 : ((j : Int) == (o.length : Int)) = false := by simp; omega
      have hlt2 : j < o.length := by omega
      have hlt3 : (j : Int) < (o.length : Int) := by omega
      obtain ⟨c, hc⟩ : ∃ c, o[j]? = some c := ⟨_, List.getElem?_eq_getElem hlt2⟩
      have hok := HG.out.at hc
      have HC := hid hc
      obtain ⟨ac, cc, hcut, hrc⟩ := cut_c (HV.out.later Hb.out) j 1 (by omega)
      have hone : (o.drop j).take 1 = [c] := by rw [drop_cons' o j c hc]; rfl
      rw [hone] at hrc
      simp only [Int.natCast_one] at hcut
      have HR1 := hid hrc
      have hA := HF.out.at hc
      obtain ⟨m, hm⟩ : ∃ m : Nat, c.over = (m : Int) := Int.eq_ofNat_of_zero_le (over_nn hok).1
      have HMo := hid hm
      have hqm : p + n + m ≤ d.size := by
        have h1 := (HP.out.step hc hm).at'
        have h2 := inS_split o (j + 1)
        have h3 := (HG.out.drop (j + 1)).inS_nn
        have h4 := HE.out
        omega
      have HS := hid (HP.out.step hc hm)
      obtain ⟨g, off, cap', e, hcap, hr, hgs⟩ := HV.out.place (by omega)
      injection e with e1 e2 e3
      subst e1 e3
      have HCL := hid (RC.at hr hc)
      have HOk := hid hok
      have hF1 : Fit [c] := ⟨by simp, fun x hx => by simp at hx; subst hx; exact hA⟩
      have HF1 := hid hF1
      have hI1 : inS [c] = (m : Int) := by rw [in_cons, hm]; simp [inS]
      have HI1 := hid hI1
      clear hrc hc hm hone hA hr hgs e2 hcap hlt hok hF1 hI1
      go_wp2_with fail
      refine (In_any _ [c] _ HR1.out HF1.out).mono ?_
      rintro _ w2 ⟨rfl, hb2⟩
      rw [HI1.out]
      have Hb2 := hid (below_seq Hb.out hb2)
      have HO2 := hid (HO.out.later hb2)
      clear hb2 Hb HO HR1 hcut
      go_wp2_with fail
      refine (inext_any p n m (by omega) _).mono ?_
      rintro _ wx ⟨rfl, rfl⟩
      go_wp2_with fail
      refine (iwithin_any (p + n) m d (by omega) (by omega) _).mono ?_
      rintro _ wx ⟨rfl, rfl⟩
      go_wp2_with fail
      obtain ⟨u, hu⟩ : ∃ u, undC c (d.extract (p + n) (p + n + m)) = u := ⟨_, rfl⟩
      rw [hu] at HS
      have HUu := hid hu
      clear hu
      refine wp_region_held_drew (S := fun w' => Below w.heap.size w w') (by kernel_rfl) (Hb2.out.drew) (fun hHeld => ?_)
      refine wpAnyH_take (i := 0) (v := .slice oo l.length oc) rfl (by kernel_rfl) (by kernel_rfl) (by kernel_rfl) (fun _ _ _ h => h) (Or.inl ⟨by rfl, by intro w hSw; go_simp⟩) hHeld ?_
      try simp only [Act.put, List.setIfInBounds_toArray, List.set_cons_zero, List.set_cons_succ, List.getElem_toArray, List.getElem_cons_zero, List.getElem_cons_succ]
      refine wpAnyH_take (i := 1) (v := .slice (some ⟨g, off, none⟩) o.length cap) rfl (by kernel_rfl) (by kernel_rfl) (by kernel_rfl) (fun _ _ _ h => h) (Or.inl ⟨by rfl, by intro w hSw; go_simp⟩) hHeld ?_
      try simp only [Act.put, List.setIfInBounds_toArray, List.set_cons_zero, List.set_cons_succ, List.getElem_toArray, List.getElem_cons_zero, List.getElem_cons_succ]
      refine wpAnyH_take (i := 2) (v := .int .i64 (j : Int)) rfl (by kernel_rfl) (by kernel_rfl) (by kernel_rfl) (fun _ _ _ h => h) (Or.inl ⟨by rfl, by intro w hSw; go_simp⟩) hHeld ?_
      try simp only [Act.put, List.setIfInBounds_toArray, List.set_cons_zero, List.set_cons_succ, List.getElem_toArray, List.getElem_cons_zero, List.getElem_cons_succ]
      refine wpAnyH_take (i := 5) (v := st (p + n) m) rfl (by kernel_rfl) (by kernel_rfl) (by kernel_rfl) (fun _ _ _ h => h) (Or.inl ⟨by rfl, by intro w hSw; go_simp⟩) hHeld ?_
      try simp only [Act.put, List.setIfInBounds_toArray, List.set_cons_zero, List.set_cons_succ, List.getElem_toArray, List.getElem_cons_zero, List.getElem_cons_succ]
      refine wpAnyH_take (i := 6) (v := .string d) rfl (by kernel_rfl) (by kernel_rfl) (by kernel_rfl) (fun _ _ _ h => h) (Or.inl ⟨by rfl, by intro w hSw; go_simp⟩) hHeld ?_
      try simp only [Act.put, List.setIfInBounds_toArray, List.set_cons_zero, List.set_cons_succ, List.getElem_toArray, List.getElem_cons_zero, List.getElem_cons_succ]
      refine wpAnyH_take (i := 3) (v := .pointer (some ⟨g, off + j * 3, none⟩)) rfl (by kernel_rfl) (by kernel_rfl) (by kernel_rfl) (fun _ _ _ h => h) (Or.inl ⟨by rfl, by intro w hSw; go_simp⟩) hHeld ?_
      try simp only [Act.put, List.setIfInBounds_toArray, List.set_cons_zero, List.set_cons_succ, List.getElem_toArray, List.getElem_cons_zero, List.getElem_cons_succ]
      refine wpAnyH_take (i := 4) (v := _) rfl (by kernel_rfl) (by kernel_rfl) (by kernel_rfl) (fun _ _ _ h => h) (yieldsIf_load_mid (by rfl) _ _ rfl _ _ rfl c.vals _ (fun w hSw => fun i u hi => cell_later hSw (HCL.out i u hi)) Try.underlying42 rfl (by kernel_rfl)) hHeld ?_
      try simp only [Act.put, List.setIfInBounds_toArray, List.set_cons_zero, List.set_cons_succ, List.getElem_toArray, List.getElem_cons_zero, List.getElem_cons_succ]
      refine wpAnyH_ready (rs := [7]) (by kernel_rfl) (by simp) ?_
      refine AllReadyH.cons rfl (fun K hK => ?_) AllReadyH.nil
      go_simp
      refine (iof_any (p + n) m d (by omega) (by omega) _).mono ?_
      rintro _ wx ⟨rfl, rfl⟩
      refine hK.out _ _ (hHeld) (fun hHeld => ?_)
      clear hK K
      try simp only [Act.put, List.setIfInBounds_toArray, List.set_cons_zero, List.set_cons_succ, List.getElem_toArray, List.getElem_cons_zero, List.getElem_cons_succ]
      refine wpAnyH_ready (rs := [8]) (by kernel_rfl) (by simp) ?_
      refine AllReadyH.cons rfl (fun K hK => ?_) AllReadyH.nil
      go_simp
      refine (undone_any c _ HOk.out _).mono ?_
      rintro _ w5 ⟨rfl, hb5⟩
      rw [HUu.out]
      refine hK.out _ _ (below_seq Hb2.out.drew hb5) (fun hHeld => ?_)
      clear hK K
      try simp only [Act.put, List.setIfInBounds_toArray, List.set_cons_zero, List.set_cons_succ, List.getElem_toArray, List.getElem_cons_zero, List.getElem_cons_succ]
      have Hb5 := hid (below_seq Hb2.out.drew hb5)
      have HO5 := hid (HO2.out.later ((Below.refl _ _).drew.trans hb5))
      clear hb5
      simp only [Cp.vals]
      refine wpAnyH_ready (rs := [9]) (by kernel_rfl) (by simp) ?_
      refine AllReadyH.cons rfl (fun K hK => ?_) AllReadyH.nil
      go_simp
      refine hK.out _ _ (Hb5.out.alloc Hb5.out.size _) (fun hHeld => ?_)
      clear hK K
      try simp only [Act.put, List.setIfInBounds_toArray, List.set_cons_zero, List.set_cons_succ, List.getElem_toArray, List.getElem_cons_zero, List.getElem_cons_succ]
      have HN5 := hid (one_new w5 u w.heap.size Hb5.out.size)
      have HO5b := hid (HO5.out.later ((Below.refl _ _).alloc (Nat.le_refl _) (.cells u.vals.toArray 42)))
      have Hb5b := hid (Hb5.out.alloc Hb5.out.size (.cells u.vals.toArray 42))
      refine wpAnyH_ready (rs := [10]) (by kernel_rfl) (by simp) ?_
      refine AllReadyH.cons rfl (fun K hK => ?_) AllReadyH.nil
      refine Eq.mpr (if_pos (by rfl)) ?_
      refine wp_append_c _ _ rfl w.heap.size _ l rfl HO5b.out Hb5b.out.size _ [u] rfl HN5.out.reads (by have := HLL.out; simp; omega) ?_
      intro v6 w6 hH6 hb6
      have Hb6 := hid (show Below w.heap.size w w6 from Hb5b.out.trans hb6)
      obtain ⟨l6, hl6⟩ : ∃ l6, l ++ [u] = l6 := ⟨_, rfl⟩
      rw [hl6] at hH6
      have HL6 := hid hl6
      obtain ⟨a6, c6, rfl⟩ := hH6.form
      have H6 := hid hH6
      clear hl6 hH6 hb6
      refine hK.out _ _ Hb6.out (fun hHeld => ?_)
      clear hK K
      try simp only [Act.put, List.setIfInBounds_toArray, List.set_cons_zero, List.set_cons_succ, List.getElem_toArray, List.getElem_cons_zero, List.getElem_cons_succ]
      refine wpAnyH_take (i := 11) (v := .slice a6 l6.length c6) rfl (by kernel_rfl) (by kernel_rfl) (by kernel_rfl) (fun _ _ _ h => h) (Or.inl ⟨by rfl, by intro w hSw; go_simp⟩) hHeld ?_
      try simp only [Act.put, List.setIfInBounds_toArray, List.set_cons_zero, List.set_cons_succ, List.getElem_toArray, List.getElem_cons_zero, List.getElem_cons_succ]
      refine wpAnyH_done (by kernel_rfl) ?_ _
      go_wp2_with fail
      go_step3
      refine ⟨rfl, ⟨HE.out, j + 1, p + n, m, _, l6, by go_num, ?_, H6.out, Hb6.out⟩, ?_⟩
      · rw [← HL6.out]; exact HS.out
      · simp [intOf]; omega
end Go.Proofs.Ytbhojomgbjchkaa

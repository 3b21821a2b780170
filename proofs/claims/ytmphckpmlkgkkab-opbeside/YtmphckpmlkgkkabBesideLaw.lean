/- The law OpBeside: operations over two texts, one behind the other, are an operation over both. -/
import Derived.Test.YtmphckpmlkgkkabKnown4
import Derived.BigQuiet
namespace Go.Proofs.Ytmphckpmlkgkkab
open Go.RowKit
set_option linter.unusedSimpArgs false
set_option linter.unusedVariables false

theorem apply_beside : ∀ (o p : List Cp) (d e : List UInt8), Good o → inS o = d.length → applyS (d ++ e) (o ++ p) = applyS d o ++ applyS e p
  | [], p, d, e, _, hi => by
    have : d = [] := List.eq_nil_of_length_eq_zero (by simp [inS] at hi; omega)
    subst this
    rfl
  | c :: o, p, d, e, hg, hi => by
    have hg' : Good o := fun x hx => hg x (by simp [hx])
    have hnn := hg'.inS_nn
    rw [inS] at hi
    rcases hg c (by simp) with ⟨hk, hn, hs⟩ | ⟨hk, hn, hs⟩
    · obtain ⟨m, hm⟩ : ∃ m : Nat, c.n = (m : Int) := Int.eq_ofNat_of_zero_le (by omega)
      have ho : c.over = m := by rw [Cp.over, if_pos hk, hm]
      have hle : m ≤ d.length := by omega
      have ih := apply_beside o p (d.drop m) e hg' (by rw [List.length_drop]; omega)
      have e1 : (d ++ e).take m = d.take m := by rw [List.take_append_of_le_length hle]
      have e2 : (d ++ e).drop m = d.drop m ++ e := by rw [List.drop_append_of_le_length hle]
      rcases hk with hk | hk
      · rw [List.cons_append, applyS, if_pos hk, applyS, if_pos hk, hm, Int.toNat_natCast, e1, e2, ih, List.append_assoc]
      · rw [List.cons_append, applyS, if_neg (by omega), if_neg (by omega), applyS, if_neg (by omega), if_neg (by omega), hm, Int.toNat_natCast, e2, ih]
    · have ho : c.over = 0 := by rw [Cp.over, if_neg (by omega)]
      have ih := apply_beside o p d e hg' (by omega)
      rw [List.cons_append, applyS, if_neg (by omega), if_pos hk, applyS, if_neg (by omega), if_pos hk, ih, List.append_assoc]

theorem apS_beside {d e : ByteArray} {o p : List Cp} (ho : Made d.size o) (hp : Made e.size p) (h : outS o + outS p ≤ 120) :
    ∃ x y : ByteArray, apS d o = (x, 0) ∧ apS e p = (y, 0) ∧ apS (d ++ e) (o ++ p) = (x ++ y, 0) := by
  refine ⟨⟨(applyS d.data.toList o).toArray⟩, ⟨(applyS e.data.toList p).toArray⟩, ?_, ?_, ?_⟩
  · rw [apS, if_neg (by simpa using ho.ins), if_neg (by have := ho.outs; omega)]
  · rw [apS, if_neg (by simpa using hp.ins), if_neg (by have := hp.outs; omega)]
  · have h1 : inS (o ++ p) = ((d ++ e).size : Int) := by rw [inS_append, ho.ins, hp.ins, ByteArray.size_append]; omega
    rw [apS, if_neg (by simpa using h1), if_neg (by rw [outS_append]; omega), append_list, apply_beside o p _ _ ho.good (by rw [ho.ins, size_list]), ba_mk]

/-- The first k bytes. -/
theorem front_b (ao : Option Addr) (cap : Nat) (l : List UInt8) (k : Nat) (hcap : l.length ≤ cap) (hk : k ≤ l.length) :
    ∃ p c, (∀ wx, (Instr.slice 32 (.slice ao l.length cap) none (some (.int .i64 (k : Int))) none).run Try.prog wx = .ok (.slice p k c) wx) ∧ ∀ w, Reads w (.slice ao l.length cap) (B l) → Reads w (.slice p k c) (B (l.take k)) := by
  have hkl : (B (l.take k)).length = k := by rw [B_length, List.length_take]; omega
  by_cases h0 : cap = 0
  · subst h0
    have hk0 : k = 0 := by omega
    subst hk0
    exact ⟨ao, 0, fun wx => by go_simp, fun w _ => ⟨ao, 0, by rw [hkl], by rw [hkl]; omega, fun _ => rfl, fun _ _ j u hj => by simp [B] at hj⟩⟩
  · refine ⟨ao.map fun x => x.add 0, cap, fun wx => ?_, fun w hr => ?_⟩
    · have hkc : (k : Int) ≤ (cap : Int) := by omega
      go_simp
    · obtain ⟨a, c, e, h1, h2, h3⟩ := hr
      injection e with e1 e2 e3
      subst e1 e3
      refine ⟨_, cap, by rw [hkl], by rw [hkl]; omega, ?_, ?_⟩
      · intro h; cases ao with
        | none => exact h2 rfl
        | some x => cases h
      · intro ad he j u hj
        cases ao with
        | none => cases he
        | some x =>
          have hx0 : x.add 0 = x := by simp [Addr.add]
          simp only [Option.map_some, hx0] at he
          cases he
          refine h3 _ rfl j u ?_
          rw [B_get] at hj ⊢
          rw [List.getElem?_take] at hj
          split at hj
          · exact hj
          · simp at hj

theorem min40 (n : Nat) : ∃ k : Nat, (if (40 : Int) < (n : Int) then (40 : Int) else (n : Int)) = (k : Int) ∧ k ≤ n ∧ k ≤ 40 := by
  by_cases h : 40 < n
  · exact ⟨40, by rw [if_pos (by omega)]; rfl, by omega, by omega⟩
  · exact ⟨n, by rw [if_neg (by omega)], by omega, by omega⟩
theorem front_str {w : World} {v : Value} {l : List UInt8} (h : Reads w v (B l)) (k : Nat) : (convert 32 9 v).run Try.prog (w.drewN k) = .ok (.string ⟨l.toArray⟩) (w.drewN k) :=
  run_string (P := Try.prog) (w.drewN k) 32 9 5 Try.underlying32 Try.underlying5 Try.underlying9 (h.later (below_drewN (Below.refl _ _) k))
theorem le_alloc (w : World) (ob : Obj) : w.heap.size ≤ (w.alloc ob).heap.size := by simp
theorem empty_new (w : World) (Bd : Nat) (h : Bd ≤ w.heap.size) : HasC (w.alloc (.cells #[] 29)) Bd (.slice (some ⟨w.heap.size, 0, none⟩) 0 0) [] := (parts_new w [] 0 rfl).mono h

set_option maxRecDepth 100000 in
set_option maxHeartbeats 8000000 in
theorem beside_any (aa ab : Option Addr) (ca cb : Nat) (a b : List UInt8) (an : Option Addr) (lena capa : Nat) (bn : Option Addr) (lenb capb : Nat) (w : World) (ha : Reads w (.slice aa a.length ca) (B a)) (hb : Reads w (.slice ab b.length cb) (B b))
    (hma : a.length ≤ maxLen) (hmb : b.length ≤ maxLen) (hna : NS w an lena) (hnb : NS w bn lenb) (hca : lena ≤ capa) (hcb : lenb ≤ capb) (hla : lena ≤ 9223372036854775807) (hlb : lenb ≤ 9223372036854775807) :
    Calls Try.prog 4 #[.slice aa a.length ca, .slice ab b.length cb, .slice an lena capa, .slice bn lenb capb] w fun e w' => e = .returned (.bool true) ∧ Below w.heap.size w w' := by
  have hcpa : a.length ≤ ca := by obtain ⟨x, c, e, h1, _⟩ := ha; injection e with e1 e2 e3; subst e3; rwa [B_length] at h1
  have hcpb : b.length ≤ cb := by obtain ⟨x, c, e, h1, _⟩ := hb; injection e with e1 e2 e3; subst e3; rwa [B_length] at h1
  obtain ⟨ka, hifa, hka1, hka2⟩ := min40 a.length
  obtain ⟨kb, hifb, hkb1, hkb2⟩ := min40 b.length
  obtain ⟨pa, qa, hsla, hfa⟩ := front_b aa ca a ka hcpa hka1
  obtain ⟨pb, qb, hslb, hfb⟩ := front_b ab cb b kb hcpb hkb1
  have HA := hid ha
  have HB := hid hb
  have HFA := hid hfa
  have HFB := hid hfb
  have HNA := hid hna
  have HNB := hid hnb
  have HMA := hid hma
  have HMB := hid hmb
  clear ha hb hna hnb hfa hfb hma hmb
  go_enter Try.func4, Try.ntmps4
  go_wp2_with fail
  refine (known_any _).mono ?_
  rintro _ w1 ⟨rfl, hb1⟩
  have Hb1 := hid hb1
  have sa := front_str (HFA.out _ (HA.out.later hb1))
  have sb := front_str (HFB.out _ (HB.out.later hb1))
  have HDA := hid (show (⟨(a.take ka).toArray⟩ : ByteArray).size ≤ 40 by rw [size_list]; simp; omega)
  have HDB := hid (show (⟨(b.take kb).toArray⟩ : ByteArray).size ≤ 40 by rw [size_list]; simp; omega)
  generalize (⟨(a.take ka).toArray⟩ : ByteArray) = d at *
  generalize (⟨(b.take kb).toArray⟩ : ByteArray) = e at *
  clear hb1
  go_wp2_with fail
  go_quiet (fail)
  have Hb2 := hid (show Below w.heap.size w (w1.drewN nq) from below_drewN Hb1.out nq)
  clear sa sb hsla hslb hifa hifb Hb1
  generalize w1.drewN nq = w2 at *
  go_wp2_with fail
  refine (Make_any d.size (by have := HDA.out; omega) an lena capa _ (HNA.out.later Hb2.out) hca hla).mono ?_
  rintro _ w3 ⟨v, rfl, o, hH, hb3, hM⟩
  obtain ⟨av, cv, rfl⟩ := hH.form
  have Hb3 := hid (below_seq Hb2.out hb3)
  have HH := hid hH
  have HMo := hid hM
  have hol : o.length ≤ 14 := hM.len
  clear hb3 hH hM
  go_wp2_with fail
  refine (Make_any e.size (by have := HDB.out; omega) bn lenb capb _ (HNB.out.later Hb3.out) hcb hlb).mono ?_
  rintro _ w4 ⟨v2, rfl, p, hP, hb4, hM⟩
  obtain ⟨av2, cv2, rfl⟩ := hP.form
  have Hb4 := hid (below_seq Hb3.out hb4)
  have HH4 := hid (HH.out.later hb4)
  have HP4 := hid hP
  have HMp := hid hM
  have hpl : p.length ≤ 14 := hM.len
  clear hb4 hP hM HH
  go_wp2_with fail
  refine (Out_any _ o _ HH4.out.reads HMo.out.fit).mono ?_
  rintro _ w5 ⟨rfl, hb5⟩
  have HH5 := hid (HH4.out.later hb5)
  have HP5 := hid (HP4.out.later hb5)
  have Hb5 := hid (below_seq Hb4.out hb5)
  clear hb5 HH4 HP4
  have hoo : outS o ≤ 120 := HMo.out.outs
  have hon : 0 ≤ outS o := (outS_le o HMo.out.fit.2).1
  have hpo : outS p ≤ 120 := HMp.out.outs
  have hpn : 0 ≤ outS p := (outS_le p HMp.out.fit.2).1
  obtain ⟨no, hno⟩ : ∃ x, outS o = x := ⟨_, rfl⟩
  obtain ⟨np, hnp⟩ : ∃ x, outS p = x := ⟨_, rfl⟩
  rw [hno] at hoo hon ⊢
  rw [hnp] at hpo hpn
  have HNO := hid hno
  have HNP := hid hnp
  clear hno hnp
  go_wp2_with fail
  refine (Out_any _ p _ HP5.out.reads HMp.out.fit).mono ?_
  rintro _ w6 ⟨rfl, hb6⟩
  rw [HNP.out]
  have HH6 := hid (HH5.out.later hb6)
  have HP6 := hid (HP5.out.later hb6)
  have Hb6 := hid (below_seq Hb5.out hb6)
  clear hb6 HH5 HP5
  by_cases hgt : 120 < no + np
  · go_wp2_with fail
    go_ret
    exact ⟨rfl, Hb6.out⟩
  obtain ⟨x, y, hx, hy, hxy⟩ := apS_beside HMo.out HMp.out (by rw [HNO.out, HNP.out]; omega)
  have HX := hid hx
  have HY := hid hy
  have HXY := hid hxy
  have HZ := hid (show x.size + y.size ≤ 9223372036854775807 by
    have h1 := applyS_length o d.data.toList HMo.out.good (by rw [HMo.out.ins, size_list]; exact Int.le_refl _)
    have h2 := applyS_length p e.data.toList HMp.out.good (by rw [HMp.out.ins, size_list]; exact Int.le_refl _)
    have h3 : (apS d o).1 = ⟨(applyS d.data.toList o).toArray⟩ := by rw [apS, if_neg (by simpa using HMo.out.ins), if_neg (by rw [HNO.out]; omega)]
    have h4 : (apS e p).1 = ⟨(applyS e.data.toList p).toArray⟩ := by rw [apS, if_neg (by simpa using HMp.out.ins), if_neg (by rw [HNP.out]; omega)]
    rw [hx] at h3
    rw [hy] at h4
    simp only at h3 h4
    have h5 : x.size = (applyS d.data.toList o).length := by rw [h3, size_list]
    have h6 : y.size = (applyS e.data.toList p).length := by rw [h4, size_list]
    rw [HNO.out] at h1
    rw [HNP.out] at h2
    omega)
  have hzs := HZ.out
  have hda := HDA.out
  have hdb := HDB.out
  clear hx hy hxy
  go_wp2_with fail
  refine (Apply_any d _ o _ HH6.out.reads HMo.out.fit HMo.out.good (by omega)).mono ?_
  rintro _ w7 ⟨rfl, hb7⟩
  rw [HX.out]
  have HH7 := hid (HH6.out.later hb7)
  have HP7 := hid (HP6.out.later hb7)
  have Hb7 := hid (below_seq Hb6.out hb7)
  clear hb7 HH6 HP6
  go_wp2_with fail
  refine (Apply_any e _ p _ HP7.out.reads HMp.out.fit HMp.out.good (by omega)).mono ?_
  rintro _ w8 ⟨rfl, hb8⟩
  rw [HY.out]
  have HH8 := hid (HH7.out.later hb8)
  have HP8 := hid (HP7.out.later hb8)
  have Hb8 := hid (below_seq Hb7.out hb8)
  have hs8 := Hb8.out.size
  clear hb8 HH7 HP7
  have hb65 : ([] : List Cp).length + o.length ≤ 4398046511104 := by simp; omega
  have hb67 : o.length + p.length ≤ 4398046511104 := by omega
  have H65 := hid hb65
  have H67 := hid hb67
  clear hb65 hb67
  go_wp2_with (at_builtin; first | (refine wpList_append_c rfl (.tmp 63) (.tmp 64) rfl w8.heap.size _ [] rfl (empty_new w8 w8.heap.size (Nat.le_refl _)) (le_alloc w8 _) _ o rfl (HH8.out.reads.later ((Below.refl _ _).alloc (Nat.le_refl _) _)) H65.out ?_; intro v9 w9 hH9 hb9; replace hb9 := hid hb9; replace hH9 := hid hH9) | (refine wpList_append_c rfl (.tmp 65) (.tmp 66) rfl w8.heap.size _ o rfl hH9.out (Nat.le_trans (le_alloc w8 _) hb9.out.size) _ p rfl (HP8.out.reads.later (((Below.refl w8.heap.size w8).alloc (Nat.le_refl _) _).trans hb9.out)) H67.out ?_; intro v10 w10 hH10 hb10; replace hb10 := hid hb10; replace hH10 := hid hH10))
  have Hb10 := hid (show Below w8.heap.size w8 w10 from (((Below.refl w8.heap.size w8).alloc (Nat.le_refl _) _).trans hb9.out).trans hb10.out)
  have HV := hid (show Vals (o ++ p) from HMo.out.vals.append HMp.out.vals)
  have Hb11 := hid (below_seq Hb8.out Hb10.out)
  refine (Apply_any (d ++ e) _ (o ++ p) _ hH10.out.reads (HV.out.fit (by rw [List.length_append]; omega)) HV.out.good (by rw [ByteArray.size_append]; omega)).mono ?_
  rintro _ w12 ⟨rfl, hb12⟩
  rw [HXY.out]
  have Hb12 := hid (below_seq Hb11.out hb12)
  clear hb12 hb9 hb10 hH9 hH10
  go_wp2_with fail
  go_ret
  exact ⟨rfl, Hb12.out⟩

theorem beside_row (a0 : Option Addr) (len0 cap0 : Nat) (z0 : List Int) (a1 : Option Addr) (len1 cap1 : Nat) (z1 : List Int) (a2 : Option Addr) (len2 cap2 : Nat) (z2 : List Int) (a3 : Option Addr) (len3 cap3 : Nat) (z3 : List Int) (w : World)
    (w0 : IsRow .u8 w a0 len0 cap0 z0) (w1 : IsRow .u8 w a1 len1 cap1 z1) (w2 : IsRow .i64 w a2 len2 cap2 z2) (w3 : IsRow .i64 w a3 len3 cap3 z3) :
    Calls Try.prog 4 #[.slice a0 len0 cap0, .slice a1 len1 cap1, .slice a2 len2 cap2, .slice a3 len3 cap3] w fun e w' => e = .returned (.bool true) ∧ Below w.heap.size w w' := by
  obtain ⟨l0, rfl, m0, h0⟩ := bytes_of_row w0
  obtain ⟨l1, rfl, m1, h1⟩ := bytes_of_row w1
  exact beside_any a0 a1 cap0 cap1 l0 l1 a2 len2 cap2 a3 len3 cap3 w h0 h1 m0 m1 (ns_of_row w2) (ns_of_row w3) (cap_of_row w2) (cap_of_row w3) (len_of_row w2) (len_of_row w3)
end Go.Proofs.Ytmphckpmlkgkkab

/- The contracts of package delta's OpBytes and Bytes. -/
import Derived.Test.YtinifnpajkldbaaDoorDBytes
namespace Go.Proofs.YtinifnpajkldbaaDoor
open Go.RowKit
set_option linter.unusedSimpArgs false
set_option linter.unusedVariables false

set_option maxRecDepth 100000 in
set_option maxHeartbeats 2000000 in
theorem opBytes_any (v : Value) (o : List Cp) (w : World) (hv : RC w v o) (hf : FewS o) :
    Calls Tryd.prog 53 #[v] w fun e w' => ∃ g cap, e = .returned (.slice (some ⟨g, 0, none⟩) (1 + partsN o) cap) ∧ w.heap.size ≤ g ∧ Owns w' 5 g cap (1 + partsN o) (B (opB o)) ∧ Below w.heap.size w w' := by
  obtain ⟨i0, hi, hz0, hz1, hz2⟩ := info_parts Tryd.infoByte
  obtain ⟨ao, cap, rfl⟩ := hv.form
  have HV := hid hv
  have HF := hid hf
  have hlen := hf.1
  clear hv hf
  go_enter Tryd.func53, Tryd.ntmps53
  go_wp2_with fail
  refine (cByte (.slice none 0 0) [] 0 rfl (o.length : Int) _ (Reads.nil _) (by omega)).mono ?_
  rintro _ w1 ⟨g1, cap1, rfl, hg1, ho1, hb1⟩
  have HO1 := hid (show Owns w1 5 g1 cap1 (1 + partsN (o.take 0)) (B (i1 o.length ++ (o.take 0).flatMap partB)) by have h := ho1; simp only [List.nil_append, Nat.zero_add] at h; simpa [partsN, i1] using h)
  have Hb1 := hid hb1
  have HG1 := hid hg1
  clear ho1 hb1 hg1
  go_wp2_with fail
  go_loopw [3, 11] (fun out i wr => ∃ (j g cp : Nat), j ≤ o.length ∧ i = .int .i64 j ∧ out = .slice (some ⟨g, 0, none⟩) (1 + partsN (o.take j)) cp ∧ Owns wr 5 g cp (1 + partsN (o.take j)) (B (i1 o.length ++ (o.take j).flatMap partB)) ∧ w.heap.size ≤ g ∧ Below w.heap.size w wr) (fun _ i _ => o.length - (intOf i).toNat)
  case atStart => exact ⟨0, g1, cap1, Nat.zero_le _, rfl, rfl, HO1.out, HG1.out, Hb1.out⟩
  case round =>
    obtain ⟨j, g, cp, hj, rfl, rfl, hO, hg, hb⟩ := hrel
    have HO := hid hO
    have Hb := hid hb
    have HG := hid hg
    clear hO hb hg HO1 Hb1 HG1
    by_cases hlt : j < o.length
    · have hlt' : (j : Int) < (o.length : Int) := by omega
      obtain ⟨c, hc⟩ : ∃ c, o[j]? = some c := ⟨_, List.getElem?_eq_getElem hlt⟩
      obtain ⟨ga, off, cap', e, hcap, hr, hga⟩ := HV.out.place (by omega)
      injection e with e1 e2 e3
      subst e1 e3
      obtain ⟨c0, c1, c2⟩ := RC.cells hr hc
      replace c0 := cell_later Hb.out c0
      replace c1 := cell_later Hb.out c1
      replace c2 := cell_later Hb.out c2
      have HS := hid (HF.out.2 c (List.mem_of_getElem? hc))
      have HN := hid (partsN_take hc)
      have HFl := hid (flat_take hc)
      have HB := hid ((HF.out.take (j + 1)).le)
      clear hr hc e2
      obtain ⟨n, hn⟩ : ∃ n, partsN (o.take j) = n := ⟨_, rfl⟩
      rw [hn] at HN HO ⊢
      clear hn
      obtain ⟨m, hm⟩ : ∃ m, 11 + c.s.size = m := ⟨_, rfl⟩
      have hb2 : n + m ≤ 8050 := by have h1 := HB.out; rw [HN.out, hm] at h1; exact h1
      have HM := hid hm
      clear hm
      go_wp2_with fail
      refine (partB_any c (by have := HS.out; omega) _).mono ?_
      rintro _ w2 ⟨g2, cap2, rfl, hg2, ho2, hb2⟩
      have HR2 := hid (show Reads w2 (.slice (some ⟨g2, 0, none⟩) m cap2) (B (partB c)) by have := ho2.reads; rw [HM.out] at this; exact this)
      have HO2 := hid ((HO.out.alloc _).later hb2)
      have Hb2 := hid (show Below w.heap.size w w2 from (Hb.out.alloc Hb.out.size _).trans (hb2.mono (by have := Hb.out.size; simp; omega)))
      rw [HM.out]
      clear ho2 hb2 hg2 c0 c1 c2
      go_wp2_with (at_builtin; go_must (refine wpList_append_src _ rfl _ _ 22 22 rfl 5 i0 (.int .u8 0) Tryd.underlying22 hi hz0 hz1 hz2 rfl g cp (1 + n) _ rfl HO2.out _ m (B (partB c)) rfl (Src.ofBytes _ Tryd.underlying22 (by rw [partB_len, HM.out]) HR2.out) (by omega) ?_); intro g3 cap3 w3 hG3)
      have HO3 := hid hG3.own
      have HG3 := hid (hG3.ge HG.out Hb2.out.size)
      have Hb3 := hid (hG3.below Hb2.out HG.out)
      clear hG3
      go_roundw
      case rel =>
        have hN : 1 + n + m = 1 + partsN (o.take (j + 1)) := by rw [HN.out, HM.out]; omega
        refine ⟨j + 1, g3, cap3, by omega, by go_num, by rw [hN], ?_, HG3.out, Hb3.out⟩
        have h := HO3.out
        rw [hN, ← B_append, List.append_assoc, ← HFl.out] at h
        exact h
      case measure => simp [intOf]; omega
    · have hj2 : j = o.length := by omega
      subst hj2
      have HT := hid (List.take_length (l := o))
      rw [HT.out] at HO ⊢
      go_wp2
      go_ret
      exact ⟨g, cp, rfl, HG.out, HO.out, Hb.out⟩

set_option maxRecDepth 100000 in
set_option maxHeartbeats 2000000 in
theorem dBytes_any (d : Dl) (hd : d.h.length = 32) (v : Value) (o : List Cp) (w : World) (hv : RC w v o) (hf : FewS o) :
    Calls Tryd.prog 33 #[.agg (d.cells v).toArray] w fun e w' => ∃ g cap, e = .returned (.slice (some ⟨g, 0, none⟩) (84 + partsN o) cap) ∧ w.heap.size ≤ g ∧ Owns w' 5 g cap (84 + partsN o) (B (dB d o)) ∧ Below w.heap.size w w' := by
  obtain ⟨i0, hi, hz0, hz1, hz2⟩ := info_parts Tryd.infoByte
  obtain ⟨ao, cap, rfl⟩ := hv.form
  obtain ⟨cs, hcs⟩ : ∃ cs, d.cells (.slice ao o.length cap) = cs := ⟨_, rfl⟩
  rw [hcs]
  have HCS := hid hcs
  have HV := hid hv
  have HF := hid hf
  have HD := hid hd
  have HP := hid hf.le
  obtain ⟨L, hL⟩ : ∃ L, w.heap.size = L := ⟨_, rfl⟩
  clear hcs hv hf hd
  go_enter Tryd.func33, Tryd.ntmps33
  go_wp2_with ((show wpList _ _ _ (⟨some 1, Op.box _ _, _, _, _, _⟩ :: _) _ _; go_must (refine wpList_box_blk rfl 30 _ rfl cs rfl L hL ?_); intro w1 hB1 hb1 hs1; rw [← HCS.out] at hB1; have HW := hid (DW.mk HD.out hB1); obtain ⟨c0, c1, c2, c3, c36, c37, c38, c39⟩ := HW.out.cells; clear c2 c3 c36 c37 c38 c39 hB1; replace hb1 := hid hb1))
  have HS := hid (show L ≤ w1.heap.size by omega)
  refine (addrB_any (.slice none 0 0) [] 0 rfl d.aD d.aU _ (Reads.nil _) (by omega)).mono ?_
  rintro _ w2 ⟨g2, cap2, rfl, hg2, ho2, hb2⟩
  have HO2 := hid ho2
  have HW2 := hid (HW.out.later hb2)
  have Hb2 := hid (show Below L w w2 from hb1.out.trans (hb2.mono HS.out))
  obtain ⟨c0, c1, c2, c3, c36, c37, c38, c39⟩ := HW2.out.cells
  clear ho2 hb2 hg2 c0 c1 c3 c36 c37 c38 c39 HW hb1 HS hs1
  go_wp2_with fail
  refine (cInt _ ([] ++ i8 d.aD ++ i8 d.aU) (0 + 16) rfl d.id _ HO2.out.reads (by omega)).mono ?_
  rintro _ w3 ⟨g3, cap3, rfl, hg3, ho3, hb3⟩
  have HO3 := hid ho3
  have HW3 := hid (HW2.out.later hb3)
  have Hb3 := hid (show Below L w w3 from Hb2.out.trans (hb3.mono (by have := Hb2.out.size; omega)))
  obtain ⟨c0, c1, c2, c3, c36, c37, c38, c39⟩ := HW3.out.cells
  clear ho3 hb3 hg3 c0 c1 c2 c36 c37 c38 c39 HW2 Hb2 HO2
  go_wp2_with fail
  refine (cInt _ ([] ++ i8 d.aD ++ i8 d.aU ++ i8 d.id) (0 + 16 + 8) rfl d.ver _ HO3.out.reads (by omega)).mono ?_
  rintro _ w4 ⟨g4, cap4, rfl, hg4, ho4, hb4⟩
  have HO4 := hid ho4
  have HW4 := hid (HW3.out.later hb4)
  have Hb4 := hid (show Below L w w4 from Hb3.out.trans (hb4.mono (by have := Hb3.out.size; omega)))
  have HG4 := hid (show L < g4 by have := HW3.out.blk.lt; omega)
  clear ho4 hb4 hg4 HW3 Hb3 HO3 c3
  have HSr := hid (show Src Tryd.prog 1 22 (.slice (some ⟨L, 4, none⟩) 32 32) 32 (B d.h) w4 from
    Src.ofSlice w4 Tryd.underlying22 ⟨L, 4, none⟩ 32 32 (B d.h) (by rw [B_length, HD.out]) (fun j u hj => by rw [Addr.add_lit]; exact HW4.out.hash j u hj) (B_one _))
  go_wp2_with (at_builtin; go_must (refine wpList_append_src _ rfl _ _ 22 22 rfl 5 i0 (.int .u8 0) Tryd.underlying22 hi hz0 hz1 hz2 rfl g4 cap4 (0 + 16 + 8 + 8) _ rfl HO4.out _ 32 (B d.h) rfl HSr.out (by omega) ?_); intro g5 cap5 w5 hG5; have HW5 := hid (HW4.out.grown hG5.grown (by intro e; cases e; have := HG4.out; omega)); obtain ⟨c0, c1, c2, c3, c36, c37, c38, c39⟩ := HW5.out.cells; clear c0 c1 c2 c3 c37 c38 c39)
  have HO5 := hid hG5.own
  rw [← B_append] at HO5
  have Hb5 := hid (hG5.below Hb4.out (Nat.le_of_lt HG4.out))
  clear hG5 HSr HO4 HW4 Hb4
  refine (cByte _ ([] ++ i8 d.aD ++ i8 d.aU ++ i8 d.id ++ i8 d.ver ++ d.h) (0 + 16 + 8 + 8 + 32) (by rw [List.length_append, HD.out]; rfl) d.k _ HO5.out.reads (by omega)).mono ?_
  rintro _ w6 ⟨g6, cap6, rfl, hg6, ho6, hb6⟩
  have HO6 := hid ho6
  have HW6 := hid (HW5.out.later hb6)
  have Hb6 := hid (show Below L w w6 from Hb5.out.trans (hb6.mono (by have := HW5.out.blk.lt; omega)))
  obtain ⟨c0, c1, c2, c3, x36, c37, c38, c39⟩ := HW6.out.cells
  clear ho6 hb6 hg6 c0 c1 c2 c3 x36 c38 c39 c36 HW5 Hb5 HO5 HG4
  have HVL := hid (show RC w6 (.slice ao o.length cap) o from HV.out.later (by rw [hL]; exact Hb6.out))
  go_wp2_with fail
  refine (opBytes_any _ o _ HVL.out HF.out).mono ?_
  rintro _ w7 ⟨g7, cap7, rfl, hg7, ho7, hb7⟩
  have HO7 := hid (HO6.out.later hb7)
  have HW7 := hid (HW6.out.later hb7)
  have Hb7 := hid (show Below L w w7 from Hb6.out.trans (hb7.mono (by have := HW6.out.blk.lt; omega)))
  have hS := run_string (P := Tryd.prog) w7 22 9 5 Tryd.underlying22 Tryd.underlying5 Tryd.underlying9 ho7.reads
  clear ho7 hb7 hg7 c37 HVL HW6 Hb6 HO6
  go_wp2_with fail
  have HTL := hid (show (⟨(opB o).toArray⟩ : ByteArray).size = 1 + partsN o by rw [← opB_len]; rfl)
  refine (cText _ ([] ++ i8 d.aD ++ i8 d.aU ++ i8 d.id ++ i8 d.ver ++ d.h ++ i1 d.k) (0 + 16 + 8 + 8 + 32 + 1) (by rw [List.length_append, List.length_append, HD.out]; rfl) ⟨(opB o).toArray⟩ _ HO7.out.reads (by rw [HTL.out]; have := HP.out; omega) (by rw [HTL.out]; have := HP.out; omega)).mono ?_
  rw [HTL.out]
  rintro _ w8 ⟨g8, cap8, rfl, hg8, ho8, hb8⟩
  have HO8 := hid (show Owns w8 5 g8 cap8 (0 + 16 + 8 + 8 + 32 + 1 + 2 + (1 + partsN o)) (B ([] ++ i8 d.aD ++ i8 d.aU ++ i8 d.id ++ i8 d.ver ++ d.h ++ i1 d.k ++ tx (opB o))) by
    rw [tx, opB_len, ← List.append_assoc]; exact ho8)
  have HW8 := hid (HW7.out.later hb8)
  have Hb8 := hid (show Below L w w8 from Hb7.out.trans (hb8.mono (by have := HW7.out.blk.lt; omega)))
  obtain ⟨c0, c1, c2, c3, c36, c37, c38, c39⟩ := HW8.out.cells
  clear ho8 hb8 hg8 c0 c1 c2 c3 c36 c37 HW7 Hb7 HO7
  have HB := hid HP.out
  go_wp2_with fail
  refine (addrB_any _ ([] ++ i8 d.aD ++ i8 d.aU ++ i8 d.id ++ i8 d.ver ++ d.h ++ i1 d.k ++ tx (opB o)) (0 + 16 + 8 + 8 + 32 + 1 + 2 + (1 + partsN o)) (by simp only [List.length_append, i8_len, i1_len, tx_len, opB_len, HD.out, List.length_nil]; omega) d.wD d.wU _ HO8.out.reads (by have := HB.out; omega)).mono ?_
  rintro _ w9 ⟨g9, cap9, rfl, hg9, ho9, hb9⟩
  have HO9 := hid ho9
  have HG9 := hid (show L ≤ g9 by have := HW8.out.blk.lt; omega)
  have Hb9 := hid (show Below L w w9 from Hb8.out.trans (hb9.mono (by have := HW8.out.blk.lt; omega)))
  clear ho9 hb9 hg9 HW8 Hb8 HO8
  go_wp2_with fail
  go_ret
  subst hL
  have hN : 0 + 16 + 8 + 8 + 32 + 1 + 2 + (1 + partsN o) + 16 = 84 + partsN o := by omega
  refine ⟨g9, cap9, by rw [hN]; rfl, HG9.out, ?_, Hb9.out⟩
  have h := HO9.out
  rw [hN] at h
  exact h
end Go.Proofs.YtinifnpajkldbaaDoor

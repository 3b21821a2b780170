/- The contract of package sign's Core. -/
import Derived.Test.YtinifnpajkldbaaDoorPk2
import Derived.Test.YtinifnpajkldbaaDoorPk6
import Derived.Test.YtinifnpajkldbaaDoorDBytes2
namespace Go.Proofs.YtinifnpajkldbaaDoor
open Go.RowKit
set_option linter.unusedSimpArgs false
set_option linter.unusedVariables false

set_option maxRecDepth 100000 in
set_option maxHeartbeats 4000000 in
theorem sCore_own (e : En) (he : e.Ok) (bv ov : Value) (body : List UInt8) (o : List Cp) (w : World) (hb : Reads w bv (B body)) (hbl : body.length ≤ 400) (hv : RC w ov o) (hf : FewS o) :
    Calls Tryd.prog 25 #[.agg (e.cells bv ov).toArray] w fun x w' => ∃ g cap, x = .returned (.slice (some ⟨g, 0, none⟩) (coreN body.length o) cap) ∧ w.heap.size ≤ g ∧ Owns w' 5 g cap (coreN body.length o) (B (coreB e body o)) ∧ Below w.heap.size w w' := by
  obtain ⟨i0, hi, hz0, hz1, hz2⟩ := info_parts Tryd.infoByte
  obtain ⟨cs, hcs⟩ : ∃ cs, e.cells bv ov = cs := ⟨_, rfl⟩
  rw [hcs]
  have HCS := hid hcs
  have HE := hid he
  have HV := hid hv
  have HF := hid hf
  have HBd := hid hb
  obtain ⟨n, hn⟩ : ∃ n, body.length = n := ⟨_, rfl⟩
  obtain ⟨p, hp⟩ : ∃ p, 1 + partsN o = p := ⟨_, rfl⟩
  have hp2 : p ≤ 8051 := by have := hf.le; omega
  have HP := hid hp
  have HPL := hid (show (opB o).length = p by rw [opB_len]; exact hp)
  have HPS := hid (show (⟨(opB o).toArray⟩ : ByteArray).size = p by rw [← hp, ← opB_len]; simp [ByteArray.size])
  obtain ⟨X, hX⟩ : ∃ X : ByteArray, (⟨body.toArray⟩ : ByteArray) = X := ⟨_, rfl⟩
  have HX := hid (show X.size ≤ 65535 by rw [← hX]; simp [ByteArray.size]; omega)
  have HXN := hid (show X.size = n by rw [← hX, ← hn]; simp [ByteArray.size])
  have HXL := hid (show X.data.toList = body by rw [← hX])
  obtain ⟨Y, hY⟩ : ∃ Y : ByteArray, (⟨(opB o).toArray⟩ : ByteArray) = Y := ⟨_, rfl⟩
  have HYN := hid (show Y.size = p by rw [← hY]; exact HPS.out)
  have HYL := hid (show Y.data.toList = opB o by rw [← hY])
  have HST := hid (show ∀ wx v l, Reads wx v (B l) → (convert 22 9 v).run Tryd.prog wx = .ok (.string ⟨l.toArray⟩) wx from fun wx v l h => run_string (P := Tryd.prog) wx 22 9 5 Tryd.underlying22 Tryd.underlying5 Tryd.underlying9 h)
  have HXE := hid hX
  have HYE := hid hY
  have HNB := hid hn
  rw [hn] at hbl ⊢
  obtain ⟨L, hL⟩ : ∃ L, w.heap.size = L := ⟨_, rfl⟩
  clear hcs he hv hf hb hn hp hX hY
  go_enter Tryd.func25, Tryd.ntmps25
  go_upto_region 1 with (show wpList _ _ _ (⟨some 1, Op.box _ _, _, _, _, _⟩ :: _) _ _; go_must (refine wpList_box_blk rfl 56 _ rfl cs rfl L hL ?_); intro w1 hB1 hb1 hs1; have HS1 := hid (show EnW w1 56 L e bv ov ∧ Below L w w1 from ⟨⟨HE.out, by rw [HCS.out]; exact hB1⟩, hb1⟩); clear hB1 hb1)
  -- TEXT1
  have c0 := HS1.out.1.body
  have q := HST.out _ _ _ (HBd.out.later (by rw [hL]; exact HS1.out.2))
  rw [HXE.out] at q
  go_wp2_with fail
  refine (cText (.slice none 0 0) [] 0 rfl X w1 (Reads.nil _) HX.out (by rw [HXN.out]; omega)).mono ?_
  rintro _ w2 ⟨g2, c2, rfl, hg2, hO2, hb2⟩
  rw [HXN.out, HXL.out] at hO2
  rw [HXN.out]
  have HO2 := hid hO2
  have hlt : L < w1.heap.size := HS1.out.1.lt
  have HS2 := hid (show EnW w2 56 L e bv ov ∧ Below L w w2 from ⟨HS1.out.1.later hb2, HS1.out.2.trans (hb2.mono (by omega))⟩)
  have hg2' : L < g2 := by omega
  clear hO2 hb2 hg2 hlt c0 q HS1 hs1
  have HM := HS2.out.1.m1
  have HSr := hid (show Src Tryd.prog 1 22 (.slice (some ⟨L, 1, none⟩) 32 32) 32 (B e.m1) w2 from Src.ofBytes _ Tryd.underlying22 HE.out.h1 (reads_range HE.out.h1 HM))
  clear HM
  go_wp2_with (at_builtin; go_must (refine wpList_append_src _ rfl _ _ 22 22 rfl 5 i0 (.int .u8 0) Tryd.underlying22 hi hz0 hz1 hz2 rfl g2 c2 (0 + 2 + n) _ rfl HO2.out _ 32 (B e.m1) rfl HSr.out (by omega) ?_); intro g3 c3 w3 hG3; have HO3 := hid hG3.own; have HS3 := hid (show EnW w3 56 L e bv ov ∧ Below L w w3 from ⟨HS2.out.1.grown hG3.grown (by intro e; injection e; omega), hG3.below HS2.out.2 (by omega)⟩); have c33 := HS3.out.1.at_; clear hG3)
  have HO3 := hid (show Owns w3 5 g3 c3 (0 + 2 + n + 32) (B ([] ++ le 2 n ++ body ++ e.m1)) by rw [B_append]; exact HO3.out)
  clear HO2 HS2 HSr
  refine (cInt _ ([] ++ le 2 n ++ body ++ e.m1) (0 + 2 + n + 32) (by have := HE.out.h1; have := HNB.out; simp only [List.length_append, le_length, List.length_nil]; omega) e.at_ _ HO3.out.reads (by omega)).mono ?_
  rintro _ w4 ⟨g4, c4, rfl, hg4, hO4, hb4⟩
  have HO4 := hid hO4
  have hlt : L < w3.heap.size := HS3.out.1.lt
  have HS4 := hid (show EnW w4 56 L e bv ov ∧ Below L w w4 from ⟨HS3.out.1.later hb4, HS3.out.2.trans (hb4.mono (by omega))⟩)
  have c34 := HS4.out.1.op
  clear hO4 hb4 hg4 hlt c33 HS3 HO3
  go_wp2_with fail
  refine (opBytes_any ov o _ (HV.out.later (by rw [hL]; exact HS4.out.2)) HF.out).mono ?_
  rintro _ w5 ⟨g5, c5, rfl, hg5, hO5, hb5⟩
  rw [HP.out] at hO5 ⊢
  have hlt : L < w4.heap.size := HS4.out.1.lt
  have HO5 := hid (HO4.out.later hb5)
  have HS5 := hid (show Below L w w5 from HS4.out.2.trans (hb5.mono (by omega)))
  have q := HST.out _ _ _ hO5.reads
  rw [HYE.out] at q
  have hz5 : L ≤ w5.heap.size := by have := hb5.size; omega
  clear hO5 hb5 hg5 hlt c34 HS4 HO4
  go_wp2_with fail
  refine (cText _ ([] ++ le 2 n ++ body ++ e.m1 ++ le 8 (e.at_ % 18446744073709551616).toNat) (0 + 2 + n + 32 + 8) (by have := HE.out.h1; have := HNB.out; simp only [List.length_append, le_length, List.length_nil]; omega) Y _ HO5.out.reads (by rw [HYN.out]; omega) (by rw [HYN.out]; omega)).mono ?_
  rintro _ w6 ⟨g6, c6, rfl, hg6, hO6, hb6⟩
  rw [HYN.out, HYL.out] at hO6
  rw [HYN.out]
  have HO6 := hid hO6
  have HS6 := hid (show Below L w w6 from HS5.out.trans (hb6.mono hz5))
  clear hO6 hb6 q HO5 HS5
  go_wp2_with fail
  go_ret
  have hN : 0 + 2 + n + 32 + 8 + 2 + p = coreN n o := by rw [coreN, ← HP.out]; omega
  refine ⟨g6, c6, by rw [hN]; rfl, by omega, ?_, by first | exact HS6.out | (rw [hL]; exact HS6.out)⟩
  have h := HO6.out
  rw [hN] at h
  have e1 : [] ++ le 2 n ++ body ++ e.m1 ++ le 8 (e.at_ % 18446744073709551616).toNat ++ le 2 p ++ opB o = coreB e body o := by
    rw [coreB, show tx (opB o) = le 2 p ++ opB o by rw [tx, HPL.out], show tx body = le 2 n ++ body by rw [tx, HNB.out]]
    simp only [List.append_assoc, List.nil_append, i8]
  rw [← e1]
  exact h

theorem sCore_any (e : En) (he : e.Ok) (bv ov : Value) (body : List UInt8) (o : List Cp) (w : World) (hb : Reads w bv (B body)) (hbl : body.length ≤ 400) (hv : RC w ov o) (hf : FewS o) :
    Calls Tryd.prog 25 #[.agg (e.cells bv ov).toArray] w fun x w' => ∃ a n c, x = .returned (.slice a n c) ∧ (coreB e body o).length = n ∧ c ≤ maxLen ∧ Reads w' (.slice a n c) (B (coreB e body o)) ∧ Below w.heap.size w w' := by
  refine (sCore_own e he bv ov body o w hb hbl hv hf).mono ?_
  rintro _ w' ⟨g, c, rfl, h1, h2, h3⟩
  exact ⟨some ⟨g, 0, none⟩, _, c, rfl, coreB_len he body o, h2.2.2.1, h2.reads, h3⟩
end Go.Proofs.YtinifnpajkldbaaDoor

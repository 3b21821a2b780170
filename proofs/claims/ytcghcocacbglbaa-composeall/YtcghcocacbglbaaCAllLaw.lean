/- The law ComposeAll: of three, how they are taken together does not count; all at once are the same. -/
import Derived.Test.YtcghcocacbglbaaRAll
namespace Go.Proofs.Ytcghcocacbglbaa
open Go.RowKit
set_option linter.unusedSimpArgs false
set_option linter.unusedVariables false

/-- Three operations, laid into a slice. -/
theorem three_new (w : World) (a b c : Value) : let w' := w.alloc (.cells #[a, b, c] 27); w'.cell? ⟨w.heap.size, 0, none⟩ = some a ∧ w'.cell? ⟨w.heap.size, 1, none⟩ = some b ∧ w'.cell? ⟨w.heap.size, 2, none⟩ = some c ∧ w.heap.size < w'.heap.size ∧ Below w.heap.size w w' := by
  have h := Blk.new w 27 [a, b, c]
  exact ⟨h.cell rfl, h.cell rfl, h.cell rfl, by simp, (Below.refl _ _).alloc (Nat.le_refl _) _⟩

set_option maxRecDepth 100000 in
set_option maxHeartbeats 4000000 in
theorem call_any (n : Int) (aa : Option Addr) (la ca : Nat) (ab : Option Addr) (lb cb : Nat) (ac : Option Addr) (lc cc : Nat) (w : World) (hna : NS w aa la) (hca : la ≤ ca) (hla : la ≤ 9223372036854775807) (hnb : NS w ab lb) (hcb : lb ≤ cb) (hlb : lb ≤ 9223372036854775807) (hnc : NS w ac lc) (hcc : lc ≤ cc) (hlc : lc ≤ 9223372036854775807) :
    Calls Try.prog 5 #[.int .i64 n, .slice aa la ca, .slice ab lb cb, .slice ac lc cc] w fun e w' => e = .returned (.bool true) ∧ Below w.heap.size w w' := by
  have HNa := hid hna
  have HNb := hid hnb
  have HNc := hid hnc
  clear hna hnb hnc
  go_enter Try.func5, Try.ntmps5
  go_wp2_with fail
  refine (known5_any _).mono ?_
  rintro _ w1 ⟨rfl, hb⟩
  have Hb1 := hid hb
  clear hb
  go_upto_region 3 with fail
  go_cut [0] (fun s0 w' => ∃ k : Nat, s0 = .int .i64 (k : Int) ∧ k ≤ 89 ∧ w' = w1)
  case first =>
    go_wp2_with fail
    all_goals
      go_meet
      first
      | exact ⟨0, rfl, by omega, rfl⟩
      | exact ⟨89, rfl, by omega, rfl⟩
      | exact ⟨(n.tmod 90).toNat, by rw [Int.toNat_of_nonneg (by omega)], by omega, rfl⟩
  case rest =>
  obtain ⟨k, rfl, hk, rfl⟩ := hcut
  go_wp2_with fail
  refine (make_ob k (by omega) _ _ _ (HNa.out.later Hb1.out) hca hla).mono ?_
  rintro _ w2 ⟨vx, rfl, ox, ux, ho, hux, hb⟩
  have Hb2 := hid (below_seq Hb1.out hb)
  obtain ⟨adx, cpx, rfl⟩ := ho.rc.form
  have HOx2 := hid ho
  clear hb Hb1 ho
  go_wp2_with fail
  refine (rout_ob HOx2.out).mono ?_
  rintro _ wx ⟨rfl, rfl⟩
  go_wp2_with fail
  refine (make_ob ux (by omega) _ _ _ (HNb.out.later Hb2.out) hcb hlb).mono ?_
  rintro _ w3 ⟨vy, rfl, oy, uy, ho, huy, hb⟩
  have Hb3 := hid (below_seq Hb2.out hb)
  have HOx3 := hid (HOx2.out.later hb)
  obtain ⟨ady, cpy, rfl⟩ := ho.rc.form
  have HOy3 := hid ho
  clear hb Hb2 HOx2 ho
  go_wp2_with fail
  refine (rout_ob HOy3.out).mono ?_
  rintro _ wx ⟨rfl, rfl⟩
  go_wp2_with fail
  refine (make_ob uy (by omega) _ _ _ (HNc.out.later Hb3.out) hcc hlc).mono ?_
  rintro _ w4 ⟨vz, rfl, oz, uz, ho, huz, hb⟩
  have Hb4 := hid (below_seq Hb3.out hb)
  have HOx4 := hid (HOx3.out.later hb)
  have HOy4 := hid (HOy3.out.later hb)
  obtain ⟨adz, cpz, rfl⟩ := ho.rc.form
  have HOz4 := hid ho
  clear hb Hb3 HOx3 HOy3 ho
  go_wp2_with fail
  refine (two_ob HOx4.out HOy4.out).mono ?_
  rintro _ w5 ⟨vp, rfl, ho, hb⟩
  have Hb5 := hid (below_seq Hb4.out hb)
  have HOx5 := hid (HOx4.out.later hb)
  have HOy5 := hid (HOy4.out.later hb)
  have HOz5 := hid (HOz4.out.later hb)
  have HOp5 := hid ho
  clear hb Hb4 HOx4 HOy4 HOz4 ho
  go_wp2_with fail
  refine (two_ob HOp5.out HOz5.out).mono ?_
  rintro _ w6 ⟨vq, rfl, ho, hb⟩
  have Hb6 := hid (below_seq Hb5.out hb)
  have HOx6 := hid (HOx5.out.later hb)
  have HOy6 := hid (HOy5.out.later hb)
  have HOz6 := hid (HOz5.out.later hb)
  have HOp6 := hid (HOp5.out.later hb)
  have HOq6 := hid ho
  clear hb Hb5 HOx5 HOy5 HOz5 HOp5 ho
  go_wp2_with fail
  refine (two_ob HOy6.out HOz6.out).mono ?_
  rintro _ w7 ⟨vr, rfl, ho, hb⟩
  have Hb7 := hid (below_seq Hb6.out hb)
  have HOx7 := hid (HOx6.out.later hb)
  have HOy7 := hid (HOy6.out.later hb)
  have HOz7 := hid (HOz6.out.later hb)
  have HOp7 := hid (HOp6.out.later hb)
  have HOq7 := hid (HOq6.out.later hb)
  have HOr7 := hid ho
  clear hb Hb6 HOx6 HOy6 HOz6 HOp6 HOq6 ho
  go_wp2_with fail
  refine (two_ob HOx7.out HOr7.out).mono ?_
  rintro _ w8 ⟨vs, rfl, ho, hb⟩
  have Hb8 := hid (below_seq Hb7.out hb)
  have HOx8 := hid (HOx7.out.later hb)
  have HOy8 := hid (HOy7.out.later hb)
  have HOz8 := hid (HOz7.out.later hb)
  have HOp8 := hid (HOp7.out.later hb)
  have HOq8 := hid (HOq7.out.later hb)
  have HOr8 := hid (HOr7.out.later hb)
  have HOs8 := hid ho
  clear hb Hb7 HOx7 HOy7 HOz7 HOp7 HOq7 HOr7 ho
  go_wp2_with fail
  have HE := hid (two_assoc HOx8.out.good HOy8.out.good HOz8.out.good (by rw [HOy8.out.ins, HOx8.out.outs]) (by rw [HOz8.out.ins, HOy8.out.outs]))
  have K3 := hid (three_new w8 (.slice adx ox.length cpx) (.slice ady oy.length cpy) (.slice adz oz.length cpz))
  refine (all3 _ k (by omega) (K3.out.2.2.2.1) K3.out.1 K3.out.2.1 K3.out.2.2.1 (HOx8.out.later K3.out.2.2.2.2) (HOy8.out.later K3.out.2.2.2.2) (HOz8.out.later K3.out.2.2.2.2)).mono ?_
  rintro _ w9 ⟨vt, rfl, ho, hb0⟩
  have hb := below_seq K3.out.2.2.2.2 hb0
  clear hb0 K3
  have Hb9 := hid (below_seq Hb8.out hb)
  have HOx9 := hid (HOx8.out.later hb)
  have HOy9 := hid (HOy8.out.later hb)
  have HOz9 := hid (HOz8.out.later hb)
  have HOp9 := hid (HOp8.out.later hb)
  have HOq9 := hid (HOq8.out.later hb)
  have HOr9 := hid (HOr8.out.later hb)
  have HOs9 := hid (HOs8.out.later hb)
  have HOt9 := hid ho
  clear hb Hb8 HOx8 HOy8 HOz8 HOp8 HOq8 HOr8 HOs8 ho
  go_wp2_with fail
  have K3 := hid (three_new w9 (.slice adx ox.length cpx) (.slice ady oy.length cpy) (.slice adz oz.length cpz))
  refine (rall3 _ k (by omega) K3.out.1 K3.out.2.1 K3.out.2.2.1 (HOx9.out.later K3.out.2.2.2.2) (HOy9.out.later K3.out.2.2.2.2) (HOz9.out.later K3.out.2.2.2.2)).mono ?_
  rintro _ w10 ⟨vv, rfl, ho, hb0⟩
  have hb := below_seq K3.out.2.2.2.2 hb0
  clear hb0 K3
  have Hb10 := hid (below_seq Hb9.out hb)
  have HOx10 := hid (HOx9.out.later hb)
  have HOy10 := hid (HOy9.out.later hb)
  have HOz10 := hid (HOz9.out.later hb)
  have HOp10 := hid (HOp9.out.later hb)
  have HOq10 := hid (HOq9.out.later hb)
  have HOr10 := hid (HOr9.out.later hb)
  have HOs10 := hid (HOs9.out.later hb)
  have HOt10 := hid (HOt9.out.later hb)
  have HOv10 := hid ho
  clear hb Hb9 HOx9 HOy9 HOz9 HOp9 HOq9 HOr9 HOs9 HOt9 ho
  go_wp2_with fail
  refine (rsame_ob HOq10.out HOs10.out HE.out).mono ?_
  rintro _ w11 ⟨rfl, hb⟩
  have Hb11 := hid (below_seq Hb10.out hb)
  have HOx11 := hid (HOx10.out.later hb)
  have HOy11 := hid (HOy10.out.later hb)
  have HOz11 := hid (HOz10.out.later hb)
  have HOp11 := hid (HOp10.out.later hb)
  have HOq11 := hid (HOq10.out.later hb)
  have HOr11 := hid (HOr10.out.later hb)
  have HOs11 := hid (HOs10.out.later hb)
  have HOt11 := hid (HOt10.out.later hb)
  have HOv11 := hid (HOv10.out.later hb)
  clear hb Hb10 HOx10 HOy10 HOz10 HOp10 HOq10 HOr10 HOs10 HOt10 HOv10
  go_wp2_with fail
  refine (rsame_ob HOq11.out HOt11.out HE.out).mono ?_
  rintro _ w12 ⟨rfl, hb⟩
  have Hb12 := hid (below_seq Hb11.out hb)
  have HOx12 := hid (HOx11.out.later hb)
  have HOy12 := hid (HOy11.out.later hb)
  have HOz12 := hid (HOz11.out.later hb)
  have HOp12 := hid (HOp11.out.later hb)
  have HOq12 := hid (HOq11.out.later hb)
  have HOr12 := hid (HOr11.out.later hb)
  have HOs12 := hid (HOs11.out.later hb)
  have HOt12 := hid (HOt11.out.later hb)
  have HOv12 := hid (HOv11.out.later hb)
  clear hb Hb11 HOx11 HOy11 HOz11 HOp11 HOq11 HOr11 HOs11 HOt11 HOv11
  go_wp2_with fail
  refine (rsame_ob HOt12.out HOv12.out HE.out.symm).mono ?_
  rintro _ w13 ⟨rfl, hb⟩
  have Hb13 := hid (below_seq Hb12.out hb)
  have HOx13 := hid (HOx12.out.later hb)
  have HOy13 := hid (HOy12.out.later hb)
  have HOz13 := hid (HOz12.out.later hb)
  have HOp13 := hid (HOp12.out.later hb)
  have HOq13 := hid (HOq12.out.later hb)
  have HOr13 := hid (HOr12.out.later hb)
  have HOs13 := hid (HOs12.out.later hb)
  have HOt13 := hid (HOt12.out.later hb)
  have HOv13 := hid (HOv12.out.later hb)
  clear hb Hb12 HOx12 HOy12 HOz12 HOp12 HOq12 HOr12 HOs12 HOt12 HOv12
  go_wp2_with fail
  go_ret
  exact ⟨rfl, Hb13.out⟩

theorem call_row (n : Int) (a1 : Option Addr) (len1 cap1 : Nat) (z1 : List Int) (a2 : Option Addr) (len2 cap2 : Nat) (z2 : List Int) (a3 : Option Addr) (len3 cap3 : Nat) (z3 : List Int) (w : World) (w1 : IsRow .i64 w a1 len1 cap1 z1) (w2 : IsRow .i64 w a2 len2 cap2 z2) (w3 : IsRow .i64 w a3 len3 cap3 z3) :
    Calls Try.prog 5 #[.int .i64 n, .slice a1 len1 cap1, .slice a2 len2 cap2, .slice a3 len3 cap3] w fun e w' => e = .returned (.bool true) ∧ Below w.heap.size w w' :=
  call_any n a1 len1 cap1 a2 len2 cap2 a3 len3 cap3 w (ns_of_row w1) (cap_of_row w1) (len_of_row w1) (ns_of_row w2) (cap_of_row w2) (len_of_row w2) (ns_of_row w3) (cap_of_row w3) (len_of_row w3)
end Go.Proofs.Ytcghcocacbglbaa

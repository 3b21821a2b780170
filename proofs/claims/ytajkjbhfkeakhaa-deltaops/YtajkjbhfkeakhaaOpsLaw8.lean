/- The law DeltaOps: valid operations are written as the document says, and read as they were. -/
import Derived.Test.YtajkjbhfkeakhaaKnown8
import Derived.Test.YtajkjbhfkeakhaaMade8
import Derived.Test.YtajkjbhfkeakhaaRBytes
import Derived.Test.YtajkjbhfkeakhaaDBytes2
import Derived.Test.YtajkjbhfkeakhaaDRead2
import Derived.Test.YtajkjbhfkeakhaaRRead2
import Derived.Test.YtajkjbhfkeakhaaRefSame
import Derived.Test.YtajkjbhfkeakhaaGood8
namespace Go.Proofs.Ytajkjbhfkeakhaa
open Go.RowKit
set_option linter.unusedSimpArgs false
set_option linter.unusedVariables false

theorem same_self (o : List Cp) : sameL o o = true := (sameL_iff o o).2 rfl

set_option maxRecDepth 100000 in
set_option maxHeartbeats 8000000 in
theorem ops8_any (a : Int) (ao : Option Addr) (len cap : Nat) (v : Value) (raw : List Cp) (w : World) (hns : NS w ao len) (hcap : len ≤ cap) (hlen : len ≤ 9223372036854775807) (hv : InOp w v raw) :
    Calls Try.prog 4 #[.int .i64 a, .slice ao len cap, v] w fun e w' => e = .returned (.bool true) ∧ Below w.heap.size w w' := by
  have HNS := hid hns
  have HV := hid hv
  clear hns hv
  go_enter Try.func4, Try.ntmps4
  go_wp2_with fail
  refine (known8_any _).mono ?_
  rintro _ w1 ⟨rfl, hb⟩
  have Hb1 := hid hb
  clear hb
  go_wp2_with fail
  refine (few4_any v raw _ (HV.out.later Hb1.out)).mono ?_
  rintro _ wx ⟨rfl, hwx⟩
  rw [hwx]
  clear hwx
  by_cases hfw : few4S raw = true
  case neg =>
    rw [show few4S raw = false by simpa using hfw]
    go_wp2_with fail
    go_ret
    exact ⟨rfl, Hb1.out⟩
  rw [hfw]
  have HF := hid ((few4_iff raw).1 hfw)
  clear hfw
  go_wp2_with fail
  refine (within8_any a 100 (by omega) (by omega) _).mono ?_
  rintro _ wx ⟨rfl, hwx⟩
  obtain ⟨r, hr⟩ : ∃ r : Nat, a % 100 = r := ⟨(a % 100).toNat, by omega⟩
  have hr100 : r ≤ 120 := by omega
  rw [hr, hwx]
  clear hr hwx
  go_wp2_with fail
  refine (Make_any r hr100 ao len cap _ (HNS.out.later Hb1.out) hcap hlen).mono ?_
  rintro _ w2 ⟨v2, rfl, o, hH2, hb2, hM⟩
  have HP := hid hM.plain
  have HH2 := hid hH2
  have Hb2 := hid (below_seq Hb1.out hb2)
  clear hH2 hb2 hM hr100 Hb1
  go_wp2_with fail
  refine (opBytes_any v2 o _ HH2.out.reads HP.out.few).mono ?_
  rintro _ w3 ⟨g3, c3, rfl, hg3, hO3, hb3⟩
  have HO3 := hid hO3.reads
  have HH3 := hid (HH2.out.later hb3)
  have Hb3 := hid (below_seq Hb2.out hb3)
  clear hO3 hb3 hg3 HH2 Hb2
  go_wp2_with fail
  refine (dOpParse_any _ (opB o) _ HO3.out (by have := opB_size HP.out.few; omega)).mono ?_
  rintro _ w4 ⟨v4, rfl, hH4, hb4⟩
  rw [HP.out.read] at hH4 ⊢
  have HX4 := hid hH4
  have HH4 := hid (HH3.out.later hb4)
  have Hb4 := hid (below_seq Hb3.out hb4)
  clear hH4 hb4 HO3 HH3 Hb3
  go_wp2_with fail
  refine (opBytes_any v raw _ (HV.out.later Hb4.out).1 HF.out).mono ?_
  rintro _ w5 ⟨g5, c5, rfl, hg5, hO5, hb5⟩
  have HO5 := hid hO5.reads
  have HX5 := hid (HX4.out.later hb5)
  have HH5 := hid (HH4.out.later hb5)
  have Hb5 := hid (below_seq Hb4.out hb5)
  clear hO5 hb5 hg5 HX4 HH4 Hb4
  go_wp2_with fail
  refine (dOpParse_any _ (opB raw) _ HO5.out (by have := opB_size HF.out; omega)).mono ?_
  rintro _ w6 ⟨v6, rfl, hH6, hb6⟩
  have HY6 := hid hH6
  have HX6 := hid (HX5.out.later hb6)
  have HH6 := hid (HH5.out.later hb6)
  have Hb6 := hid (below_seq Hb5.out hb6)
  clear hH6 hb6 HX5 HH5 Hb5 HO5
  obtain ⟨re, hre⟩ : ∃ e, (opP (opB raw)).2 = e := ⟨_, rfl⟩
  obtain ⟨ro, hro⟩ : ∃ o, (opP (opB raw)).1 = o := ⟨_, rfl⟩
  have HRL := hid (show ro.length ≤ 40 by rw [← hro]; exact (opP_size _).2)
  rw [hro] at HY6
  rw [hre]
  have HRE := hid hre
  have HRO := hid hro
  clear hre hro
  go_wp2_with fail
  refine (rOpBytes_any v raw _ (HV.out.later Hb6.out).1 HF.out).mono ?_
  rintro _ w7 ⟨g7, c7, rfl, hg7, hO7, hb7⟩
  have HO7 := hid hO7.reads
  have HY7 := hid (HY6.out.later hb7)
  have HX7 := hid (HX6.out.later hb7)
  have HH7 := hid (HH6.out.later hb7)
  have Hb7 := hid (below_seq Hb6.out hb7)
  clear hO7 hb7 hg7 HX6 HH6 HY6 Hb6
  go_wp2_with fail
  refine (rOpParse_any _ (opB raw) _ HO7.out (by have := opB_size HF.out; omega)).mono ?_
  rintro _ w8 ⟨v8, rfl, hH8, hb8⟩
  rw [HRO.out] at hH8
  rw [HRE.out]
  have HZ8 := hid hH8
  have HY8 := hid (HY7.out.later hb8)
  have HX8 := hid (HX7.out.later hb8)
  have HH8 := hid (HH7.out.later hb8)
  have Hb8 := hid (below_seq Hb7.out hb8)
  clear hH8 hb8 HX7 HH7 HY7 Hb7 HO7
  go_wp2_with fail
  refine (refSame_any v4 v2 o o _ HX8.out.reads HH8.out.reads (by have := HP.out.len; omega) (by have := HP.out.len; omega)).mono ?_
  rintro _ w9 ⟨rfl, hb9⟩
  rw [same_self]
  have HZ9 := hid (HZ8.out.later hb9)
  have HY9 := hid (HY8.out.later hb9)
  have Hb9 := hid (below_seq Hb8.out hb9)
  clear hb9 HZ8 HY8 Hb8 HX8 HH8
  go_wp2_with fail
  refine (refSame_any v6 v8 ro ro _ HY9.out.reads HZ9.out.reads (by have := HRL.out; omega) (by have := HRL.out; omega)).mono ?_
  rintro _ w10 ⟨rfl, hb10⟩
  rw [same_self]
  have Hb10 := hid (below_seq Hb9.out hb10)
  clear hb10
  go_wp2_with fail
  go_ret
  exact ⟨rfl, Hb10.out⟩

theorem ops8_row (w : World) (a : Int) (wa : (Lit.int .i64 a).wf = true) (ao : Option Addr) (len cap : Nat) (zs : List Int) (h : IsRow .i64 w ao len cap zs) (v : Value) (raw : List Cp) (hv : InOp w v raw) (_u : World) :
    Calls Try.prog 4 #[.int .i64 a, .slice ao len cap, v] w fun e w' => e = .returned (.bool true) ∧ Below w.heap.size w w' :=
  ops8_any a ao len cap v raw w (ns_of_row h) (row_cap h) (len_of_row h) hv
end Go.Proofs.Ytajkjbhfkeakhaa

/- The law DiskCuts: the first bytes alone are kept, for good. -/
import Derived.Test.YtekcoeckgolhcaaDBits
import Derived.Test.YtekcoeckgolhcaaArgB
import Derived.Test.YtekcoeckgolhcaaCutB
import Derived.Test.YtekcoeckgolhcaaWithin10
import Derived.BigQuiet
namespace Go.Proofs.Ytekcoeckgolhcaa
open Go.RowKit
set_option linter.unusedSimpArgs false
set_option linter.unusedVariables false

set_option maxRecDepth 100000 in
set_option maxHeartbeats 4000000 in
theorem dcuts_any (b : List UInt8) (ao : Option Addr) (n cap : Nat) (hn : b.length = n) (hcap : n ≤ cap) (hc : cap ≤ maxLen) (a p : Int) (w : World) (hb : Reads w (.slice ao n cap) (B b)) :
    Calls Try.prog 6 #[.slice ao n cap, .int .i64 a, .int .i64 p] w fun e w' => e = .returned (.bool true) ∧ Below w.heap.size w w' := by
  obtain ⟨L, hL⟩ : ∃ L, w.heap.size = L := ⟨_, rfl⟩
  have HL := hid hL
  rw [hL]
  clear hL
  have HN := hid hn
  have HR := hid (show ∀ wx, Below L w wx → Reads wx (.slice ao n cap) (B b) from fun wx h => hb.later (by rw [HL.out]; exact h))
  have hn2 : n ≤ 9223372036854775807 := by unfold maxLen at hc; omega
  clear hn hb
  go_enter Try.func6, Try.ntmps6
  go_wp2_with fail
  refine (known10_any _).mono ?_
  rintro _ w1 ⟨rfl, hb1⟩
  have Hb1 := hid (show Below L w w1 by rw [← HL.out]; exact hb1)
  have HL1 := hid (show L ≤ w1.heap.size by rw [← HL.out]; exact hb1.size)
  clear hb1
  by_cases h100 : (100 : Int) < (n : Int)
  · go_wp2_with fail
    go_ret
    exact ⟨rfl, Hb1.out⟩
  go_wp2_with fail
  refine (kNew_at 300 Hb1.out HL1.out).mono ?_
  rintro _ w2 ⟨d, r, rfl, hK, hdd, hrr, hnd⟩
  have HK := hid hK
  clear hK
  go_wp2_with fail
  refine (kAppend_at HK.out _ b (HR.out _ HK.out.bel) (by rw [HN.out]; omega) 0 ⟨b, 0, 300, 0, false⟩ (fresh_app 300 rfl b (by rw [HN.out]; omega))).mono ?_
  rintro _ w3 ⟨rfl, hK, _⟩
  have HK3 := hid hK
  clear hK HK
  go_wp2_with fail
  refine (within10_any a ((n : Int) + 1) (by omega) (by omega) _).mono ?_
  rintro _ wx ⟨rfl, hwx⟩
  rw [hwx]
  clear hwx wx
  obtain ⟨t, ht⟩ : ∃ t : Nat, a % ((n : Int) + 1) = (t : Int) := ⟨(a % ((n : Int) + 1)).toNat, by have := Int.emod_nonneg a (b := (n : Int) + 1) (by omega); omega⟩
  have htn : t ≤ n := by have := Int.emod_lt_of_pos a (b := (n : Int) + 1) (by omega); omega
  rw [ht]
  clear ht
  have HT := hid (show (b.take t).length = t by rw [List.length_take]; have := HN.out; omega)
  have HC1 := hid (show (⟨b, 0, 300, 0, false⟩ : Dk).cut (t : Int) = (0, ⟨b.take t, t, 300, 0, false⟩) by
    rw [Dk.cut, if_neg (by simp), if_neg (by show ¬ ((t : Int) < 0 ∨ (b.length : Int) < (t : Int)); have := HN.out; omega), if_neg (by simp)]
    rfl)
  have HC2 := hid (show (⟨b.take t, t, 300, 0, false⟩ : Dk).cut ((t : Int) + 1) = (1, ⟨b.take t, t, 300, 0, false⟩) by
    rw [Dk.cut, if_neg (by simp), if_pos (Or.inr (by show ((b.take t).length : Int) < (t : Int) + 1; have := HT.out; omega))])
  have HC3 := hid (show (⟨b.take t, t, 300, 0, false⟩ : Dk).cut (-1) = (1, ⟨b.take t, t, 300, 0, false⟩) by
    rw [Dk.cut, if_neg (by simp), if_pos (Or.inl (by omega))])
  go_wp2_with fail
  refine (kCut_at HK3.out (t : Int) _ _ HC1.out).mono ?_
  rintro _ w4 ⟨rfl, hK, _⟩
  have HK4 := hid hK
  clear hK HK3
  go_wp2_with fail
  refine (kCut_at HK4.out ((t : Int) + 1) _ _ HC2.out).mono ?_
  rintro _ w5 ⟨rfl, hK, _⟩
  have HK5 := hid hK
  clear hK HK4
  go_wp2_with fail
  refine (kCut_at HK5.out (-1) _ _ HC3.out).mono ?_
  rintro _ w6 ⟨rfl, hK, _⟩
  have HK6 := hid hK
  clear hK HK5
  go_wp2_with fail
  refine (kCrash_at HK6.out p _ (crash_again b t (by rw [HN.out]; exact htn) 300 p)).mono ?_
  rintro _ w7 ⟨rfl, hK, _⟩
  have HK7 := hid hK
  clear hK HK6
  go_wp2_with fail
  refine (kRead_at HK7.out (b.take t) 0 t rfl HT.out).mono ?_
  rintro _ w8 ⟨yo, yc, rfl, hH, hK, hb⟩
  obtain ⟨po, pc, hpc, hcut, hrd⟩ := cut_low ao n cap t b HN.out htn hcap hc
  have HK8 := hid hK
  have s2 := strQ hH.reads
  have s3 := strQ (hrd _ (HR.out _ hK.bel))
  have HSY := hid (fun k => (kSynced_any d r _ (w8.drewN k) (hK.dk.later (belowDrewN0 _ k))))
  generalize (⟨(b.take t).toArray⟩ : ByteArray) = X at *
  clear hK hH hb HK7 hrd
  go_wp2_with fail
  go_quiet (refine Calls.quiet_of_same (HSY.out _))
  go_wp2_with fail
  go_ret
  exact ⟨rfl, (HK8.out.later (belowDrewN0 w8 nq)).bel⟩
theorem dcuts_row (W : World) (a : Option Addr) (len cap : Nat) (zs : List Int) (h : IsRow .u8 W a len cap zs) (p : Int) (wp_ : (Lit.int .i64 p).wf = true) (q : Int) (wq : (Lit.int .i64 q).wf = true) (_u : World) :
    Calls Try.prog 6 #[.slice a len cap, .int .i64 p, .int .i64 q] W fun e w' => e = .returned (.bool true) ∧ Below W.heap.size W w' := by
  obtain ⟨l, h1, h2, h3, h4⟩ := bytes_arg h
  exact dcuts_any l a len cap h1 h2 h3 p q W h4
end Go.Proofs.Ytekcoeckgolhcaa

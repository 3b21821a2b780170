/- The law DiskTwice: a second crash changes nothing. -/
import Derived.Test.YtekcoeckgolhcabKAt
import Derived.Test.YtekcoeckgolhcabArgB
import Derived.Test.YtekcoeckgolhcabCutB
import Derived.BigQuiet
namespace Go.Proofs.Ytekcoeckgolhcab
open Go.RowKit
set_option linter.unusedSimpArgs false
set_option linter.unusedVariables false

theorem crash_again (b : List UInt8) (t : Nat) (ht : t ≤ b.length) (z : Nat) (q : Int) : (⟨b.take t, t, z, 0, false⟩ : Dk).crash q = ⟨b.take t, t, z, 0, false⟩ := by
  have h1 : (b.take t).length = t := by rw [List.length_take]; omega
  have h2 : (⟨b.take t, t, z, 0, false⟩ : Dk).stay q = t := by
    show t + (q % (((b.take t).length - t + 1 : Nat) : Int)).toNat = t
    rw [h1, Nat.sub_self, Nat.zero_add, show ((1 : Nat) : Int) = 1 from rfl, Int.emod_one]
    rfl
  show (⟨(b.take t).take _, _, _, _, _⟩ : Dk) = _
  rw [h2, List.take_of_length_le (by omega)]
theorem fresh_app (z : Nat) (hz : (Dk.new z).size = z) (l : List UInt8) (hl : l.length ≤ z) : (Dk.new z).app l = (0, ⟨l, 0, z, 0, false⟩) := by
  rw [Dk.app, if_neg (by simp [Dk.new]), if_neg (by show ¬ (Dk.new z).size - 0 < l.length; omega), if_neg (by simp [Dk.new])]
  show (0, (⟨l, 0, (Dk.new z).size, 0, false⟩ : Dk)) = _
  rw [hz]
theorem belowDrewN0 (w : World) (k : Nat) : Below w.heap.size w (w.drewN k) := ⟨rfl, rfl, rfl, by simp, fun k _ => by simp⟩
theorem strQ {w : World} {v : Value} {l : List UInt8} (h : Reads w v (B l)) (k : Nat) : (convert 22 9 v).run Try.prog (w.drewN k) = .ok (.string ⟨l.toArray⟩) (w.drewN k) :=
  run_strB (h.later (belowDrewN0 w k))

set_option maxRecDepth 100000 in
set_option maxHeartbeats 4000000 in
theorem dtwice_any (b : List UInt8) (ao : Option Addr) (n cap : Nat) (hn : b.length = n) (hcap : n ≤ cap) (hc : cap ≤ maxLen) (p q : Int) (w : World) (hb : Reads w (.slice ao n cap) (B b)) :
    Calls Try.prog 3 #[.slice ao n cap, .int .i64 p, .int .i64 q] w fun e w' => e = .returned (.bool true) ∧ Below w.heap.size w w' := by
  obtain ⟨L, hL⟩ : ∃ L, w.heap.size = L := ⟨_, rfl⟩
  have HL := hid hL
  rw [hL]
  clear hL
  have HN := hid hn
  have HR := hid (show ∀ wx, Below L w wx → Reads wx (.slice ao n cap) (B b) from fun wx h => hb.later (by rw [HL.out]; exact h))
  have hn2 : n ≤ 9223372036854775807 := by unfold maxLen at hc; omega
  clear hn hb
  go_enter Try.func3, Try.ntmps3
  go_wp2_with fail
  refine (known10_any _).mono ?_
  rintro _ w1 ⟨rfl, hb1⟩
  have Hb1 := hid (show Below L w w1 by rw [← HL.out]; exact hb1)
  have HL1 := hid (show L ≤ w1.heap.size by rw [← HL.out]; exact hb1.size)
  clear hb1
  by_cases h100 : (100 : Int) < (n : Int)
  · go_wp2_with fail
    go_ret
    exact ⟨rfl, Hb1.out⟩
  go_wp2_with fail
  refine (kNew_at 300 Hb1.out HL1.out).mono ?_
  rintro _ w2 ⟨d, r, rfl, hK, hdd, hrr, hnd⟩
  have HK := hid hK
  clear hK
  go_wp2_with fail
  refine (kAppend_at HK.out _ b (HR.out _ HK.out.bel) (by rw [HN.out]; omega) 0 ⟨b, 0, 300, 0, false⟩ (fresh_app 300 rfl b (by rw [HN.out]; omega))).mono ?_
  rintro _ w3 ⟨rfl, hK, _⟩
  have HK3 := hid hK
  clear hK HK
  obtain ⟨t, ht⟩ : ∃ t, (⟨b, 0, 300, 0, false⟩ : Dk).stay p = t := ⟨_, rfl⟩
  have htn : t ≤ n := by rw [← HN.out, ← ht]; exact (Dk.stay_le _ HK3.out.dk.ok p).1
  have HS := hid (show (⟨b, 0, 300, 0, false⟩ : Dk).crash p = ⟨b.take t, t, 300, 0, false⟩ by rw [← ht]; rfl)
  have HT := hid (show (b.take t).length = t by rw [List.length_take]; have := HN.out; omega)
  clear ht
  go_wp2_with fail
  refine (kCrash_at HK3.out p _ HS.out).mono ?_
  rintro _ w4 ⟨rfl, hK, _⟩
  have HK4 := hid hK
  clear hK HK3 HS
  go_wp2_with fail
  refine (kRead_at HK4.out (b.take t) 0 t rfl HT.out).mono ?_
  rintro _ w5 ⟨xo, xc, rfl, hH, hK, hb⟩
  have HK5 := hid hK
  have HX5 := hid hH
  have HLT := hid HK4.out.lt
  clear hK hH hb HK4
  go_wp2_with fail
  refine (kCrash_at HK5.out q _ (crash_again b t (by rw [HN.out]; exact htn) 300 q)).mono ?_
  rintro _ w6 ⟨rfl, hK, ho⟩
  have HK6 := hid hK
  have HX6 := hid (HX5.out.only ho HLT.out.1 HLT.out.2)
  clear hK ho HK5 HX5 HLT
  go_wp2_with fail
  refine (kRead_at HK6.out (b.take t) 0 t rfl HT.out).mono ?_
  rintro _ w7 ⟨yo, yc, rfl, hH, hK, hb⟩
  obtain ⟨po, pc, hpc, hcut, hrd⟩ := cut_low ao n cap t b HN.out htn hcap hc
  have HK7 := hid hK
  have s1 := strQ (HX6.out.reads.later hb)
  have s2 := strQ hH.reads
  have s3 := strQ (hrd _ (HR.out _ hK.bel))
  have HSY := hid (fun k => (kSynced_any d r _ (w7.drewN k) (hK.dk.later (belowDrewN0 _ k))))
  generalize (⟨(b.take t).toArray⟩ : ByteArray) = X at *
  clear hK hH hb HK6 HX6 hrd
  go_wp2_with fail
  go_quiet (refine Calls.quiet_of_same (HSY.out _))
  go_wp2_with fail
  go_ret
  exact ⟨rfl, (HK7.out.later (belowDrewN0 w7 nq)).bel⟩
theorem dtwice_row (W : World) (a : Option Addr) (len cap : Nat) (zs : List Int) (h : IsRow .u8 W a len cap zs) (p : Int) (wp_ : (Lit.int .i64 p).wf = true) (q : Int) (wq : (Lit.int .i64 q).wf = true) (_u : World) :
    Calls Try.prog 3 #[.slice a len cap, .int .i64 p, .int .i64 q] W fun e w' => e = .returned (.bool true) ∧ Below W.heap.size W w' := by
  obtain ⟨l, h1, h2, h3, h4⟩ := bytes_arg h
  exact dtwice_any l a len cap h1 h2 h3 p q W h4
end Go.Proofs.Ytekcoeckgolhcab

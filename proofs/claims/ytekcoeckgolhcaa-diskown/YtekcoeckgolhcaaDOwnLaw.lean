/- The law DiskOwn: what was appended, and what is told, is nobody else's. -/
import Derived.Test.YtekcoeckgolhcaaDBits
import Derived.Test.YtekcoeckgolhcaaArgB
import Derived.Test.YtekcoeckgolhcaaAppAny
import Derived.BigQuiet
namespace Go.Proofs.Ytekcoeckgolhcaa
open Go.RowKit
set_option linter.unusedSimpArgs false
set_option linter.unusedVariables false

set_option maxRecDepth 100000 in
set_option maxHeartbeats 4000000 in
theorem down_any (b : List UInt8) (ao : Option Addr) (n cap : Nat) (hn : b.length = n) (hcap : n ≤ cap) (hc : cap ≤ maxLen) (w : World) (hb : Reads w (.slice ao n cap) (B b)) :
    Calls Try.prog 8 #[.slice ao n cap] w fun e w' => e = .returned (.bool true) ∧ Below w.heap.size w w' := by
  obtain ⟨i0, hi, hz0, hz1, hz2⟩ := info_parts Try.infoByte
  obtain ⟨L, hL⟩ : ∃ L, w.heap.size = L := ⟨_, rfl⟩
  have HL := hid hL
  rw [hL]
  clear hL
  have HN := hid hn
  have HR := hid (show ∀ wx, Below L w wx → Reads wx (.slice ao n cap) (B b) from fun wx h => hb.later (by rw [HL.out]; exact h))
  have hn2 : n ≤ 9223372036854775807 := by unfold maxLen at hc; omega
  clear hb
  go_enter Try.func8, Try.ntmps8
  go_wp2_with fail
  refine (known10_any _).mono ?_
  rintro _ w1 ⟨rfl, hb1⟩
  have Hb1 := hid (show Below L w w1 by rw [← HL.out]; exact hb1)
  have HL1 := hid (show L ≤ w1.heap.size by rw [← HL.out]; exact hb1.size)
  clear hb1
  by_cases h0 : n = 0
  · subst h0
    go_wp2_with fail
    go_ret
    exact ⟨rfl, Hb1.out⟩
  have hne : ((n : Int) == 0) = false := beq_eq_false_iff_ne.2 (by omega)
  by_cases h100 : (100 : Int) < (n : Int)
  · go_wp2_with fail
    go_ret
    exact ⟨rfl, Hb1.out⟩
  obtain ⟨b0, bs, rfl⟩ : ∃ b0 bs, b = b0 :: bs := by
    cases b with
    | nil => simp at hn; omega
    | cons x y => exact ⟨x, y, rfl⟩
  clear hn
  go_wp2_with fail
  refine (kNew_at 300 Hb1.out HL1.out).mono ?_
  rintro _ w2 ⟨d, r, rfl, hK, hdd, hrr, hnd⟩
  have HK := hid hK
  clear hK
  go_wp2_with fail
  refine (kNew_at 300 HK.out.bel HK.out.le).mono ?_
  rintro _ w3 ⟨d2, r2, rfl, hK, hdd2, hrr2, hnd2⟩
  have HO := hid hK
  clear hK
  have HKa := hid (HK.out.later hnd2)
  have HLT := hid HK.out.lt
  have HL2 := hid HO.out.lt
  have HNE := hid (show d2 ≠ d ∧ d2 ≠ r ∧ r2 ≠ d ∧ r2 ≠ r by have := HLT.out; omega)
  have HZ := hid (show w2.heap.size ≤ w3.heap.size from hnd2.size)
  have HKb := hid (HKa.out.alloc (.cells #[] 5))
  have HOb := hid (HO.out.alloc (.cells #[] 5))
  have HKc := hid HKa.out
  have HOc := hid HO.out
  clear HK HO hnd hnd2 hdd hrr hdd2 hrr2 HKa
  go_wp2_with (at_builtin; go_must (refine wpList_append_any rfl _ _ 31 31 rfl 5 i0 (.int .u8 0) Try.underlying31 hi hz0 hz1 hz2 rfl w3.heap.size _ 0 [] rfl (.inr ⟨w3.heap.size, 0, rfl, Nat.le_refl _, Owns.empty _ _⟩) (by simp) _ n (B (b0 :: bs)) rfl (Src.ofBytes _ Try.underlying31 HN.out (HR.out _ HKb.out.bel)) (by omega) ?_); go_must (intro v4 w4 hH4 hb4; rw [List.nil_append, Nat.zero_add] at hH4; obtain ⟨a4, k4, rfl⟩ := hH4.form; have HH4 := hid hH4; have Hb4 := hid (((Below.refl w3.heap.size w3).alloc (Nat.le_refl _) (.cells #[] 5)).trans hb4); clear hH4 hb4))
  have HK4 := hid (HKc.out.later Hb4.out)
  have HO4 := hid (HOc.out.later Hb4.out)
  clear HKb HOb HKc HOc Hb4
  go_wp2_with fail
  refine (kAppend_at HK4.out _ (b0 :: bs) HH4.out.reads (by rw [HN.out]; omega) 0 ⟨b0 :: bs, 0, 300, 0, false⟩ (fresh_app 300 rfl _ (by rw [HN.out]; omega))).mono ?_
  rintro _ w5 ⟨rfl, hK, ho⟩
  have HK5 := hid hK
  have HO5 := hid (HO4.out.beside hK ho HNE.out)
  obtain ⟨g, rfl, hg, hk4, hOw, hcl⟩ := Has.cellB (HH4.out.only ho (by have := HLT.out; have := HZ.out; omega) (by have := HLT.out; have := HZ.out; omega)) (by omega)
  have c0 := hcl 0 b0 rfl
  have f0 := hOw.frozen 0
  have HG := hid (show g ≠ d ∧ g ≠ r ∧ g ≠ d2 ∧ g ≠ r2 ∧ L ≤ g by have := HLT.out; have := HZ.out; have := HL2.out; have := HO5.out.d; omega)
  have HKS := hid (fun v => HK5.out.setOther HG.out.2.2.2.2 HG.out.1 HG.out.2.1 0 v)
  have HOS := hid (fun v => HO5.out.setOther HG.out.2.2.2.2 HG.out.2.2.1 HG.out.2.2.2.1 0 v)
  have HSZ := hid (show d < w5.heap.size ∧ r < w5.heap.size ∧ d2 < w5.heap.size ∧ r2 < w5.heap.size from ⟨HK5.out.lt.1, HK5.out.lt.2, HO5.out.lt.1, HO5.out.lt.2⟩)
  have hn1 : 0 < n := by omega
  clear hK ho hOw hcl HK4 HO4 HH4 HK5 HO5
  go_wp2_with fail
  refine (kRead_at (HKS.out _) (b0 :: bs) 0 n rfl HN.out).mono ?_
  rintro _ w6 ⟨xo, xc, rfl, hH, hK, hb⟩
  have HK6 := hid hK
  have HO6 := hid ((HOS.out _).later hb)
  have hz : w5.heap.size ≤ w6.heap.size := by have := hb.size; simpa [World.setCell] using this
  obtain ⟨g2, rfl, hg2, hk2, hOw, hcl⟩ := Has.cellB hH (by omega)
  have hg2' : w5.heap.size ≤ g2 := by simpa [World.setCell] using hg2
  have c1 := hcl 0 b0 rfl
  have f1 := hOw.frozen 0
  have HG2 := hid (show g2 ≠ d ∧ g2 ≠ r ∧ g2 ≠ d2 ∧ g2 ≠ r2 ∧ L ≤ g2 by have := HSZ.out; have := HK6.out.d; omega)
  have HKS2 := hid (fun v => HK6.out.setOther HG2.out.2.2.2.2 HG2.out.1 HG2.out.2.1 0 v)
  have HOS2 := hid (fun v => HO6.out.setOther HG2.out.2.2.2.2 HG2.out.2.2.1 HG2.out.2.2.2.1 0 v)
  clear hK hH hb hOw hcl HKS HOS HK6 HO6 c0 f0 hg hg2 hg2' hz HSZ
  go_wp2_with fail
  refine (kRead_at (HKS2.out _) (b0 :: bs) 0 n rfl HN.out).mono ?_
  rintro _ w7 ⟨yo, yc, rfl, hH, hK, hb⟩
  have HH7 := hid hH
  have HO7 := hid ((HOS2.out _).later hb)
  have HK7 := hid hK
  clear hK hH hb HKS2 HOS2 c1 f1
  go_wp2_with fail
  refine (kRead_at HO7.out [] 0 0 rfl rfl).mono ?_
  rintro _ w8 ⟨zo, zc, rfl, _, hK, hb⟩
  have HK8 := hid hK
  have s1 := run_strB (HH7.out.later hb).reads
  have s2 := run_strB (HR.out _ hK.bel)
  generalize (⟨(b0 :: bs).toArray⟩ : ByteArray) = X at *
  clear hK hb HH7 HO7 HK7
  go_wp2_with fail
  go_ret
  exact ⟨rfl, HK8.out.bel⟩
theorem down_row (W : World) (a : Option Addr) (len cap : Nat) (zs : List Int) (h : IsRow .u8 W a len cap zs) (_u : World) :
    Calls Try.prog 8 #[.slice a len cap] W fun e w' => e = .returned (.bool true) ∧ Below W.heap.size W w' := by
  obtain ⟨l, h1, h2, h3, h4⟩ := bytes_arg h
  exact down_any l a len cap h1 h2 h3 W h4
end Go.Proofs.Ytekcoeckgolhcaa

/- The law OpBytes: any bytes are kept, put, and cut as they are. -/
import Derived.Test.YtmphckpmlkgkkaaRefAppl
import Derived.Test.YtmphckpmlkgkkaaAppliesLaw
namespace Go.Proofs.Ytmphckpmlkgkkaa
open Go.RowKit
set_option linter.unusedSimpArgs false
set_option linter.unusedVariables false

def bs (l : List UInt8) : ByteArray := ⟨l.toArray⟩
theorem bs_size (l : List UInt8) : (bs l).size = l.length := by rw [size_list]; simp [bs]
theorem bs_append (l m : List UInt8) : bs l ++ bs m = bs (l ++ m) := ba_mk l m
theorem bs_str {w : World} {v : Value} {l : List UInt8} (h : Reads w v (B l)) : (convert 22 9 v).run Try.prog w = .ok (.string (bs l)) w :=
  run_string (P := Try.prog) w 22 9 5 Try.underlying22 Try.underlying5 Try.underlying9 h

def bo (a b c s : List UInt8) : List Cp := [pK a.length, pX b.length, pP (bs s), pK c.length]

theorem bo_vals {a b c s : List UInt8} (h : 1 ≤ a.length ∧ 1 ≤ b.length ∧ 1 ≤ c.length ∧ 1 ≤ s.length) (h2 : a.length + b.length + c.length + s.length ≤ 110) : Vals (bo a b c s) :=
  (val_K (n := a.length) (by omega) (by omega)).append ((val_X (n := b.length) (by omega) (by omega)).append ((val_P (s := bs s) (by rw [bs_size]; omega) (by rw [bs_size]; omega)).append (val_K (n := c.length) (by omega) (by omega))))
theorem bo_in (a b c s : List UInt8) : inS (bo a b c s) = a.length + b.length + c.length := by
  simp [bo, inS, pK, pX, pP, Cp.over]; omega
theorem bo_out (a b c s : List UInt8) : outS (bo a b c s) = a.length + s.length + c.length := by
  simp [bo, outS, pK, pX, pP, Cp.outl, em_size, bs_size]; omega
theorem bo_apply (a b c s : List UInt8) (h : a.length + s.length + c.length ≤ 120) : apS (bs (a ++ b ++ c)) (bo a b c s) = (bs (a ++ s ++ c), 0) := by
  rw [apS, if_neg (by rw [bo_in, bs_size]; simp; omega), if_neg (by rw [bo_out]; omega)]
  congr 1
  show (⟨_⟩ : ByteArray) = ⟨_⟩
  congr 2
  have hs : (bs s).data.toList = s := by simp [bs]
  have hd : (bs (a ++ b ++ c)).data.toList = a ++ (b ++ c) := by simp [bs]
  rw [hd]
  simp [bo, applyS, pK, pX, pP, hs]
theorem bo_norm (a b c s : List UInt8) : normS (bo a b c s) = [pK a.length, pP (bs s), pX b.length, pK c.length] := by
  simp [bo, normS, push, pushK, pushX, pushX0, pushP, pK, pX, pP]

set_option maxRecDepth 100000 in
set_option maxHeartbeats 4000000 in
theorem bytesop_any (aa ab ac ad : Option Addr) (ca cb cc cs : Nat) (a b c s : List UInt8) (w : World) (ha : Reads w (.slice aa a.length ca) (B a)) (hb : Reads w (.slice ab b.length cb) (B b)) (hc : Reads w (.slice ac c.length cc) (B c)) (hs : Reads w (.slice ad s.length cs) (B s))
    (la : a.length ≤ 140737488351232) (lb : b.length ≤ 140737488351232) (lc : c.length ≤ 140737488351232) (ls : s.length ≤ 140737488351232) :
    Calls Try.prog 7 #[.slice aa a.length ca, .slice ab b.length cb, .slice ac c.length cc, .slice ad s.length cs] w fun e w' => e = .returned (.bool true) ∧ Below w.heap.size w w' := by
  have HA := hid ha
  have HB := hid hb
  have HC := hid hc
  have HS := hid hs
  clear ha hb hc hs
  go_enter Try.func7, Try.ntmps7
  go_wp2_with fail
  refine (known_any _).mono ?_
  rintro _ w1 ⟨rfl, hb1⟩
  have Hb1 := hid hb1
  clear hb1
  by_cases h0 : a.length = 0
  · have e0 : ((a.length : Int) == 0) = true := by simp [h0]
    clear h0
    go_wp2_with fail
    go_ret
    exact ⟨rfl, Hb1.out⟩
  have e0 : ((a.length : Int) == 0) = false := by simpa using h0
  by_cases h1 : b.length = 0
  · have e1 : ((b.length : Int) == 0) = true := by simp [h1]
    clear h0 h1
    go_wp2_with fail
    go_ret
    exact ⟨rfl, Hb1.out⟩
  have e1 : ((b.length : Int) == 0) = false := by simpa using h1
  by_cases h2 : c.length = 0
  · have e2 : ((c.length : Int) == 0) = true := by simp [h2]
    clear h0 h1 h2
    go_wp2_with fail
    go_ret
    exact ⟨rfl, Hb1.out⟩
  have e2 : ((c.length : Int) == 0) = false := by simpa using h2
  by_cases h3 : s.length = 0
  · have e3 : ((s.length : Int) == 0) = true := by simp [h3]
    clear h0 h1 h2 h3
    go_wp2_with fail
    go_ret
    exact ⟨rfl, Hb1.out⟩
  have e3 : ((s.length : Int) == 0) = false := by simpa using h3
  by_cases h4 : 110 < a.length + b.length + c.length + s.length
  · have e4 : (110 : Int) < (a.length : Int) + (b.length : Int) + (c.length : Int) + (s.length : Int) := by omega
    clear h0 h1 h2 h3 h4
    go_wp2_with fail
    go_ret
    exact ⟨rfl, Hb1.out⟩
  have e4 : (a.length : Int) + (b.length : Int) + (c.length : Int) + (s.length : Int) ≤ 110 := by omega
  have HV := hid (bo_vals (a := a) (b := b) (c := c) (s := s) ⟨by omega, by omega, by omega, by omega⟩ (by omega))
  have HAP := hid (bo_apply a b c s (by omega))
  have HI := hid (bo_in a b c s)
  have HO := hid (bo_out a b c s)
  have HN := hid (bo_norm a b c s)
  have ta := bs_str (HA.out.later Hb1.out)
  have tb := bs_str (HB.out.later Hb1.out)
  have tc := bs_str (HC.out.later Hb1.out)
  have ts := bs_str (HS.out.later Hb1.out)
  obtain ⟨d, hd⟩ : ∃ d, bs (a ++ b ++ c) = d := ⟨_, rfl⟩
  obtain ⟨x, hx⟩ : ∃ x, bs (a ++ s ++ c) = x := ⟨_, rfl⟩
  rw [hd, hx] at HAP
  have zab : bs a ++ bs b ++ bs c = d := by rw [bs_append, bs_append, hd]
  have zac : bs a ++ bs s ++ bs c = x := by rw [bs_append, bs_append, hx]
  have hds : (d.size : Int) = (a.length : Int) + (b.length : Int) + (c.length : Int) := by rw [← hd, bs_size]; simp; omega
  have hxs : (x.size : Int) = (a.length : Int) + (s.length : Int) + (c.length : Int) := by rw [← hx, bs_size]; simp; omega
  have za := bs_size a
  have zb := bs_size b
  have zc := bs_size c
  have zs := bs_size s
  have HDS := hid (show d.size ≤ 1099511627776 by omega)
  clear h0 h1 h2 h3 h4 hd hx
  have HR := hid (parts_new w1 (bo a b c s) 4 rfl)
  have Hb2 := hid (Hb1.out.alloc Hb1.out.size (.cells (C (bo a b c s)).toArray 42))
  go_wp2_with fail
  refine (Apply_any d _ (bo a b c s) _ HR.out.reads (HV.out.fit (by simp [bo])) HV.out.good HDS.out).mono ?_
  rintro _ w3 ⟨rfl, hb3⟩
  rw [HAP.out]
  have HR3 := hid (HR.out.later hb3)
  have Hb3 := hid (below_seq Hb2.out hb3)
  have ta3 := bs_str (HA.out.later Hb3.out)
  have tc3 := bs_str (HC.out.later Hb3.out)
  have ts3 := bs_str (HS.out.later Hb3.out)
  clear hb3 HR ta tb tc ts
  go_wp2_with fail
  refine (Normal_any _ (bo a b c s) _ HR3.out.reads (HV.out.fit (by simp [bo])) HV.out.good (by rw [HO.out]; omega)).mono ?_
  rintro _ w4 ⟨v4, rfl, hH4, hb4⟩
  rw [HN.out] at hH4
  have HR4 := hid (HR3.out.later hb4)
  have Hb4 := hid (below_seq Hb3.out hb4)
  have ta4 := bs_str (HA.out.later Hb4.out)
  have tc4 := bs_str (HC.out.later Hb4.out)
  have ts4 := bs_str (HS.out.later Hb4.out)
  obtain ⟨g, off, cap, e, hcp, hr, hg⟩ := hH4.reads.place (by simp)
  subst e
  obtain ⟨c0, c1, c2⟩ := RC.cells hr (j := 1) (c := pP (bs s)) rfl
  simp only [List.length_cons, List.length_nil, Nat.one_mul, Nat.zero_add, Nat.reduceAdd, pP] at *
  clear hb4 HR3 ta3 tc3 ts3 hH4 hr
  go_wp2_with fail
  refine (In_any _ (bo a b c s) _ HR4.out.reads (HV.out.fit (by simp [bo]))).mono ?_
  rintro _ w5 ⟨rfl, hb5⟩
  rw [HI.out, ← hds]
  have HR5 := hid (HR4.out.later hb5)
  have Hb5 := hid (below_seq Hb4.out hb5)
  clear hb5 HR4 ta4 tc4 ts4
  go_wp2_with fail
  refine (Out_any _ (bo a b c s) _ HR5.out.reads (HV.out.fit (by simp [bo]))).mono ?_
  rintro _ w6 ⟨rfl, hb6⟩
  rw [HO.out, ← hxs]
  have Hb6 := hid (below_seq Hb5.out hb6)
  clear hb6 HR5
  go_wp2_with fail
  go_ret
  exact ⟨rfl, Hb6.out⟩

theorem bytesop_row (a0 : Option Addr) (len0 cap0 : Nat) (z0 : List Int) (a1 : Option Addr) (len1 cap1 : Nat) (z1 : List Int) (a2 : Option Addr) (len2 cap2 : Nat) (z2 : List Int) (a3 : Option Addr) (len3 cap3 : Nat) (z3 : List Int) (w : World)
    (w0 : IsRow .u8 w a0 len0 cap0 z0) (w1 : IsRow .u8 w a1 len1 cap1 z1) (w2 : IsRow .u8 w a2 len2 cap2 z2) (w3 : IsRow .u8 w a3 len3 cap3 z3)
    (s0 : cap0 * 1 ≤ 140737488351232) (s1 : cap1 * 1 ≤ 140737488351232) (s2 : cap2 * 1 ≤ 140737488351232) (s3 : cap3 * 1 ≤ 140737488351232) :
    Calls Try.prog 7 #[.slice a0 len0 cap0, .slice a1 len1 cap1, .slice a2 len2 cap2, .slice a3 len3 cap3] w fun e w' => e = .returned (.bool true) ∧ Below w.heap.size w w' := by
  have c0 := cap_of_row w0
  have c1 := cap_of_row w1
  have c2 := cap_of_row w2
  have c3 := cap_of_row w3
  obtain ⟨l0, rfl, _, h0⟩ := bytes_of_row w0
  obtain ⟨l1, rfl, _, h1⟩ := bytes_of_row w1
  obtain ⟨l2, rfl, _, h2⟩ := bytes_of_row w2
  obtain ⟨l3, rfl, _, h3⟩ := bytes_of_row w3
  exact bytesop_any a0 a1 a2 a3 cap0 cap1 cap2 cap3 l0 l1 l2 l3 w h0 h1 h2 h3 (by omega) (by omega) (by omega) (by omega)
end Go.Proofs.Ytmphckpmlkgkkaa

/- The law InvertParts: a Keep is kept, a Put is cut, a Cut is put again, with what stood there. -/
import Derived.Test.YtbhojomgbjchkaaObI
import Derived.BigQuiet
namespace Go.Proofs.Ytbhojomgbjchkaa
open Go.RowKit
set_option linter.unusedSimpArgs false
set_option linter.unusedVariables false

def bs (l : List UInt8) : ByteArray := ⟨l.toArray⟩
theorem bs_size (l : List UInt8) : (bs l).size = l.length := by rw [size_list]; simp [bs]
theorem bs_append (l m : List UInt8) : bs l ++ bs m = bs (l ++ m) := ba_mk l m
theorem bs_str {w : World} {v : Value} {l : List UInt8} (h : Reads w v (B l)) : (convert 22 9 v).run Try.prog w = .ok (.string (bs l)) w :=
  run_string (P := Try.prog) w 22 9 5 Try.underlying22 Try.underlying5 Try.underlying9 h
theorem bs_str_drew {w : World} {v : Value} {l : List UInt8} (h : Reads w v (B l)) (k : Nat) : (convert 22 9 v).run Try.prog (w.drewN k) = .ok (.string (bs l)) (w.drewN k) :=
  bs_str (h.later (below_drewN (Below.refl _ _) k))

def ip (a b s : List UInt8) : List Cp := [pK a.length, pP (bs s), pX b.length]
theorem ip_good {a b s : List UInt8} (h : 1 ≤ a.length ∧ 1 ≤ b.length ∧ 1 ≤ s.length) : Good (ip a b s) :=
  good_mk (okK (by omega)) (good_mk (okP (by rw [bs_size]; omega)) (good_mk (okX (by omega)) (fun c hc => by simp at hc)))
theorem ip_in (a b s : List UInt8) : inS (ip a b s) = ((a.length + b.length : Nat) : Int) := by
  simp [ip, inS, pK, pX, pP, Cp.over]
theorem ip_out (a b s : List UInt8) : outS (ip a b s) = ((a.length + s.length : Nat) : Int) := by
  simp [ip, outS, pK, pX, pP, Cp.outl, em_size, bs_size]
theorem ip_inv (a b s : List UInt8) : invS (bs (a ++ b)) (ip a b s) = [pK a.length, pP (bs b), pX s.length] := by
  have hd : (bs (a ++ b)).data.toList = a ++ b := by simp [bs]
  rw [invS, hd, ip, und_K, List.drop_left, und_P, und_X, List.take_length, bs_size]
  simp [undS, bs, normS, push, pushK, pushX, pushX0, pushP, pK, pX, pP]
theorem ip_ob (w : World) (a b s : List UInt8) (h : 1 ≤ a.length ∧ 1 ≤ b.length ∧ 1 ≤ s.length) (h2 : a.length + b.length + s.length ≤ 100) :
    Ob (w.alloc (.cells (C (ip a b s)).toArray 42)) (.slice (some ⟨w.heap.size, 0, none⟩) 3 3) (ip a b s) (a.length + b.length) (a.length + s.length) :=
  ⟨(parts_new w (ip a b s) 3 rfl).reads, ip_good h, ip_in a b s, ip_out a b s, by omega, by omega⟩

set_option maxRecDepth 100000 in
set_option maxHeartbeats 4000000 in
theorem iparts_any (aa ab ac : Option Addr) (ca cb cs : Nat) (a b s : List UInt8) (w : World) (ha : Reads w (.slice aa a.length ca) (B a)) (hb : Reads w (.slice ab b.length cb) (B b)) (hs : Reads w (.slice ac s.length cs) (B s))
    (la : a.length ≤ 140737488351232) (lb : b.length ≤ 140737488351232) (ls : s.length ≤ 140737488351232) :
    Calls Try.prog 6 #[.slice aa a.length ca, .slice ab b.length cb, .slice ac s.length cs] w fun e w' => e = .returned (.bool true) ∧ Below w.heap.size w w' := by
  have HA := hid ha
  have HB := hid hb
  have HS := hid hs
  clear ha hb hs
  go_enter Try.func6, Try.ntmps6
  go_wp2_with fail
  refine (known6_any _).mono ?_
  rintro _ w1 ⟨rfl, hb1⟩
  have Hb1 := hid hb1
  clear hb1
  by_cases h0 : a.length = 0
  · have e0 : ((a.length : Int) == 0) = true := by simp [h0]
    clear h0
    go_wp2_with fail
    go_ret
    exact ⟨rfl, Hb1.out⟩
  have e0 : ((a.length : Int) == 0) = false := by simpa using h0
  by_cases h1 : b.length = 0
  · have e1 : ((b.length : Int) == 0) = true := by simp [h1]
    clear h0 h1
    go_wp2_with fail
    go_ret
    exact ⟨rfl, Hb1.out⟩
  have e1 : ((b.length : Int) == 0) = false := by simpa using h1
  by_cases h3 : s.length = 0
  · have e3 : ((s.length : Int) == 0) = true := by simp [h3]
    clear h0 h1 h3
    go_wp2_with fail
    go_ret
    exact ⟨rfl, Hb1.out⟩
  have e3 : ((s.length : Int) == 0) = false := by simpa using h3
  by_cases h4 : 100 < a.length + b.length + s.length
  · have e4 : (100 : Int) < (a.length : Int) + (b.length : Int) + (s.length : Int) := by omega
    clear h0 h1 h3 h4
    go_wp2_with fail
    go_ret
    exact ⟨rfl, Hb1.out⟩
  have e4 : (a.length : Int) + (b.length : Int) + (s.length : Int) ≤ 100 := by omega
  have HO := hid (ip_ob w1 a b s ⟨by omega, by omega, by omega⟩ (by omega))
  have HI := hid (ip_inv a b s)
  have ta := bs_str (HA.out.later Hb1.out)
  have tb := bs_str (HB.out.later Hb1.out)
  have ts := bs_str (HS.out.later Hb1.out)
  obtain ⟨d, hd⟩ : ∃ d, bs (a ++ b) = d := ⟨_, rfl⟩
  rw [hd] at HI
  have zab : bs a ++ bs b = d := by rw [bs_append, hd]
  have hds : d.size = a.length + b.length := by rw [← hd, bs_size]; simp
  have HD := hid hds
  have za := bs_size a
  have zb := bs_size b
  have zs := bs_size s
  clear h0 h1 h3 h4 hd hds
  have Hb2 := hid (Hb1.out.alloc Hb1.out.size (.cells (C (ip a b s)).toArray 42))
  go_wp2_with fail
  refine (inv_ob d HO.out HD.out).mono ?_
  rintro _ w3 ⟨v, rfl, ho, hb3⟩
  rw [HI.out] at ho
  have Hb3 := hid (below_seq Hb2.out hb3)
  have tb3 := bs_str_drew (HB.out.later Hb3.out)
  obtain ⟨g, off, cap, rfl, hcap, hr, hg⟩ := ho.rc.place (by simp)
  obtain ⟨c0, c1, c2⟩ := RC.cells hr (j := 0) (c := pK a.length) rfl
  obtain ⟨c3, c4, c5⟩ := RC.cells hr (j := 1) (c := pP (bs b)) rfl
  obtain ⟨c6, c7, c8⟩ := RC.cells hr (j := 2) (c := pX s.length) rfl
  rw [Nat.zero_mul, Nat.add_zero] at c0 c1 c2
  simp only [List.length_cons, List.length_nil, Nat.one_mul, Nat.zero_add, Nat.reduceAdd, Nat.reduceMul, pP, pK, pX] at hcap c0 c1 c2 c3 c4 c5 c6 c7 c8 ⊢
  clear hb3 ho hr hg ta tb ts HO HI HD Hb2
  go_wp2_with fail
  go_quiet (fail)
  have Hb4 := hid (show Below w.heap.size w (w3.drewN nq) from below_drewN Hb3.out nq)
  generalize w3.drewN nq = w4 at *
  go_wp2_with fail
  go_ret
  exact ⟨rfl, Hb4.out⟩

theorem iparts_row (a0 : Option Addr) (len0 cap0 : Nat) (z0 : List Int) (a1 : Option Addr) (len1 cap1 : Nat) (z1 : List Int) (a2 : Option Addr) (len2 cap2 : Nat) (z2 : List Int) (w : World)
    (w0 : IsRow .u8 w a0 len0 cap0 z0) (w1 : IsRow .u8 w a1 len1 cap1 z1) (w2 : IsRow .u8 w a2 len2 cap2 z2)
    (s0 : cap0 * 1 ≤ 140737488351232) (s1 : cap1 * 1 ≤ 140737488351232) (s2 : cap2 * 1 ≤ 140737488351232) :
    Calls Try.prog 6 #[.slice a0 len0 cap0, .slice a1 len1 cap1, .slice a2 len2 cap2] w fun e w' => e = .returned (.bool true) ∧ Below w.heap.size w w' := by
  have c0 := cap_of_row w0
  have c1 := cap_of_row w1
  have c2 := cap_of_row w2
  obtain ⟨l0, rfl, _, h0⟩ := bytes_of_row w0
  obtain ⟨l1, rfl, _, h1⟩ := bytes_of_row w1
  obtain ⟨l2, rfl, _, h2⟩ := bytes_of_row w2
  exact iparts_any a0 a1 a2 cap0 cap1 cap2 l0 l1 l2 w h0 h1 h2 (by omega) (by omega) (by omega)
end Go.Proofs.Ytbhojomgbjchkaa

/- The law OpLong: a document of up to 120 bytes may come out, a longer one may not. -/
import Derived.Test.YtmphckpmlkgkkaaAppliesLaw
namespace Go.Proofs.Ytmphckpmlkgkkaa
open Go.RowKit
set_option linter.unusedSimpArgs false
set_option linter.unusedVariables false

def zeros (n : Nat) : ByteArray := ⟨(List.replicate n 0).toArray⟩
theorem zeros_size (n : Nat) : (zeros n).size = n := by rw [size_list]; simp [zeros]

theorem zeros_str {w : World} {g n : Nat} (h : Owns w 5 g n n (B (List.replicate n 0))) : (convert 22 9 (.slice (some ⟨g, 0, none⟩) n n)).run Try.prog w = .ok (.string (zeros n)) w :=
  run_string (P := Try.prog) w 22 9 5 Try.underlying22 Try.underlying5 Try.underlying9 h.reads

theorem apS_long (n m : Nat) (hn : 1 ≤ n) (hm : 1 ≤ m) : (n + m ≤ 120 → ∃ x : ByteArray, apS (zeros n) [pK n, pP (zeros m)] = (x, 0) ∧ x.size = n + m) ∧ (120 < n + m → apS (zeros n) [pK n, pP (zeros m)] = (⟨#[]⟩, 5)) := by
  have hi : inS [pK n, pP (zeros m)] = n := by
    have := inS_append [pK n] [pP (zeros m)]
    rw [in_K, in_P] at this
    simpa using this
  have ho : outS [pK n, pP (zeros m)] = n + m := by
    have := outS_append [pK n] [pP (zeros m)]
    rw [out_K, out_P, zeros_size] at this
    simpa using this
  have hg : Good [pK n, pP (zeros m)] := by
    intro c hc
    simp only [List.mem_cons, List.not_mem_nil, or_false] at hc
    rcases hc with rfl | rfl
    · exact .inl ⟨.inl rfl, by simp [pK]; omega, rfl⟩
    · exact .inr ⟨rfl, rfl, by simp [pP, zeros_size]; omega⟩
  constructor
  · intro h
    refine ⟨_, by rw [apS, if_neg (by rw [hi, zeros_size]; simp), if_neg (by rw [ho]; omega)], ?_⟩
    have := applyS_length [pK n, pP (zeros m)] (zeros n).data.toList hg (by rw [hi, ← size_list, zeros_size]; omega)
    rw [ho] at this
    rw [size_list]
    simp only
    omega
  · intro h
    rw [apS, if_neg (by rw [hi, zeros_size]; simp), if_pos (by rw [ho]; omega)]

set_option maxRecDepth 100000 in
set_option maxHeartbeats 4000000 in
theorem longop_any (n m : Int) (w : World) :
    Calls Try.prog 8 #[.int .i64 n, .int .i64 m] w fun e w' => e = .returned (.bool true) ∧ Below w.heap.size w w' := by
  obtain ⟨i0, hi, hz0, hz1, hz2⟩ := info_parts Try.infoByte
  go_enter Try.func8, Try.ntmps8
  go_wp2_with fail
  refine (known_any _).mono ?_
  rintro _ w1 ⟨rfl, hb1⟩
  have Hb1 := hid hb1
  clear hb1
  go_wp2_with fail
  refine (within_any n 119 (by omega) (by omega) _).mono ?_
  rintro _ w2 ⟨rfl, rfl⟩
  obtain ⟨p, hp⟩ : ∃ p : Nat, n % 119 + 1 = (p : Int) := Int.eq_ofNat_of_zero_le (by omega)
  have hp1 : 1 ≤ p ∧ p ≤ 119 := by omega
  rw [show n % 119 = (p : Int) - 1 by omega]
  clear hp
  go_wp2_with fail
  refine (within_any m 119 (by omega) (by omega) _).mono ?_
  rintro _ w3 ⟨rfl, rfl⟩
  obtain ⟨q, hq⟩ : ∃ q : Nat, m % 119 + 1 = (q : Int) := Int.eq_ofNat_of_zero_le (by omega)
  have hq1 : 1 ≤ q ∧ q ≤ 119 := by omega
  rw [show m % 119 = (q : Int) - 1 by omega]
  clear hq
  have ep : (1 : Int) + ((p : Int) - 1) = p := by omega
  have eq : (1 : Int) + ((q : Int) - 1) = q := by omega
  have hs1 := Hb1.out.size
  go_wp2_with (first | (show wpList _ _ _ (⟨some 17, _, _, _, _, _⟩ :: _) _ _; go_must (refine wpList_make_bytes _ rfl _ _ 22 rfl 5 i0 Try.underlying22 hi hz0 hz1 hz2 .i64 .i64 _ _ p rfl rfl (by omega) (by omega) (by omega) ?_); intro w4 hO4 hg4 hs4; have hst := zeros_str hO4; replace hO4 := hid hO4; replace hg4 := hid hg4; replace hs4 := hid hs4) | (show wpList _ _ _ (⟨some 24, _, _, _, _, _⟩ :: _) _ _; go_must (refine wpList_make_bytes _ rfl _ _ 22 rfl 5 i0 Try.underlying22 hi hz0 hz1 hz2 .i64 .i64 _ _ q rfl rfl (by omega) (by omega) (by omega) ?_); intro w5 hO5 hg5 hs5; have hst5 := zeros_str hO5; replace hO5 := hid hO5; replace hg5 := hid hg5; replace hs5 := hid hs5))
  have Hb4 := hid (show Below w.heap.size w w4 from Hb1.out.trans ⟨hg4.out.os, hg4.out.tape, hg4.out.output, hg4.out.size, fun k hk => hg4.out.block k (by omega) (by intro h; cases h; omega)⟩)
  have hs4' := Hb4.out.size
  have Hb5 := hid (show Below w.heap.size w w5 from Hb4.out.trans ⟨hg5.out.os, hg5.out.tape, hg5.out.output, hg5.out.size, fun k hk => hg5.out.block k (by omega) (by intro h; cases h; omega)⟩)
  clear hO4 hg4 ep eq hs1 hO5 hg5 hst hst5 hs4 hs5 hs4'
  obtain ⟨hok, hbad⟩ := apS_long p q hp1.1 hq1.1
  have HOK := hid hok
  have HBAD := hid hbad
  have HV := hid (show Vals [pK p, pP (zeros q)] from (val_K (n := p) (by omega) (by omega)).append (val_P (s := zeros q) (by rw [zeros_size]; omega) (by rw [zeros_size]; omega)))
  have HZD := hid (show (zeros p).size ≤ 1099511627776 by rw [zeros_size]; omega)
  generalize zeros p = d at *
  generalize zeros q = s at *
  clear hok hbad
  refine (Apply_any d _ [pK p, pP s] _ (parts_new w5 [pK p, pP s] 2 rfl).reads (HV.out.fit (by simp)) HV.out.good HZD.out).mono ?_
  rintro _ w6 ⟨rfl, hb6⟩
  have Hb6 := hid (show Below w.heap.size w w6 from (Hb5.out.alloc Hb5.out.size _).trans (hb6.mono (by have := Hb5.out.size; simp; omega)))
  clear hb6
  by_cases hpq : p + q ≤ 120
  · obtain ⟨x, hx, hxs⟩ := HOK.out hpq
    rw [hx]
    have hpq' : (p : Int) + (q : Int) ≤ 120 := by omega
    have hxs' : (x.size : Int) = (p : Int) + (q : Int) := by omega
    clear hx hxs
    go_wp2_with fail
    go_ret
    exact ⟨rfl, Hb6.out⟩
  · rw [HBAD.out (by omega)]
    have hpq' : 120 < (p : Int) + (q : Int) := by omega
    go_wp2_with fail
    go_ret
    exact ⟨rfl, Hb6.out⟩

theorem longop_row (a0 a1 : Int) (w : World) :
    Calls Try.prog 8 #[.int .i64 a0, .int .i64 a1] w fun e w' => e = .returned (.bool true) ∧ Below w.heap.size w w' := longop_any a0 a1 w
end Go.Proofs.Ytmphckpmlkgkkaa

/- The contracts of compose.All and chain, for none, one and three. -/
import Derived.Test.YtcghcocacbglbabOb5
namespace Go.Proofs.Ytcghcocacbglbab
open Go.RowKit
set_option linter.unusedSimpArgs false
set_option linter.unusedVariables false

section
variable {w w' : World} {v va vb vc : Value} {o a b c : List Cp} {i u j t k : Nat}
theorem norm_ob (h : Ob w v o i u) :
    Calls Try.prog 18 #[v] w fun e w' => ∃ v', e = .returned v' ∧ Ob w' v' (normS o) i u ∧ Below w.heap.size w w' := by
  refine (Normal_any v o w h.rc h.fit h.good (by have := h.outs; have := h.hu; omega)).mono ?_
  rintro e w' ⟨v', rfl, hH, hb⟩
  exact ⟨v', rfl, ⟨hH.reads, norm_good h.good, by rw [in_norm _ h.good, h.ins], by rw [out_norm _ h.good, h.outs], h.hi, h.hu⟩, hb⟩
theorem in_ob (h : Ob w v o i u) : Calls Try.prog 11 #[v] w fun e w' => e = .returned (.int .i64 (i : Int)) ∧ Below w.heap.size w w' := by
  refine (In_any v o w h.rc h.fit).mono ?_
  rintro e w' ⟨rfl, hb⟩
  exact ⟨by rw [h.ins], hb⟩

set_option maxHeartbeats 1000000 in
theorem chain1 (g off cap : Nat) (hcap : 1 ≤ cap) (h0 : w.cell? ⟨g, off, none⟩ = some va) (ha : Ob w va a i u) :
    Calls Try.prog 12 #[.slice (some ⟨g, off, none⟩) 1 cap] w fun e w' => ∃ v', e = .returned (.tuple #[v', .int .i64 0]) ∧ Ob w' v' (normS a) i u ∧ Below w.heap.size w w' := by
  have HA := hid ha
  clear ha
  go_enter Try.func12, Try.ntmps12
  go_wp2_with fail
  refine (norm_ob HA.out).mono ?_
  rintro _ w1 ⟨v1, rfl, ho, hb⟩
  have HO := hid ho
  have HB := hid hb
  clear ho hb
  go_wp2_with fail
  go_ret2
  exact ⟨_, rfl, HO.out, HB.out⟩

set_option maxHeartbeats 1000000 in
theorem chain2 (g off : Nat) (hg : g < w.heap.size) (h0 : w.cell? ⟨g, off, none⟩ = some va) (h1 : w.cell? ⟨g, off + 1, none⟩ = some vb) (ha : Ob w va a i u) (hb : Ob w vb b u t) :
    Calls Try.prog 12 #[.slice (some ⟨g, off, none⟩) 2 2] w fun e w' => ∃ v', e = .returned (.tuple #[v', .int .i64 0]) ∧ Ob w' v' (twoS a b) i t ∧ Below w.heap.size w w' := by
  have HA := hid ha
  have HB := hid hb
  have HE := hid (two_forms ha.good hb.good (by rw [hb.ins, ha.outs]))
  have H0 := hid h0
  have H1 := hid h1
  clear ha hb h0 h1
  go_enter Try.func12, Try.ntmps12
  go_wp2_with fail
  refine (chain1 g off 2 (by omega) H0.out HA.out).mono ?_
  rintro _ w1 ⟨v1, rfl, ho, hb⟩
  have HO1 := hid ho
  have HB1 := hid (HB.out.later hb)
  have Hb1 := hid hb
  have H2 := hid (cell_later hb H1.out)
  clear ho hb
  go_wp2_with fail
  refine (chain1 g (off + 1) 1 (by omega) H2.out HB1.out).mono ?_
  rintro _ w2 ⟨v2, rfl, ho, hb⟩
  have HO2 := hid ho
  have HO3 := hid (HO1.out.later hb)
  have Hb2 := hid (below_seq Hb1.out hb)
  clear ho hb
  go_wp2_with fail
  refine (two_ob HO3.out HO2.out).mono ?_
  rintro _ w3 ⟨v3, rfl, ho, hb⟩
  rw [HE.out] at ho
  have HO4 := hid ho
  have Hb3 := hid (below_seq Hb2.out hb)
  clear ho hb
  go_wp2_with fail
  go_ret2
  exact ⟨_, rfl, HO4.out, Hb3.out⟩

set_option maxHeartbeats 1000000 in
theorem chain3 (g off : Nat) (hg : g < w.heap.size) (h0 : w.cell? ⟨g, off, none⟩ = some va) (h1 : w.cell? ⟨g, off + 1, none⟩ = some vb) (h2 : w.cell? ⟨g, off + 2, none⟩ = some vc) (ha : Ob w va a i u) (hb : Ob w vb b u t) (hc : Ob w vc c t k) :
    Calls Try.prog 12 #[.slice (some ⟨g, off, none⟩) 3 3] w fun e w' => ∃ v', e = .returned (.tuple #[v', .int .i64 0]) ∧ Ob w' v' (twoS a (twoS b c)) i k ∧ Below w.heap.size w w' := by
  have HA := hid ha
  have HB := hid hb
  have HC := hid hc
  have HE := hid (show twoS (normS a) (twoS b c) = twoS a (twoS b c) by
    have q := two_ta hb.good hc.good (by rw [hc.ins, hb.outs])
    have := two_forms ha.good q.good (by rw [q.ins, hb.ins, ha.outs])
    rwa [two_norm] at this)
  have H0 := hid h0
  have H1 := hid h1
  have H2 := hid h2
  clear ha hb hc h0 h1 h2
  go_enter Try.func12, Try.ntmps12
  go_wp2_with fail
  refine (chain1 g off 3 (by omega) H0.out HA.out).mono ?_
  rintro _ w1 ⟨v1, rfl, ho, hb⟩
  have HO1 := hid ho
  have HB1 := hid (HB.out.later hb)
  have HC1 := hid (HC.out.later hb)
  have Hb1 := hid hb
  have H3 := hid (cell_later hb H1.out)
  have H4 := hid (cell_later hb H2.out)
  have hg1 : g < w1.heap.size := Nat.lt_of_lt_of_le hg hb.size
  clear ho hb
  go_wp2_with fail
  refine (chain2 g (off + 1) hg1 H3.out H4.out HB1.out HC1.out).mono ?_
  rintro _ w2 ⟨v2, rfl, ho, hb⟩
  have HO2 := hid ho
  have HO3 := hid (HO1.out.later hb)
  have Hb2 := hid (below_seq Hb1.out hb)
  clear ho hb
  go_wp2_with fail
  refine (two_ob HO3.out HO2.out).mono ?_
  rintro _ w3 ⟨v3, rfl, ho, hb⟩
  rw [HE.out] at ho
  have HO4 := hid ho
  have Hb3 := hid (below_seq Hb2.out hb)
  clear ho hb
  go_wp2_with fail
  go_ret2
  exact ⟨_, rfl, HO4.out, Hb3.out⟩

theorem id_ob (n : Nat) (hn : n ≤ 120) (h : RC w v (idS n)) : Ob w v (idS n) n n := ⟨h, id_good n, id_in n, id_out n, by omega, by omega⟩

set_option maxHeartbeats 1000000 in
theorem all_none (w : World) (n : Nat) (hn : n ≤ 120) :
    Calls Try.prog 7 #[.int .i64 (n : Int), .slice none 0 0] w fun e w' => ∃ v', e = .returned (.tuple #[v', .int .i64 0]) ∧ Ob w' v' (idS n) n n ∧ Below w.heap.size w w' := by
  by_cases h0 : n = 0
  · subst h0
    go_enter Try.func7, Try.ntmps7
    go_wp2_with fail
    go_ret2
    exact ⟨_, rfl, id_ob 0 (by omega) (RC.nil _), Below.refl _ _⟩
  · have h1 : ¬ (n : Int) < 0 := by omega
    have h2 : ¬ (120 : Int) < (n : Int) := by omega
    have h3 : (0 : Int) < (n : Int) := by omega
    have HZ := hid h0
    clear h0
    go_enter Try.func7, Try.ntmps7
    go_wp2_with fail
    go_ret2
    refine ⟨_, rfl, id_ob n hn ?_, (Below.refl _ _).alloc (Nat.le_refl _) _⟩
    rw [idS, if_neg HZ.out]
    exact (one_new w (pK n) w.heap.size (Nat.le_refl _)).reads

set_option maxHeartbeats 1000000 in
theorem all_bad (g : Nat) (z : Int) (hz0 : 0 ≤ z) (hz1 : z ≤ 120) (h0 : w.cell? ⟨g, 0, none⟩ = some va) (ha : Ob w va a i u) (hne : (i : Int) ≠ z) :
    Calls Try.prog 7 #[.int .i64 z, .slice (some ⟨g, 0, none⟩) 1 1] w fun e w' => e = .returned (.tuple #[.slice none 0 0, .int .i64 7]) ∧ Below w.heap.size w w' := by
  have HA := hid ha
  have h1 : ¬ z < 0 := by omega
  have h2 : ¬ (120 : Int) < z := by omega
  have h3 : ((i : Int) == z) = false := by simpa using hne
  clear hne hz0 hz1
  clear ha
  go_enter Try.func7, Try.ntmps7
  go_wp2_with fail
  refine (in_ob HA.out).mono ?_
  rintro _ w1 ⟨rfl, hb⟩
  have Hb := hid hb
  clear hb
  go_wp2_with fail
  go_ret2
  exact ⟨rfl, Hb.out⟩

set_option maxHeartbeats 1000000 in
theorem all3 (g n : Nat) (hn : n ≤ 120) (hg : g < w.heap.size) (h0 : w.cell? ⟨g, 0, none⟩ = some va) (h1 : w.cell? ⟨g, 1, none⟩ = some vb) (h2 : w.cell? ⟨g, 2, none⟩ = some vc) (ha : Ob w va a n u) (hb : Ob w vb b u t) (hc : Ob w vc c t k) :
    Calls Try.prog 7 #[.int .i64 (n : Int), .slice (some ⟨g, 0, none⟩) 3 3] w fun e w' => ∃ v', e = .returned (.tuple #[v', .int .i64 0]) ∧ Ob w' v' (twoS a (twoS b c)) n k ∧ Below w.heap.size w w' := by
  have HA := hid ha
  have HB := hid hb
  have HC := hid hc
  have H1 := hid h1
  have H2 := hid h2
  have e1 : ¬ (n : Int) < 0 := by omega
  have e2 : ¬ (120 : Int) < (n : Int) := by omega
  clear ha hb hc h1 h2
  go_enter Try.func7, Try.ntmps7
  go_wp2_with fail
  refine (in_ob HA.out).mono ?_
  rintro _ w1 ⟨rfl, hb⟩
  have Hb := hid hb
  have HA1 := hid (HA.out.later hb)
  have HB1 := hid (HB.out.later hb)
  have HC1 := hid (HC.out.later hb)
  have H3 := hid (cell_later hb h0)
  have H4 := hid (cell_later hb H1.out)
  have H5 := hid (cell_later hb H2.out)
  have hg1 : g < w1.heap.size := Nat.lt_of_lt_of_le hg hb.size
  clear hb
  go_wp2_with fail
  refine (chain3 g 0 hg1 H3.out H4.out H5.out HA1.out HB1.out HC1.out).mono ?_
  rintro _ w2 ⟨v2, rfl, ho, hb⟩
  have HO := hid ho
  have Hb2 := hid (below_seq Hb.out hb)
  clear ho hb
  go_wp2_with fail
  go_ret2
  exact ⟨_, rfl, HO.out, Hb2.out⟩
end
end Go.Proofs.Ytcghcocacbglbab

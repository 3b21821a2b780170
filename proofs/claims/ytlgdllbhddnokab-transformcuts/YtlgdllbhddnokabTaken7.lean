/- The contract of the laws' own function taken (chapter 7): a cut, byte by byte, and its Normal. -/
import Derived.Test.YtlgdllbhddnokabIn7
import Derived.Test.YtlgdllbhddnokabObR
import Derived.Test.YtlgdllbhddnokabTMem
import Derived.Test.YtlgdllbhddnokabPairT
namespace Go.Proofs.Ytlgdllbhddnokab
open Go.RowKit
set_option linter.unusedSimpArgs false
set_option linter.unusedVariables false

/-- One byte, kept or cut. -/
def oneC (n a b : Int) (i : Nat) : Cp := if inB n a b i then pX ((1 : Nat) : Int) else pK ((1 : Nat) : Int)
def ones (n a b : Int) : Nat → List Cp
  | 0 => []
  | j + 1 => ones n a b j ++ [oneC n a b j]
theorem oneC_all (n a b : Int) (i : Nat) : (oneC n a b i).Ok ∧ (oneC n a b i).k ≠ 2 ∧ (oneC n a b i).over = 1 ∧ flags [oneC n a b i] = [!inB n a b i] := by
  unfold oneC
  cases inB n a b i
  · exact ⟨okK (by omega), by decide, rfl, rfl⟩
  · exact ⟨okX (by omega), by decide, rfl, rfl⟩
theorem flags_append : ∀ (o p : List Cp), flags (o ++ p) = flags o ++ flags p
  | [], p => rfl
  | c :: o, p => by rw [List.cons_append, flags, flags, flags_append o p, List.append_assoc]
theorem ones_all (n a b : Int) : ∀ j : Nat, Good (ones n a b j) ∧ NoP (ones n a b j) ∧ inS (ones n a b j) = j ∧ (ones n a b j).length = j ∧ flags (ones n a b j) = (List.range j).map (fun (i : Nat) => !inB n a b i)
  | 0 => ⟨fun c hc => by simp [ones] at hc, fun c hc => by simp [ones] at hc, rfl, rfl, rfl⟩
  | j + 1 => by
    obtain ⟨h1, h2, h3, h4, h5⟩ := ones_all n a b j
    obtain ⟨k1, k2, k3, k4⟩ := oneC_all n a b j
    refine ⟨h1.append (good_mk k1 (fun c hc => by simp at hc)), fun c hc => ?_, ?_, ?_, ?_⟩
    · rcases List.mem_append.1 hc with hc | hc
      · exact h2 c hc
      · simp at hc; subst hc; exact k2
    · rw [ones, inS_append, h3, in_cons, k3]; simp [inS]
    · rw [ones, List.length_append, h4]; rfl
    · rw [ones, flags_append, h5, k4, List.range_succ, List.map_append]; rfl
theorem outS_le_in : ∀ {o : List Cp}, Good o → NoP o → outS o ≤ inS o
  | [], _, _ => by simp [outS, inS]
  | c :: o, hg, hn => by
    have ih := outS_le_in hg.tl hn.tl
    rw [out_cons, in_cons]
    obtain ⟨m, hm, rfl | rfl⟩ := ok_kx hg.hd hn.hd
    · rw [outl_K, over_K]; omega
    · rw [outl_X, over_X]; omega

set_option maxRecDepth 100000 in
set_option maxHeartbeats 2000000 in
theorem taken_any (n : Nat) (h1 : 1 ≤ n) (h2 : n ≤ 120) (a b : Int) (w : World) :
    Calls Try.prog 15 #[.int .i64 (n : Int), .int .i64 a, .int .i64 b] w fun e w' => ∃ v u, e = .returned v ∧ Ob w' v (normS (ones n a b n)) n u ∧ u ≤ n ∧ Below w.heap.size w w' := by
  go_enter Try.func15, Try.ntmps15
  go_wp2_with fail
  go_loopw [7, 8] (fun ov iv wr => ∃ j : Nat, j ≤ n ∧ iv = .int .i64 j ∧ HasC wr w.heap.size ov (ones n a b j) ∧ Below w.heap.size w wr) (fun _ iv _ => n - (intOf iv).toNat)
  case atStart => exact ⟨0, Nat.zero_le _, rfl, HasC.nil _ _, Below.refl _ _⟩
  case round =>
    obtain ⟨j, hj, rfl, hH, hb⟩ := hrel
    obtain ⟨oo, oc, rfl⟩ := hH.form
    have hol := (ones_all n a b j).2.2.2.1
    rw [hol]
    rw [hol] at hH
    have HH := hid hH
    have Hb := hid hb
    have HOL := hid hol
    clear hH hb hol
    by_cases hlt : j < n
    · have hlt' : (j : Int) < (n : Int) := by omega
      obtain ⟨g, hg⟩ : ∃ g, wr.heap.size = g := ⟨_, rfl⟩
      have hgs : w.heap.size ≤ g := by rw [← hg]; exact Hb.out.size
      go_wp2_with fail
      obtain ⟨wb, hwb⟩ : ∃ x, wr.alloc (.cells #[.int .i64 1, .int .i64 1, .string ⟨#[]⟩] 42) = x := ⟨_, rfl⟩
      have hbn : Below wr.heap.size wr wb := by rw [← hwb]; exact (Below.refl _ _).alloc (Nat.le_refl _) _
      have HBx := hid (show Blk wb 42 g [.int .i64 1, .int .i64 1, .string ⟨#[]⟩] by rw [← hwb, ← hg]; exact Blk.new wr 42 _)
      have HHb := hid (HH.out.later hbn)
      have Hbb := hid (below_seq Hb.out hbn)
      rw [hwb]
      clear hbn hwb
      refine (in_any n j h1 (by omega) hlt a b _).mono ?_
      rintro _ wx ⟨rfl, hwx⟩
      subst wx
      by_cases hin : inB n a b j = true
      · have HE := hid (show oneC n a b j = pX ((1 : Nat) : Int) by unfold oneC; rw [hin]; rfl)
        rw [hin]
        have z0 : wb.cell? ⟨g, 0, none⟩ = some (.int .i64 1) := HBx.out.cell rfl
        have f0 := HBx.out.frozen 0
        obtain ⟨wc, hwc⟩ : ∃ x, wb.setCell ⟨g, 0, none⟩ (.int .i64 3) = x := ⟨_, rfl⟩
        have HBc := hid (show Blk wc 42 g [.int .i64 3, .int .i64 1, .string ⟨#[]⟩] by rw [← hwc]; exact HBx.out.setCell 0 (.int .i64 3))
        have HHc := hid (show HasC wc w.heap.size (.slice oo j oc) (ones n a b j) by
          rw [← hwc]
          exact HHb.out.keptB (fun k hk => heap_setCell_other _ _ _ _ (by have := HH.out.blk hk; show k ≠ g; omega)))
        have Hbc := hid (show Below w.heap.size w wc by rw [← hwc]; exact Hbb.out.setCell (p := ⟨g, 0, none⟩) hgs _)
        have c0 : wc.cell? ⟨g, 0, none⟩ = some (.int .i64 3) := HBc.out.cell rfl
        have c1 : wc.cell? ⟨g, 1, none⟩ = some (.int .i64 1) := HBc.out.cell rfl
        have c2 : wc.cell? ⟨g, 2, none⟩ = some (.string ⟨#[]⟩) := HBc.out.cell rfl
        clear hin HBx HHb Hbb hg
        go_wp2_with (at_builtin; go_must (refine wpList_append_c rfl _ _ rfl w.heap.size _ (ones n a b j) rfl (HHc.out.later ((Below.refl _ _).alloc (Nat.le_refl _) _)) ?hs3 _ [pX ((1 : Nat) : Int)] rfl (one_new wc (pX ((1 : Nat) : Int)) w.heap.size Hbc.out.size).reads ?hb3 ?_))
        case hs3 => have := Hbc.out.size; simp; omega
        case hb3 => rw [HOL.out]; simp; omega
        intro v7 w7 hH7 hb7
        have HH7 := hid (show HasC w7 w.heap.size v7 (ones n a b (j + 1)) by rw [ones, HE.out]; exact hH7)
        have Hb7 := hid ((Hbc.out.alloc Hbc.out.size _).trans hb7)
        clear hH7 hb7 c0 c1 c2
        go_wp2_with fail
        go_roundw
        case rel => exact ⟨j + 1, by omega, by go_num, HH7.out, Hb7.out⟩
        case measure => simp [intOf]; omega
      · replace hin : inB n a b j = false := by simpa using hin
        have HE := hid (show oneC n a b j = pK ((1 : Nat) : Int) by unfold oneC; rw [hin]; rfl)
        rw [hin]
        have HBc := HBx
        have HHc := HHb
        have Hbc := Hbb
        obtain ⟨wc, hwc⟩ : ∃ x, wb = x := ⟨_, rfl⟩
        subst hwc
        have c0 : wb.cell? ⟨g, 0, none⟩ = some (.int .i64 1) := HBc.out.cell rfl
        have c1 : wb.cell? ⟨g, 1, none⟩ = some (.int .i64 1) := HBc.out.cell rfl
        have c2 : wb.cell? ⟨g, 2, none⟩ = some (.string ⟨#[]⟩) := HBc.out.cell rfl
        clear hin HBx HHb Hbb hg
        go_wp2_with (at_builtin; go_must (refine wpList_append_c rfl _ _ rfl w.heap.size _ (ones n a b j) rfl (HHc.out.later ((Below.refl _ _).alloc (Nat.le_refl _) _)) ?hs1 _ [pK ((1 : Nat) : Int)] rfl (one_new wb (pK ((1 : Nat) : Int)) w.heap.size Hbc.out.size).reads ?hb1 ?_))
        case hs1 => have := Hbc.out.size; simp; omega
        case hb1 => rw [HOL.out]; simp; omega
        intro v7 w7 hH7 hb7
        have HH7 := hid (show HasC w7 w.heap.size v7 (ones n a b (j + 1)) by rw [ones, HE.out]; exact hH7)
        have Hb7 := hid ((Hbc.out.alloc Hbc.out.size _).trans hb7)
        clear hH7 hb7 c0 c1 c2
        go_wp2_with fail
        go_roundw
        case rel => exact ⟨j + 1, by omega, by go_num, HH7.out, Hb7.out⟩
        case measure => simp [intOf]; omega
    · have hj2 : j = n := by omega
      subst hj2
      obtain ⟨k1, k2, k3, k4, k5⟩ := ones_all j a b j
      have ho := outS_le_in k1 k2
      have hf := fit_of k1 (by omega) (by omega) (by omega)
      obtain ⟨u, hu⟩ : ∃ u : Nat, outS (ones j a b j) = u := Int.eq_ofNat_of_zero_le k1.outS_nn
      have HF := hid hf
      have HG := hid k1
      have HU := hid hu
      have HI := hid k3
      have hun : u ≤ j := by omega
      clear hf k1 k2 k3 k4 k5 hu ho
      go_wp2_with fail
      refine (refNormal_any _ (ones j a b j) _ HH.out.reads HF.out HG.out).mono ?_
      rintro _ w2 ⟨v2, rfl, hH2, hb2⟩
      have HO := hid (show Ob w2 v2 (normS (ones j a b j)) j u from ⟨hH2.reads, norm_good HG.out, by rw [in_norm _ HG.out, HI.out], by rw [out_norm _ HG.out, HU.out], by omega, by omega⟩)
      have Hb2 := hid (below_seq Hb.out hb2)
      clear hH2 hb2
      go_wp2_with fail
      go_ret
      exact ⟨_, u, rfl, HO.out, hun, Hb2.out⟩
end Go.Proofs.Ytlgdllbhddnokab

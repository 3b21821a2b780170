/- The contract of the laws' own function putAt (chapter 7). -/
import Derived.Test.YtlgdllbhddnokaaPairT
import Derived.Test.YtlgdllbhddnokaaNorm
namespace Go.Proofs.Ytlgdllbhddnokaa
open Go.RowKit
set_option linter.unusedSimpArgs false
set_option linter.unusedVariables false

set_option maxRecDepth 100000 in
set_option maxHeartbeats 1000000 in
theorem putAt_any (n k : Nat) (hk : k ≤ n) (hn : n ≤ 60) (s : ByteArray) (w : World) :
    Calls Try.prog 17 #[.int .i64 (n : Int), .int .i64 (k : Int), .string s] w fun e w' => ∃ v, e = .returned v ∧ HasC w' w.heap.size v (putF k (n - k) s) ∧ Below w.heap.size w w' := by
  have HBd := hid (Nat.le_refl w.heap.size)
  by_cases hA0 : k = 0
  · by_cases hB0 : k = n
    · skip
      subst hA0
      subst hB0
      have HE := hid (show putF 0 (0 - 0) s = [pP s] by unfold putF idS; (try rw [if_pos (by omega), if_pos (by omega)]); rfl)
      go_enter Try.func17, Try.ntmps17
      go_wp2_with (at_builtin; go_must (refine wpList_append_c rfl _ _ rfl w.heap.size _ [] rfl (HasC.nil _ _) ?hs000 _ [pP s] rfl (one_new w (pP s) w.heap.size HBd.out).reads ?hb000 ?_))
      case hs000 => simp
      case hb000 => simp
      intro v1 w1 hH hb
      have HH1 := hid (show HasC w1 w.heap.size v1 [pP s] from hH)
      have Hb1 := hid (show Below w.heap.size w w1 from ((Below.refl _ _).alloc (Nat.le_refl _) _).trans hb)
      clear hH hb
      obtain ⟨a1, c1, rfl⟩ := HH1.out.form
      simp only [List.length_cons, List.length_nil] at HH1 ⊢
      go_wp2_with fail
      go_ret
      refine ⟨_, rfl, ?_, Hb1.out⟩
      rw [HE.out]
      exact HH1.out
    · skip
      subst hA0
      have HE := hid (show putF 0 (n - 0) s = [pP s, pK ((n - 0 : Nat) : Int)] by unfold putF idS; (try rw [if_pos (by omega), if_neg (by omega)]); rfl)
      have hB : (0 : Int) < (n : Int) := by omega
      have HNK := hid (show ((n - 0 : Nat) : Int) = (n : Int) by omega)
      go_enter Try.func17, Try.ntmps17
      go_wp2_with (at_builtin; go_must (refine wpList_append_c rfl _ _ rfl w.heap.size _ [] rfl (HasC.nil _ _) ?hs010 _ [pP s] rfl (one_new w (pP s) w.heap.size HBd.out).reads ?hb010 ?_))
      case hs010 => simp
      case hb010 => simp
      intro v1 w1 hH hb
      have HH1 := hid (show HasC w1 w.heap.size v1 [pP s] from hH)
      have Hb1 := hid (show Below w.heap.size w w1 from ((Below.refl _ _).alloc (Nat.le_refl _) _).trans hb)
      clear hH hb
      obtain ⟨a1, c1, rfl⟩ := HH1.out.form
      simp only [List.length_cons, List.length_nil] at HH1 ⊢
      go_wp2_with (at_builtin; go_must (refine wpList_append_c rfl _ _ rfl w.heap.size _ [pP s] rfl (HH1.out.later ((Below.refl _ _).alloc (Nat.le_refl _) _)) ?hs011 _ [pK (n : Int)] rfl (one_new w1 (pK (n : Int)) w.heap.size Hb1.out.size).reads ?hb011 ?_))
      case hs011 => have := Hb1.out.size; simp; omega
      case hb011 => simp
      intro v2 w2 hH hb
      have HH2 := hid (show HasC w2 w.heap.size v2 [pP s, pK (n : Int)] from hH)
      have Hb2 := hid (show Below w.heap.size w w2 from (Hb1.out.alloc Hb1.out.size _).trans hb)
      clear hH hb
      obtain ⟨a2, c2, rfl⟩ := HH2.out.form
      simp only [List.length_cons, List.length_nil] at HH2 ⊢
      go_wp2_with fail
      go_ret
      refine ⟨_, rfl, ?_, Hb2.out⟩
      rw [HE.out, HNK.out]
      exact HH2.out
  · by_cases hB0 : k = n
    · skip
      subst hB0
      have HE := hid (show putF k (k - k) s = [pK (k : Int), pP s] by unfold putF idS; (try rw [if_neg (by omega), if_pos (by omega)]); rfl)
      have hA : (0 : Int) < (k : Int) := by omega
      go_enter Try.func17, Try.ntmps17
      go_wp2_with (at_builtin; go_must (refine wpList_append_c rfl _ _ rfl w.heap.size _ [] rfl (HasC.nil _ _) ?hs100 _ [pK (k : Int)] rfl (one_new w (pK (k : Int)) w.heap.size HBd.out).reads ?hb100 ?_))
      case hs100 => simp
      case hb100 => simp
      intro v1 w1 hH hb
      have HH1 := hid (show HasC w1 w.heap.size v1 [pK (k : Int)] from hH)
      have Hb1 := hid (show Below w.heap.size w w1 from ((Below.refl _ _).alloc (Nat.le_refl _) _).trans hb)
      clear hH hb
      obtain ⟨a1, c1, rfl⟩ := HH1.out.form
      simp only [List.length_cons, List.length_nil] at HH1 ⊢
      go_wp2_with (at_builtin; go_must (refine wpList_append_c rfl _ _ rfl w.heap.size _ [pK (k : Int)] rfl (HH1.out.later ((Below.refl _ _).alloc (Nat.le_refl _) _)) ?hs101 _ [pP s] rfl (one_new w1 (pP s) w.heap.size Hb1.out.size).reads ?hb101 ?_))
      case hs101 => have := Hb1.out.size; simp; omega
      case hb101 => simp
      intro v2 w2 hH hb
      have HH2 := hid (show HasC w2 w.heap.size v2 [pK (k : Int), pP s] from hH)
      have Hb2 := hid (show Below w.heap.size w w2 from (Hb1.out.alloc Hb1.out.size _).trans hb)
      clear hH hb
      obtain ⟨a2, c2, rfl⟩ := HH2.out.form
      simp only [List.length_cons, List.length_nil] at HH2 ⊢
      go_wp2_with fail
      go_ret
      refine ⟨_, rfl, ?_, Hb2.out⟩
      rw [HE.out]
      exact HH2.out
    · skip
      have HE := hid (show putF k (n - k) s = [pK (k : Int), pP s, pK ((n - k : Nat) : Int)] by unfold putF idS; (try rw [if_neg (by omega), if_neg (by omega)]); rfl)
      have hA : (0 : Int) < (k : Int) := by omega
      have hB : (k : Int) < (n : Int) := by omega
      have HNK := hid (show ((n - k : Nat) : Int) = (n : Int) - (k : Int) by omega)
      go_enter Try.func17, Try.ntmps17
      go_wp2_with (at_builtin; go_must (refine wpList_append_c rfl _ _ rfl w.heap.size _ [] rfl (HasC.nil _ _) ?hs110 _ [pK (k : Int)] rfl (one_new w (pK (k : Int)) w.heap.size HBd.out).reads ?hb110 ?_))
      case hs110 => simp
      case hb110 => simp
      intro v1 w1 hH hb
      have HH1 := hid (show HasC w1 w.heap.size v1 [pK (k : Int)] from hH)
      have Hb1 := hid (show Below w.heap.size w w1 from ((Below.refl _ _).alloc (Nat.le_refl _) _).trans hb)
      clear hH hb
      obtain ⟨a1, c1, rfl⟩ := HH1.out.form
      simp only [List.length_cons, List.length_nil] at HH1 ⊢
      go_wp2_with (at_builtin; go_must (refine wpList_append_c rfl _ _ rfl w.heap.size _ [pK (k : Int)] rfl (HH1.out.later ((Below.refl _ _).alloc (Nat.le_refl _) _)) ?hs111 _ [pP s] rfl (one_new w1 (pP s) w.heap.size Hb1.out.size).reads ?hb111 ?_))
      case hs111 => have := Hb1.out.size; simp; omega
      case hb111 => simp
      intro v2 w2 hH hb
      have HH2 := hid (show HasC w2 w.heap.size v2 [pK (k : Int), pP s] from hH)
      have Hb2 := hid (show Below w.heap.size w w2 from (Hb1.out.alloc Hb1.out.size _).trans hb)
      clear hH hb
      obtain ⟨a2, c2, rfl⟩ := HH2.out.form
      simp only [List.length_cons, List.length_nil] at HH2 ⊢
      go_wp2_with (at_builtin; go_must (refine wpList_append_c rfl _ _ rfl w.heap.size _ [pK (k : Int), pP s] rfl (HH2.out.later ((Below.refl _ _).alloc (Nat.le_refl _) _)) ?hs112 _ [pK ((n : Int) - (k : Int))] rfl (one_new w2 (pK ((n : Int) - (k : Int))) w.heap.size Hb2.out.size).reads ?hb112 ?_))
      case hs112 => have := Hb2.out.size; simp; omega
      case hb112 => simp
      intro v3 w3 hH hb
      have HH3 := hid (show HasC w3 w.heap.size v3 [pK (k : Int), pP s, pK ((n : Int) - (k : Int))] from hH)
      have Hb3 := hid (show Below w.heap.size w w3 from (Hb2.out.alloc Hb2.out.size _).trans hb)
      clear hH hb
      obtain ⟨a3, c3, rfl⟩ := HH3.out.form
      simp only [List.length_cons, List.length_nil] at HH3 ⊢
      go_wp2_with fail
      go_ret
      refine ⟨_, rfl, ?_, Hb3.out⟩
      rw [HE.out, HNK.out]
      exact HH3.out
end Go.Proofs.Ytlgdllbhddnokaa

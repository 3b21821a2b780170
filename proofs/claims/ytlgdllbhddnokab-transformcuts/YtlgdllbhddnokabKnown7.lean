/- The contracts of the laws' own functions known and few (chapter 7). -/
import Derived.Test.YtlgdllbhddnokabObT
import Derived.Test.YtlgdllbhddnokabObA
namespace Go.Proofs.Ytlgdllbhddnokab
open Go.RowKit
set_option linter.unusedSimpArgs false
set_option linter.unusedVariables false

theorem put_ob (w : World) (s : ByteArray) (h0 : 1 ≤ s.size) (h : s.size ≤ 400) : Ob (w.alloc (.cells (C [pP s]).toArray 42)) (.slice (some ⟨w.heap.size, 0, none⟩) 1 1) [pP s] 0 s.size :=
  ⟨(parts_new w [pP s] 1 rfl).reads, good_mk (okP h0) (fun c hc => by simp at hc), rfl, by rw [out_cons, outl_P]; simp [outS], by omega, h⟩
theorem px_known : PX [pP ⟨#[97]⟩] [pP ⟨#[98]⟩] [pP ⟨#[97]⟩, pK ((1 : Nat) : Int)] [pK ((1 : Nat) : Int), pP ⟨#[98]⟩] 2 := by
  have hp : PR (normS [pP ⟨#[97]⟩]) (normS [pP ⟨#[98]⟩]) [pP ⟨#[97]⟩, pK ((1 : Nat) : Int)] [pK ((1 : Nat) : Int), pP ⟨#[98]⟩] :=
    pr_steps.pa (pP ⟨#[97]⟩) [] _ _ _ rfl (pr_steps.pb (pP ⟨#[98]⟩) [] [] [] [] rfl (fun c hc => by simp at hc) pr_steps.nil)
  have g : ∀ x : UInt8, Good [pP ⟨#[x]⟩] := fun x => good_mk (okP (by simp [ByteArray.size])) (fun c hc => by simp at hc)
  exact ⟨hp, pr_pa hp (norm_good (g 97)) (norm_good (g 98)) rfl, rfl⟩

set_option maxRecDepth 100000 in
set_option maxHeartbeats 1000000 in
theorem known7_any (w : World) : Calls Try.prog 6 #[] w fun e w' => e = .returned (.bool true) ∧ Below w.heap.size w w' := by
  go_enter Try.func6, Try.ntmps6
  go_wp2_with fail
  have h1 := put_ob w ⟨#[97]⟩ (by decide) (by decide)
  have h2 := put_ob (w.alloc (.cells (C [pP ⟨#[97]⟩]).toArray 42)) ⟨#[98]⟩ (by decide) (by decide)
  rw [show (w.alloc (.cells (C [pP ⟨#[97]⟩]).toArray 42)).heap.size = w.heap.size + 1 by simp] at h2
  refine (pair_ob (h1.later ((Below.refl _ _).alloc (Nat.le_refl _) _)) h2 px_known (by decide)).mono ?_
  rintro _ w1 ⟨vx, vy, rfl, hx, hy, hb⟩
  have HX := hid hx
  have HY := hid hy
  have Hb1 := hid (show Below w.heap.size w w1 from below_seq (((Below.refl _ _).alloc (Nat.le_refl _) _).alloc (by simp) _) hb)
  clear h1 h2 hx hy hb
  go_wp2_with fail
  refine (apply_ob ⟨#[98]⟩ HX.out rfl (by decide)).mono ?_
  rintro _ wx ⟨rfl, rfl⟩
  rw [show (⟨(applyS (⟨#[98]⟩ : ByteArray).data.toList (normS [pP ⟨#[97]⟩, pK ((1 : Nat) : Int)])).toArray⟩ : ByteArray) = ⟨#[97, 98]⟩ from rfl]
  go_wp2_with fail
  refine (apply_ob ⟨#[97]⟩ HY.out rfl (by decide)).mono ?_
  rintro _ wx ⟨rfl, rfl⟩
  rw [show (⟨(applyS (⟨#[97]⟩ : ByteArray).data.toList (normS [pK ((1 : Nat) : Int), pP ⟨#[98]⟩])).toArray⟩ : ByteArray) = ⟨#[97, 98]⟩ from rfl]
  go_wp2_with fail
  go_ret
  exact ⟨rfl, Hb1.out⟩

set_option maxHeartbeats 1000000 in
theorem few_any (ao : Option Addr) (cap : Nat) (l : List UInt8) (w : World) (hr : Reads w (.slice ao l.length cap) (B l)) (hm : l.length ≤ maxLen) :
    Calls Try.prog 11 #[.slice ao l.length cap] w fun e w' => ∃ d : ByteArray, e = .returned (.string d) ∧ d.size ≤ 60 ∧ w' = w := by
  have hcap : l.length ≤ cap := by obtain ⟨a, c, e, h1, _⟩ := hr; injection e with e1 e2 e3; subst e3; rwa [B_length] at h1
  obtain ⟨k, hif, hk1, hk2⟩ : ∃ k : Nat, (if (60 : Int) < (l.length : Int) then (60 : Int) else (l.length : Int)) = (k : Int) ∧ k ≤ l.length ∧ k ≤ 60 := by
    by_cases h : 60 < l.length
    · exact ⟨60, by rw [if_pos (by omega)]; rfl, by omega, by omega⟩
    · exact ⟨l.length, by rw [if_neg (by omega)], by omega, by omega⟩
  obtain ⟨p, c, hsl, hrd⟩ : ∃ p c, (∀ wx, (Instr.slice 33 (.slice ao l.length cap) none (some (.int .i64 (k : Int))) none).run Try.prog wx = .ok (.slice p k c) wx) ∧ Reads w (.slice p k c) (B (l.take k)) := by
    obtain ⟨a, c, e, h1, h2, h3⟩ := hr
    injection e with e1 e2 e3
    subst e1 e3
    have hkl : (B (l.take k)).length = k := by rw [B_length, List.length_take]; omega
    by_cases h0 : cap = 0
    · subst h0
      have hk0 : k = 0 := by omega
      subst hk0
      exact ⟨ao, 0, fun wx => by go_simp, ⟨ao, 0, by rw [hkl], by rw [hkl]; omega, fun _ => rfl, fun _ _ j u hj => by simp [B] at hj⟩⟩
    · refine ⟨ao.map fun x => x.add 0, cap, fun wx => ?_, ⟨_, cap, by rw [hkl], by rw [hkl]; omega, ?_, ?_⟩⟩
      · have hkc : (k : Int) ≤ (cap : Int) := by omega
        go_simp
      · intro h; cases ao with
        | none => exact h2 rfl
        | some x => cases h
      · intro ad he j u hj
        cases ao with
        | none => cases he
        | some x =>
          have hx0 : x.add 0 = x := by simp [Addr.add]
          simp only [Option.map_some, hx0] at he
          cases he
          refine h3 _ rfl j u ?_
          rw [B_get] at hj ⊢
          rw [List.getElem?_take] at hj
          split at hj
          · exact hj
          · simp at hj
  have hst := run_string (P := Try.prog) w 33 9 5 Try.underlying33 Try.underlying5 Try.underlying9 hrd
  have HD := hid (show (⟨(l.take k).toArray⟩ : ByteArray).size ≤ 60 by rw [size_list]; simp; omega)
  generalize (⟨(l.take k).toArray⟩ : ByteArray) = d at *
  clear hr hrd
  go_enter Try.func11, Try.ntmps11
  go_wp2_with fail
  go_ret
  exact ⟨d, rfl, HD.out, rfl⟩
end Go.Proofs.Ytlgdllbhddnokab

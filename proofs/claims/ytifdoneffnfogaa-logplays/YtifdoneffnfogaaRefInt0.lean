/- The contracts of the second say's Reader: Int and Text. -/
import Derived.Test.YtifdoneffnfogaaRefRead0
import Derived.Deep.RegionHeld3
namespace Go.Proofs.Ytifdoneffnfogaa
open Go.RowKit
variable {N : Nat}

theorem Reads.lit {w : World} {ao : Option Addr} {n cap : Nat} {l : List UInt8} (h : Reads w (.slice ao n cap) (B l)) (hne : 0 < l.length) :
    ∃ b off, ao = some ⟨b, off, none⟩ ∧ ∀ j x, l[j]? = some x → w.cell? ⟨b, off + j, none⟩ = some (.int .u8 x.toNat) := by
  have hcap := h.cap
  obtain ⟨a2, c2, e2, h21, h22, h23⟩ := h
  injection e2 with e21 e22 e23
  subst e21 e23
  cases ao with
  | none => have := h22 rfl; omega
  | some ad =>
    obtain ⟨x0, hx0⟩ : ∃ x, l[0]? = some x := ⟨_, List.getElem?_eq_getElem hne⟩
    have h0 := h23 ad rfl 0 (.int .u8 x0.toNat) (by rw [B_get, hx0]; rfl)
    have h0' : w.cell? ad = some (.int .u8 x0.toNat) := by simpa [Addr.add] using h0
    obtain ⟨b, off, sp⟩ := ad
    have hsp : sp = none := by
      cases sp with
      | none => rfl
      | some z => simp [World.cell?] at h0'; split at h0' <;> simp at h0'
    subst hsp
    refine ⟨b, off, rfl, fun j x hj => ?_⟩
    have h1 := h23 _ rfl j (.int .u8 x.toNat) (by rw [B_get, hj]; rfl)
    rwa [Addr.add_lit] at h1

theorem num_lt : ∀ l : List UInt8, num l < 256 ^ l.length
  | [] => by simp [num]
  | b :: r => by
    have h1 := num_lt r
    have h2 := b.toNat_lt
    rw [num, List.length_cons, Nat.pow_succ]
    omega

theorem or_low (u x : Nat) (hu : u < 72057594037927936) (hx : x < 256) : bits .or .u64 (IntKind.u64.wrap ((u : Int) * 256)) (x : Int) = ((x + 256 * u : Nat) : Int) := by
  have e1 : IntKind.u64.wrap ((u : Int) * 256) = ((u * 256 : Nat) : Int) := by rw [IntKind.wrap_u64]; omega
  rw [e1, bits_or_u64_nat _ _ (by omega) (by omega)]
  have e4 := Nat.two_pow_add_eq_or_of_lt (i := 8) (b := x) (by omega) u
  rw [Nat.mul_comm u 256]
  have e5 : (256 : Nat) = 2 ^ 8 := rfl
  rw [e5, ← e4, Nat.add_comm]

set_option maxRecDepth 100000 in
set_option maxHeartbeats 400000 in
theorem frInt_yes (p : Nat) (l : List UInt8) (w : World) (hR : FR N w p (l, 0)) (h8 : 8 ≤ l.length) :
    Calls Try.prog 34 #[.pointer (some ⟨p, 0, none⟩)] w fun x w' => x = .returned (.int .i64 (wrap64 (num (l.take 8)))) ∧ FR N w' p (l.drop 8, 0) ∧ w.grownBy w' (some p) := by
  obtain ⟨t, ht⟩ : ∃ t, l.take 8 = t := ⟨_, rfl⟩
  have htl : t.length = 8 := by rw [← ht, List.length_take]; omega
  have HT := hid ht
  have HTL := hid htl
  rw [ht]
  clear ht htl
  go_enter Try.func34, Try.ntmps34
  go_wp2_with fail
  refine (frTake_yes p l 8 _ hR h8).mono ?_
  rintro e w1 ⟨ao, cap, rfl, hr1, hR1, hg1⟩
  rw [HT.out] at hr1
  have hcap : 8 ≤ cap := by have := hr1.cap; rwa [HTL.out] at this
  obtain ⟨b, off, rfl, hcell⟩ := hr1.lit (by rw [HTL.out]; omega)
  have HC := hid hcell
  have HR1 := hid hR1
  have HG1 := hid hg1
  clear hr1 hcell hR1 hg1 hR
  go_wp2_with fail
  go_loop [3, 5] (fun u i => ∃ k : Nat, k ≤ 8 ∧ i = .int .i64 ((k : Int) - 1) ∧ u = .int .u64 (num (t.drop k) : Nat)) (fun _ i => (intOf i + 1).toNat)
  case atStart => exact ⟨8, Nat.le_refl _, rfl, by rw [List.drop_of_length_le (by rw [HTL.out]; exact Nat.le_refl _)]; rfl⟩
  case round =>
    obtain ⟨k, hk, rfl, rfl⟩ := hrel
    cases k with
    | zero =>
      go_wp2_with fail
      go_ret
      exact ⟨rfl, HR1.out, HG1.out⟩
    | succ j =>
      have hj : (j : Int) < 8 := by omega
      obtain ⟨x, hx⟩ : ∃ x, t[j]? = some x := ⟨_, List.getElem?_eq_getElem (by rw [HTL.out]; omega)⟩
      have hc := HC.out j x hx
      have hx255 : (x.toNat : Int) ≤ 255 := by have := x.toNat_lt; omega
      have HX := hid hx
      clear hx
      rw [show ((j + 1 : Nat) : Int) - 1 = (j : Int) by omega]
      go_wp2_with fail
      go_round
      case rel =>
        have e1 : num (t.drop j) = x.toNat + 256 * num (t.drop (j + 1)) := by
          have hj' := List.getElem?_eq_some_iff.1 HX.out
          rw [List.drop_eq_getElem_cons hj'.1, hj'.2, num]
        have e2 : num (t.drop (j + 1)) < 72057594037927936 := by
          have h1 := num_lt (t.drop (j + 1))
          have h2 : 256 ^ (t.drop (j + 1)).length ≤ 256 ^ 7 := Nat.pow_le_pow_right (by omega) (by rw [List.length_drop, HTL.out]; omega)
          omega
        exact ⟨j, by omega, rfl, by rw [e1, or_low _ _ e2 x.toNat_lt]⟩
      case measure => simp [intOf]

set_option maxRecDepth 100000 in
set_option maxHeartbeats 400000 in
theorem frInt_no (p : Nat) (s : St) (w : World) (hR : FR N w p s) (h : s.2 = 0 → s.1.length < 8) :
    Calls Try.prog 34 #[.pointer (some ⟨p, 0, none⟩)] w fun x w' => x = .returned (.int .i64 0) ∧ FR N w' p (failS s 8) ∧ w.grownBy w' (some p) := by
  have HN := hid (show s.2 = 0 → (s.1.length : Int) < 8 from fun e => by have := h e; omega)
  clear h
  go_enter Try.func34, Try.ntmps34
  go_wp2_with fail
  refine (frTake_no p s 8 (by omega) (by omega) _ hR HN.out).mono ?_
  rintro e w1 ⟨rfl, hR1, hg1⟩
  have HR1 := hid hR1
  clear hR hR1
  go_wp2_with fail
  go_loop [3, 5] (fun u i => i = .int .i64 (-1) ∧ u = .int .u64 0) (fun _ _ => 0)
  case atStart => exact ⟨rfl, rfl⟩
  case round =>
    obtain ⟨rfl, rfl⟩ := hrel
    go_wp2_with fail
    go_ret
    exact ⟨rfl, HR1.out, hg1⟩

/-- Both at once: what the first say answers. -/
theorem frInt_any (p : Nat) (s : St) (w : World) (hR : FR N w p s) :
    Calls Try.prog 34 #[.pointer (some ⟨p, 0, none⟩)] w fun x w' => x = .returned (.int .i64 (intR (jn 8 0 0 s))) ∧ FR N w' p (jn 8 0 0 s).2 ∧ w.grownBy w' (some p) := by
  obtain ⟨l, err⟩ := s
  by_cases he : err = 0
  · subst he
    by_cases h8 : 8 ≤ l.length
    · rw [jn_ok 8 0 0 l h8]
      have e1 : intR (0 + num (l.take 8) * 256 ^ 0, (l.drop 8, (0 : Int))) = wrap64 (num (l.take 8)) := by simp [intR]
      rw [e1]
      exact frInt_yes p l w hR h8
    · have hs := jn_short 8 0 0 l (by omega)
      have e1 : intR (jn 8 0 0 (l, 0)) = 0 := by unfold intR; rw [hs]; simp
      have e2 : failS (l, 0) 8 = ([], 8) := by simp [failS]
      rw [e1, hs, ← e2]
      exact frInt_no p (l, 0) w hR (fun _ => by show l.length < 8; omega)
  · have hs := jn_err 8 0 0 (l, err) he
    have e1 : intR (jn 8 0 0 (l, err)) = 0 := by rw [hs]; simp [intR, he]
    have e2 : failS (l, err) 8 = (l, err) := by simp [failS, he]
    rw [e1, hs]
    have h := frInt_no p (l, err) w hR (fun h => absurd h he)
    rwa [e2] at h

theorem grown_of_drew {w w' : World} {r : Option Nat} (h : w.drew.grownBy w' r) : w.grownBy w' r := ⟨h.os, h.tape, h.output, h.size, h.block⟩

end Go.Proofs.Ytifdoneffnfogaa

/- Operations in memory with what they go over and make: the contracts of the second say's In and Out and of Make, once more, in short. -/
import Derived.Test.YtlgdllbhddnokabMade4
import Derived.Test.YtlgdllbhddnokabCompS
import Derived.Test.YtlgdllbhddnokabRefIO
namespace Go.Proofs.Ytlgdllbhddnokab
open Go.RowKit
set_option linter.unusedSimpArgs false
set_option linter.unusedVariables false

theorem good_len : ∀ {o : List Cp}, Good o → (o.length : Int) ≤ inS o + outS o
  | [], _ => by simp [inS, outS]
  | c :: o, h => by
    have ih := good_len h.tl
    rw [in_cons, out_cons, List.length_cons]
    rcases ok_cases h.hd with ⟨m, hm, rfl⟩ | ⟨s, hs, rfl⟩ | ⟨m, hm, rfl⟩
    · rw [over_K, outl_K]; omega
    · rw [over_P, outl_P]; omega
    · rw [over_X, outl_X]; omega

/-- v reads as o, which does something with each part, goes over i bytes and makes u. -/
structure Ob (w : World) (v : Value) (o : List Cp) (i u : Nat) : Prop where
  rc : RC w v o
  good : Good o
  ins : inS o = i
  outs : outS o = u
  hi : i ≤ 400
  hu : u ≤ 400

section
variable {w w' : World} {v va vb : Value} {o a b : List Cp} {i u j t : Nat}
theorem Ob.later (h : Ob w v o i u) (hb : Below w.heap.size w w') : Ob w' v o i u := ⟨h.rc.later hb, h.good, h.ins, h.outs, h.hi, h.hu⟩
theorem Ob.len (h : Ob w v o i u) : o.length ≤ 800 := by
  have := good_len h.good
  have := h.ins
  have := h.outs
  have := h.hi
  have := h.hu
  omega
theorem Ob.fit (h : Ob w v o i u) : Fit o := fit_of h.good (by have := h.len; omega) (by have := h.ins; have := h.hi; omega) (by have := h.outs; have := h.hu; omega)

theorem rin_ob (h : Ob w v o i u) : Calls Try.prog 14 #[v] w fun e w' => e = .returned (.int .i64 (i : Int)) ∧ w' = w := by
  refine (refIn_any v o w h.rc h.fit h.good).mono ?_
  rintro e w' ⟨rfl, rfl⟩
  exact ⟨by rw [h.ins], rfl⟩
theorem rout_ob (h : Ob w v o i u) : Calls Try.prog 28 #[v] w fun e w' => e = .returned (.int .i64 (u : Int)) ∧ w' = w := by
  refine (refOut_any v o w h.rc h.fit).mono ?_
  rintro e w' ⟨rfl, rfl⟩
  exact ⟨by rw [h.outs], rfl⟩
theorem make_ob (n : Nat) (hn : n ≤ 120) (ao : Option Addr) (len cap : Nat) (hns : NS w ao len) (hcap : len ≤ cap) (hlen : len ≤ 9223372036854775807) :
    Calls Try.prog 7 #[.int .i64 n, .slice ao len cap] w fun e w' => ∃ v, e = .returned v ∧ ∃ (o : List Cp) (u : Nat), Ob w' v o n u ∧ u ≤ 120 ∧ Below w.heap.size w w' := by
  refine (Make_any n hn ao len cap w hns hcap hlen).mono ?_
  rintro e w' ⟨v, rfl, o, hH, hb, hM⟩
  obtain ⟨u, hu⟩ : ∃ u : Nat, outS o = (u : Int) := Int.eq_ofNat_of_zero_le hM.good.outS_nn
  have := hM.outs
  exact ⟨v, rfl, o, u, ⟨hH.reads, hM.good, hM.ins, hu, by omega, by omega⟩, by omega, hb⟩
end
end Go.Proofs.Ytlgdllbhddnokab

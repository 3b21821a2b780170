/- The contracts of a Reader's Fail, End, take and Byte, of New and of bytes.Clone. -/
import Derived.Test.YtbbmeeijebkpbaaKnown
import Derived.WalkLawsBesides
namespace Go.Proofs.Ytbbmeeijebkpbaa
open Go.RowKit

/-- What a Reader holds: what is left, and its error. -/
abbrev St := List UInt8 × Int

/-- A Reader in block p. -/
def RD (w : World) (p : Nat) (s : St) : Prop :=
  ∃ ao cap, w.heap[p]? = some (.cells #[.slice ao s.1.length cap, .int .i64 s.2] 50 (0, 0)) ∧ Reads w (.slice ao s.1.length cap) (B s.1)

section
variable {w w' : World} {p : Nat} {s : St}

theorem cells2 {v0 v1 : Value} {t : TypeId} (h : w.heap[p]? = some (.cells #[v0, v1] t (0, 0))) :
    w.cell? ⟨p, 0, none⟩ = some v0 ∧ w.cell? ⟨p, 1, none⟩ = some v1 ∧ w.frozen? ⟨p, 0, none⟩ = false ∧ w.frozen? ⟨p, 1, none⟩ = false := by
  simp [World.cell?, World.frozen?, h]

theorem set2_0 {v0 v1 u : Value} {t : TypeId} (h : w.heap[p]? = some (.cells #[v0, v1] t (0, 0))) : (w.setCell ⟨p, 0, none⟩ u).heap[p]? = some (.cells #[u, v1] t (0, 0)) := by
  rw [setCell_eq_setRow w p 0 #[v0, v1] t (0, 0) u h]
  exact setRow_heap w p _ _ t _ h

theorem set2_1 {v0 v1 u : Value} {t : TypeId} (h : w.heap[p]? = some (.cells #[v0, v1] t (0, 0))) : (w.setCell ⟨p, 1, none⟩ u).heap[p]? = some (.cells #[v0, u] t (0, 0)) := by
  rw [setCell_eq_setRow w p 1 #[v0, v1] t (0, 0) u h]
  exact setRow_heap w p _ _ t _ h

theorem grown_setCell (w : World) (p off : Nat) (u : Value) : w.grownBy (w.setCell ⟨p, off, none⟩ u) (some p) :=
  ⟨rfl, rfl, rfl, by simp [World.setCell], fun k _ hne => Below.heap_setCell w _ u k (fun e => hne (by simp [e]))⟩

theorem grown_trans {w w1 w2 : World} {r : Option Nat} (a : w.grownBy w1 r) (b : w1.grownBy w2 r) : w.grownBy w2 r :=
  ⟨b.os.trans a.os, b.tape.trans a.tape, b.output.trans a.output, Nat.le_trans a.size b.size, fun k hk hne => by rw [b.block k (Nat.lt_of_lt_of_le hk a.size) hne, a.block k hk hne]⟩

/-- What reads as bytes does not lie in a block of a slice and a number: writing there leaves it. -/
theorem Reads.off {v0 v : Value} {t : TypeId} {n : Int} {ao : Option Addr} {k c : Nat} {l : List UInt8} (hv : v0 = .slice ao k c) (h : w.heap[p]? = some (.cells #[v0, .int .i64 n] t (0, 0))) (hr : Reads w v (B l)) (hg : w.grownBy w' (some p)) : Reads w' v (B l) := by
  subst hv
  obtain ⟨ao, cap, rfl, hc, hn, hcell⟩ := hr
  refine ⟨ao, cap, rfl, hc, hn, fun ad he j u hj => ?_⟩
  have hx := hcell ad he j u hj
  refine hg.cell hx ?_
  intro hb
  have hb' : (ad.add j).block = p := by simpa using hb
  rw [B_get] at hj
  cases hl : l[j]? with
  | none => rw [hl] at hj; cases hj
  | some b =>
    rw [hl] at hj
    simp only [Option.map_some, Option.some.injEq] at hj
    subst hj
    simp only [World.cell?, hb', h] at hx
    split at hx
    · cases hx
    · generalize (ad.add j).off = o at hx
      match o, hx with
      | 0, hx => simp at hx
      | 1, hx => simp at hx
      | o + 2, hx => simp at hx

theorem RD.lt (h : RD w p s) : p < w.heap.size := by
  obtain ⟨ao, cap, hh, _⟩ := h
  exact (Array.getElem?_eq_some_iff.1 hh).1

theorem RD.later (h : RD w p s) (hb : Below w.heap.size w w') : RD w' p s := by
  have hl := h.lt
  obtain ⟨ao, cap, hh, hr⟩ := h
  exact ⟨ao, cap, by rw [hb.block p hl]; exact hh, hr.later hb⟩

theorem RD.other {p' : Nat} {s' : St} (h : RD w p s) (h' : RD w p' s') (hg : w.grownBy w' (some p')) (hne : p ≠ p') : RD w' p s := by
  have hl := h.lt
  obtain ⟨ao, cap, hh, hr⟩ := h
  obtain ⟨ao', cap', hh', _⟩ := h'
  exact ⟨ao, cap, by rw [hg.block p hl (by simpa using hne)]; exact hh, Reads.off rfl hh' hr hg⟩
end

theorem below_at {a w w' : World} {p : Nat} (hb : Below a.heap.size a w) (hg : w.grownBy w' (some p)) (hp : a.heap.size ≤ p) : Below a.heap.size a w' :=
  hb.grown hg hb.size (fun k hk => by cases hk; exact hp)

def failS (s : St) (e : Int) : St := if s.2 = 0 ∧ e ≠ 0 then ([], e) else s
def endS (s : St) : Int := if s.2 = 0 ∧ s.1 ≠ [] then 9 else s.2

set_option maxRecDepth 100000 in
set_option maxHeartbeats 400000 in
theorem End_any (p : Nat) (s : St) (w : World) (hR : RD w p s) (hm : s.1.length ≤ maxLen) : Calls Try.prog 27 #[.pointer (some ⟨p, 0, none⟩)] w fun e w' => e = .returned (.int .i64 (endS s)) ∧ w' = w := by
  obtain ⟨l, err⟩ := s
  obtain ⟨ao, cap, hh, hr⟩ := hR
  obtain ⟨c0, c1, f0, f1⟩ := cells2 hh
  clear hh hr f0 f1
  unfold maxLen at hm
  simp only at c0 c1 hm
  by_cases he : err = 0
  · subst he
    by_cases hl : 0 < (l.length : Int)
    · have HE : Hid (endS (l, 0) = 9) := by
        have : l ≠ [] := by intro h; subst h; simp at hl
        show endS (l, 0) = 9
        simp [endS, this]
      go_enter Try.func27, Try.ntmps27
      go_wp2
      go_ret
      exact ⟨by rw [HE.out]; rfl, rfl⟩
    · have hl' : (l.length : Int) ≤ 0 := by omega
      have HE : Hid (endS (l, 0) = 0) := by
        have : l = [] := List.eq_nil_of_length_eq_zero (by omega)
        show endS (l, 0) = 0
        simp [endS, this]
      go_enter Try.func27, Try.ntmps27
      go_wp2
      go_ret
      exact ⟨by rw [HE.out]; rfl, rfl⟩
  · have he' : (err == 0) = false := by simpa using he
    have HE : Hid (endS (l, err) = err) := by
      show endS (l, err) = err
      simp [endS, he]
    go_enter Try.func27, Try.ntmps27
    go_wp2
    go_ret
    exact ⟨by rw [HE.out]; rfl, rfl⟩

set_option maxRecDepth 100000 in
set_option maxHeartbeats 400000 in
theorem Fail_any (p : Nat) (s : St) (e : Int) (w : World) (hR : RD w p s) :
    Calls Try.prog 25 #[.pointer (some ⟨p, 0, none⟩), .int .i64 e] w fun x w' => x = .returned (.tuple #[]) ∧ RD w' p (failS s e) ∧ w.grownBy w' (some p) := by
  obtain ⟨l, err⟩ := s
  have HR : Hid (RD w p (l, err)) := hR
  obtain ⟨ao, cap, hh, hr⟩ := hR
  obtain ⟨c0, c1, f0, f1⟩ := cells2 hh
  have HH : Hid (w.heap[p]? = some (.cells #[.slice ao l.length cap, .int .i64 err] 50 (0, 0))) := hh
  clear hh hr
  simp only at c0 c1
  by_cases he : err = 0
  · subst he
    by_cases h0 : e = 0
    · subst h0
      go_enter Try.func25, Try.ntmps25
      go_wp2
      refine bodyPost_ret (results_none rfl _ _ _) rfl ?_
      exact ⟨rfl, by simpa [failS] using HR.out, World.grownBy.refl _ _⟩
    · have h0' : (e == 0) = false := by simpa using h0
      go_enter Try.func25, Try.ntmps25
      go_wp2
      go_end0
      refine ⟨rfl, ?_, grown_trans (grown_setCell _ _ _ _) (grown_setCell _ _ _ _)⟩
      exact ⟨none, 0, by simpa [failS, h0] using set2_0 (set2_1 HH.out), by simpa [failS, h0, B] using Reads.nil _⟩
  · have he' : (err == 0) = false := by simpa using he
    have he2 : (err != 0) = true := by simpa using he
    go_enter Try.func25, Try.ntmps25
    go_wp2
    refine bodyPost_ret (results_none rfl _ _ _) rfl ?_
    exact ⟨rfl, by simpa [failS, he] using HR.out, World.grownBy.refl _ _⟩
end Go.Proofs.Ytbbmeeijebkpbaa

/- The contracts of a Reader's Fail, End, take and Byte, of New and of bytes.Clone. -/
import Derived.Test.YtifdoneffnfogabWrite0
import Derived.WalkLawsBesides
namespace Go.Proofs.Ytifdoneffnfogab
open Go.RowKit
variable {N : Nat}

/-- What a Reader holds: what is left, and its error. -/
abbrev St := List UInt8 × Int

/-- A slice that reads as bytes, in a block below N (if there are any). -/
structure RdN (N : Nat) (w : World) (ao : Option Addr) (k cap : Nat) (l : List UInt8) : Prop where
  reads : Reads w (.slice ao k cap) (B l)
  blk : ∀ ad, ao = some ad → 0 < l.length → ad.block < N
theorem RdN.later {N : Nat} {w w1 : World} {ao : Option Addr} {k cap : Nat} {l : List UInt8} (h : RdN N w ao k cap l) (hb : Below w.heap.size w w1) : RdN N w1 ao k cap l := ⟨h.reads.later hb, h.blk⟩
theorem RdN.nil (N : Nat) (w : World) : RdN N w none 0 0 [] := ⟨Reads.nil _, fun ad h => by cases h⟩
/-- What reads as bytes lies in the heap. -/
theorem RdN.own {w : World} {ao : Option Addr} {k cap : Nat} {l : List UInt8} (h : Reads w (.slice ao k cap) (B l)) : RdN w.heap.size w ao k cap l := ⟨h, fun ad he h0 => by
  obtain ⟨a, c, e, h1, h2, h3⟩ := h
  injection e with e1 e2 e3
  subst e1
  cases l with
  | nil => simp at h0
  | cons b r =>
    have h4 := h3 ad he 0 (.int .u8 b.toNat) rfl
    rw [Addr.add_zero'] at h4
    by_cases hlt : ad.block < w.heap.size
    · exact hlt
    · simp [World.cell?, Array.getElem?_eq_none (Nat.le_of_not_lt hlt)] at h4⟩
theorem RdN.mono {N M : Nat} {w : World} {ao : Option Addr} {k cap : Nat} {l : List UInt8} (h : RdN N w ao k cap l) (hm : N ≤ M) : RdN M w ao k cap l := ⟨h.reads, fun ad h1 h2 => Nat.lt_of_lt_of_le (h.blk ad h1 h2) hm⟩
/-- A block from N on may be written to. -/
theorem RdN.apart {N : Nat} {w w' : World} {q : Nat} {ao : Option Addr} {k cap : Nat} {l : List UInt8} (h : RdN N w ao k cap l) (hg : w.grownBy w' (some q)) (hq : N ≤ q) : RdN N w' ao k cap l := ⟨by
  obtain ⟨a, c, e, h1, h2, h3⟩ := h.reads
  injection e with e1 e2 e3
  subst e1 e2 e3
  refine ⟨ao, cap, rfl, h1, h2, fun ad he j u hj => hg.cell (h3 ad he j u hj) ?_⟩
  have hl : 0 < l.length := by
    have := (List.getElem?_eq_some_iff.1 hj).1
    rw [B_length] at this
    omega
  have := h.blk ad he hl
  intro hb
  have hb' : (ad.add j).block = q := by simpa using hb
  have hc : (ad.add j).block = ad.block := by unfold Addr.add; split <;> rfl
  omega, h.blk⟩

/-- A Reader in block p. -/
def RD (N : Nat) (w : World) (p : Nat) (s : St) : Prop :=
  ∃ ao cap, w.heap[p]? = some (.cells #[.slice ao s.1.length cap, .int .i64 s.2] 57 (0, 0)) ∧ RdN N w ao s.1.length cap s.1

section
variable {w w' : World} {p : Nat} {s : St}

theorem cells2 {v0 v1 : Value} {t : TypeId} (h : w.heap[p]? = some (.cells #[v0, v1] t (0, 0))) :
    w.cell? ⟨p, 0, none⟩ = some v0 ∧ w.cell? ⟨p, 1, none⟩ = some v1 ∧ w.frozen? ⟨p, 0, none⟩ = false ∧ w.frozen? ⟨p, 1, none⟩ = false := by
  simp [World.cell?, World.frozen?, h]

theorem set2_0 {v0 v1 u : Value} {t : TypeId} (h : w.heap[p]? = some (.cells #[v0, v1] t (0, 0))) : (w.setCell ⟨p, 0, none⟩ u).heap[p]? = some (.cells #[u, v1] t (0, 0)) := by
  rw [setCell_eq_setRow w p 0 #[v0, v1] t (0, 0) u h]
  exact setRow_heap w p _ _ t _ h

theorem set2_1 {v0 v1 u : Value} {t : TypeId} (h : w.heap[p]? = some (.cells #[v0, v1] t (0, 0))) : (w.setCell ⟨p, 1, none⟩ u).heap[p]? = some (.cells #[v0, u] t (0, 0)) := by
  rw [setCell_eq_setRow w p 1 #[v0, v1] t (0, 0) u h]
  exact setRow_heap w p _ _ t _ h

theorem grownC (w : World) (p off : Nat) (u : Value) : w.grownBy (w.setCell ⟨p, off, none⟩ u) (some p) :=
  ⟨rfl, rfl, rfl, by simp [World.setCell], fun k _ hne => Below.heap_setCell w _ u k (fun e => hne (by simp [e]))⟩

theorem grownT {w w1 w2 : World} {r : Option Nat} (a : w.grownBy w1 r) (b : w1.grownBy w2 r) : w.grownBy w2 r :=
  ⟨b.os.trans a.os, b.tape.trans a.tape, b.output.trans a.output, Nat.le_trans a.size b.size, fun k hk hne => by rw [b.block k (Nat.lt_of_lt_of_le hk a.size) hne, a.block k hk hne]⟩

/-- What reads as bytes does not lie in a block of a slice and a number: writing there leaves it. -/
theorem Reads.off {v0 v : Value} {t : TypeId} {n : Int} {ao : Option Addr} {k c : Nat} {l : List UInt8} (hv : v0 = .slice ao k c) (h : w.heap[p]? = some (.cells #[v0, .int .i64 n] t (0, 0))) (hr : Reads w v (B l)) (hg : w.grownBy w' (some p)) : Reads w' v (B l) := by
  subst hv
  obtain ⟨ao, cap, rfl, hc, hn, hcell⟩ := hr
  refine ⟨ao, cap, rfl, hc, hn, fun ad he j u hj => ?_⟩
  have hx := hcell ad he j u hj
  refine hg.cell hx ?_
  intro hb
  have hb' : (ad.add j).block = p := by simpa using hb
  rw [B_get] at hj
  cases hl : l[j]? with
  | none => rw [hl] at hj; cases hj
  | some b =>
    rw [hl] at hj
    simp only [Option.map_some, Option.some.injEq] at hj
    subst hj
    simp only [World.cell?, hb', h] at hx
    split at hx
    · cases hx
    · generalize (ad.add j).off = o at hx
      match o, hx with
      | 0, hx => simp at hx
      | 1, hx => simp at hx
      | o + 2, hx => simp at hx

theorem RD.lt (h : RD N w p s) : p < w.heap.size := by
  obtain ⟨ao, cap, hh, _⟩ := h
  exact (Array.getElem?_eq_some_iff.1 hh).1

theorem RD.later (h : RD N w p s) (hb : Below w.heap.size w w') : RD N w' p s := by
  have hl := h.lt
  obtain ⟨ao, cap, hh, hr⟩ := h
  exact ⟨ao, cap, by rw [hb.block p hl]; exact hh, hr.later hb⟩

theorem RD.mono {M : Nat} (h : RD N w p s) (hm : N ≤ M) : RD M w p s := by
  obtain ⟨ao, cap, hh, hr⟩ := h
  exact ⟨ao, cap, hh, hr.mono hm⟩
theorem RD.own (h : RD N w p s) : RD w.heap.size w p s := by
  obtain ⟨ao, cap, hh, hr⟩ := h
  exact ⟨ao, cap, hh, RdN.own hr.reads⟩
/-- A block from N on, another than the Reader's, may be written to. -/
theorem RD.apart {q : Nat} (h : RD N w p s) (hg : w.grownBy w' (some q)) (hq : N ≤ q) (hne : p ≠ q) : RD N w' p s := by
  have hl := h.lt
  obtain ⟨ao, cap, hh, hr⟩ := h
  exact ⟨ao, cap, by rw [hg.block p hl (by simpa using hne)]; exact hh, hr.apart hg hq⟩

theorem RD.other {p' : Nat} {s' : St} (h : RD N w p s) (h' : RD N w p' s') (hg : w.grownBy w' (some p')) (hne : p ≠ p') : RD N w' p s := by
  have hl := h.lt
  obtain ⟨ao, cap, hh, hr⟩ := h
  obtain ⟨ao', cap', hh', _⟩ := h'
  exact ⟨ao, cap, by rw [hg.block p hl (by simpa using hne)]; exact hh, Reads.off rfl hh' hr.reads hg, hr.blk⟩
end

theorem below_at {a w w' : World} {p : Nat} (hb : Below a.heap.size a w) (hg : w.grownBy w' (some p)) (hp : a.heap.size ≤ p) : Below a.heap.size a w' :=
  hb.grown hg hb.size (fun k hk => by cases hk; exact hp)

def failS (s : St) (e : Int) : St := if s.2 = 0 ∧ e ≠ 0 then ([], e) else s
def endS (s : St) : Int := if s.2 = 0 ∧ s.1 ≠ [] then 9 else s.2

set_option maxRecDepth 100000 in
set_option maxHeartbeats 400000 in
theorem Fail_any (p : Nat) (s : St) (e : Int) (w : World) (hR : RD N w p s) :
    Calls Try.prog 33 #[.pointer (some ⟨p, 0, none⟩), .int .i64 e] w fun x w' => x = .returned (.tuple #[]) ∧ RD N w' p (failS s e) ∧ w.grownBy w' (some p) := by
  obtain ⟨l, err⟩ := s
  have HR : Hid (RD N w p (l, err)) := hR
  obtain ⟨ao, cap, hh, hr⟩ := hR
  obtain ⟨c0, c1, f0, f1⟩ := cells2 hh
  have HH : Hid (w.heap[p]? = some (.cells #[.slice ao l.length cap, .int .i64 err] 57 (0, 0))) := hh
  clear hh hr
  simp only at c0 c1
  by_cases he : err = 0
  · subst he
    by_cases h0 : e = 0
    · subst h0
      go_enter Try.func33, Try.ntmps33
      go_wp2
      refine bodyPost_ret (results_none rfl _ _ _) rfl ?_
      exact ⟨rfl, by simpa [failS] using HR.out, World.grownBy.refl _ _⟩
    · have h0' : (e == 0) = false := by simpa using h0
      go_enter Try.func33, Try.ntmps33
      go_wp2
      go_end0
      refine ⟨rfl, ?_, grownT (grownC _ _ _ _) (grownC _ _ _ _)⟩
      exact ⟨none, 0, by simpa [failS, h0] using set2_0 (set2_1 HH.out), by simpa [failS, h0] using RdN.nil N _⟩
  · have he' : (err == 0) = false := by simpa using he
    have he2 : (err != 0) = true := by simpa using he
    go_enter Try.func33, Try.ntmps33
    go_wp2
    refine bodyPost_ret (results_none rfl _ _ _) rfl ?_
    exact ⟨rfl, by simpa [failS, he] using HR.out, World.grownBy.refl _ _⟩
end Go.Proofs.Ytifdoneffnfogab

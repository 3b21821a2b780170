/- The contracts of the second say's Reader: New, Fail, End, take, Byte. -/
import Derived.Test.YtifdoneffnfogaaPlain0
import Derived.Deep.QuietTactic
import Derived.BigQuiet
namespace Go.Proofs.Ytifdoneffnfogaa
open Go.RowKit
variable {N : Nat}

/-- The second say's Reader in block p; where it has an error, what is left does not count. -/
def FR (N : Nat) (w : World) (p : Nat) (s : St) : Prop :=
  ∃ (ao : Option Addr) (cap : Nat) (b : List UInt8) (P : Nat), w.heap[p]? = some (.cells #[.slice ao b.length cap, .int .i64 P, .int .i64 s.2] 81 (0, 0)) ∧ RdN N w ao b.length cap b ∧ P ≤ b.length ∧ b.length ≤ 140737488355328 ∧ (s.2 = 0 → s.1 = b.drop P)

section
variable {w w' : World} {p : Nat} {s : St}

theorem cells3 {v0 v1 v2 : Value} {t : TypeId} (h : w.heap[p]? = some (.cells #[v0, v1, v2] t (0, 0))) :
    w.cell? ⟨p, 0, none⟩ = some v0 ∧ w.cell? ⟨p, 1, none⟩ = some v1 ∧ w.cell? ⟨p, 2, none⟩ = some v2 ∧ w.frozen? ⟨p, 1, none⟩ = false ∧ w.frozen? ⟨p, 2, none⟩ = false := by
  simp [World.cell?, World.frozen?, h]

theorem set3_1 {v0 v1 v2 u : Value} {t : TypeId} (h : w.heap[p]? = some (.cells #[v0, v1, v2] t (0, 0))) : (w.setCell ⟨p, 1, none⟩ u).heap[p]? = some (.cells #[v0, u, v2] t (0, 0)) := by
  rw [setCell_eq_setRow w p 1 #[v0, v1, v2] t (0, 0) u h]
  exact setRow_heap w p _ _ t _ h

theorem set3_2 {v0 v1 v2 u : Value} {t : TypeId} (h : w.heap[p]? = some (.cells #[v0, v1, v2] t (0, 0))) : (w.setCell ⟨p, 2, none⟩ u).heap[p]? = some (.cells #[v0, v1, u] t (0, 0)) := by
  rw [setCell_eq_setRow w p 2 #[v0, v1, v2] t (0, 0) u h]
  exact setRow_heap w p _ _ t _ h

theorem Reads.off3 {v : Value} {t : TypeId} {n m : Int} {ao : Option Addr} {k c : Nat} {l : List UInt8} (h : w.heap[p]? = some (.cells #[.slice ao k c, .int .i64 n, .int .i64 m] t (0, 0))) (hr : Reads w v (B l)) (hg : w.grownBy w' (some p)) : Reads w' v (B l) := by
  obtain ⟨ao, cap, rfl, hc, hn, hcell⟩ := hr
  refine ⟨ao, cap, rfl, hc, hn, fun ad he j u hj => ?_⟩
  have hx := hcell ad he j u hj
  refine hg.cell hx ?_
  intro hb
  have hb' : (ad.add j).block = p := by simpa using hb
  rw [B_get] at hj
  cases hl : l[j]? with
  | none => rw [hl] at hj; cases hj
  | some b =>
    rw [hl] at hj
    simp only [Option.map_some, Option.some.injEq] at hj
    subst hj
    simp only [World.cell?, hb', h] at hx
    split at hx
    · cases hx
    · generalize (ad.add j).off = o at hx
      match o, hx with
      | 0, hx => simp at hx
      | 1, hx => simp at hx
      | 2, hx => simp at hx
      | o + 3, hx => simp at hx

theorem FR.lt (h : FR N w p s) : p < w.heap.size := by
  obtain ⟨_, _, _, _, hh, _⟩ := h
  exact (Array.getElem?_eq_some_iff.1 hh).1

theorem FR.later (h : FR N w p s) (hb : Below w.heap.size w w') : FR N w' p s := by
  have hl := h.lt
  obtain ⟨ao, cap, b, P, hh, hr, hP, hc, hd⟩ := h
  exact ⟨ao, cap, b, P, by rw [hb.block p hl]; exact hh, hr.later hb, hP, hc, hd⟩

theorem FR.mono {M : Nat} (h : FR N w p s) (hm : N ≤ M) : FR M w p s := by
  obtain ⟨ao, cap, b, P, hh, hr, r⟩ := h
  exact ⟨ao, cap, b, P, hh, hr.mono hm, r⟩
theorem FR.drewN (h : FR N w p s) (n : Nat) : FR N (w.drewN n) p s := h.later ⟨rfl, rfl, rfl, Nat.le_refl _, fun _ _ => rfl⟩
theorem RD.drewN (h : RD N w p s) (n : Nat) : RD N (w.drewN n) p s := h.later ⟨rfl, rfl, rfl, Nat.le_refl _, fun _ _ => rfl⟩
theorem FR.own (h : FR N w p s) : FR w.heap.size w p s := by
  obtain ⟨ao, cap, b, P, hh, hr, r⟩ := h
  exact ⟨ao, cap, b, P, hh, RdN.own hr.reads, r⟩
/-- A block from N on, another than the Reader's, may be written to. -/
theorem FR.apart {q : Nat} (h : FR N w p s) (hg : w.grownBy w' (some q)) (hq : N ≤ q) (hne : p ≠ q) : FR N w' p s := by
  have hl := h.lt
  obtain ⟨ao, cap, b, P, hh, hr, hP, hc, hd⟩ := h
  exact ⟨ao, cap, b, P, by rw [hg.block p hl (by simpa using hne)]; exact hh, hr.apart hg hq, hP, hc, hd⟩

theorem FR.other {p' : Nat} {s' : St} (h : FR N w p s) (h' : RD N w p' s') (hg : w.grownBy w' (some p')) (hne : p ≠ p') : FR N w' p s := by
  have hl := h.lt
  obtain ⟨ao, cap, b, P, hh, hr, hP, hc, hd⟩ := h
  obtain ⟨ao', cap', hh', _⟩ := h'
  exact ⟨ao, cap, b, P, by rw [hg.block p hl (by simpa using hne)]; exact hh, ⟨Reads.off rfl hh' hr.reads hg, hr.blk⟩, hP, hc, hd⟩

theorem RD.otherF {p' : Nat} {s' : St} (h : RD N w p s) (h' : FR N w p' s') (hg : w.grownBy w' (some p')) (hne : p ≠ p') : RD N w' p s := by
  have hl := h.lt
  obtain ⟨ao, cap, hh, hr⟩ := h
  obtain ⟨_, _, _, _, hh', _⟩ := h'
  exact ⟨ao, cap, by rw [hg.block p hl (by simpa using hne)]; exact hh, Reads.off3 hh' hr.reads hg, hr.blk⟩

theorem ret_slice {a : Option Addr} {n m c : Nat} (h : n = m) : Ending.returned (.slice a n c) = .returned (.slice a m c) := by rw [h]

theorem grownD (w : World) (n : Nat) (r : Option Nat) : w.grownBy (w.drewN n) r := ⟨rfl, rfl, rfl, Nat.le_refl _, fun _ _ _ => rfl⟩
end

set_option maxRecDepth 100000 in
set_option maxHeartbeats 400000 in
theorem frNew_any (v : Value) (l : List UInt8) (w : World) (hr : Reads w v (B l)) (hl : l.length ≤ 140737488355328) :
    Calls Try.prog 33 #[v] w fun x w' => ∃ p, x = .returned (.pointer (some ⟨p, 0, none⟩)) ∧ w.heap.size ≤ p ∧ FR w.heap.size w' p (l, 0) ∧ Below w.heap.size w w' := by
  have HR := hid hr
  obtain ⟨ao, c, rfl, hc, hn, hcell⟩ := hr
  rw [B_length] at hc HR ⊢
  clear hn hcell
  go_enter Try.func33, Try.ntmps33
  go_wp2_with fail
  go_ret
  exact ⟨w.heap.size, rfl, Nat.le_refl _, ⟨ao, c, l, 0, heap_alloc_new w _, (RdN.own HR.out).later ((Below.refl _ _).alloc (Nat.le_refl _) _), Nat.zero_le _, hl, fun _ => rfl⟩, (Below.refl _ _).alloc (Nat.le_refl _) _⟩

set_option maxRecDepth 100000 in
set_option maxHeartbeats 400000 in
theorem frTake_no (p : Nat) (s : St) (n : Int) (h0 : 0 ≤ n) (h1 : n ≤ 1000000) (w : World) (hR : FR N w p s) (h : s.2 = 0 → (s.1.length : Int) < n) :
    Calls Try.prog 55 #[.pointer (some ⟨p, 0, none⟩), .int .i64 n] w fun x w' => x = .returned (.slice none 0 0) ∧ FR N w' p (failS s 8) ∧ w.grownBy w' (some p) := by
  obtain ⟨l, err⟩ := s
  have HR := hid hR
  obtain ⟨ao, cap, b, P, hh, hr, hP, hbl, hd⟩ := hR
  obtain ⟨c0, c1, c2, f1, f2⟩ := cells3 hh
  have HH := hid hh
  have HRD := hid hr
  simp only at c2 h hd
  by_cases he : err = 0
  · subst he
    have hl : l = b.drop P := hd rfl
    have hlt : (l.length : Int) < n := h rfl
    rw [hl, List.length_drop] at hlt
    have h2 : (b.length : Int) - P < n := by omega
    have h3 : (P : Int) ≤ b.length := by omega
    clear hl hlt h hd hh hr
    go_enter Try.func55, Try.ntmps55
    go_wp2_with fail
    go_quiet (fail)
    go_wp2_with fail
    go_ret
    refine ⟨rfl, ⟨ao, cap, b, P, by simpa [failS] using set3_2 (w := w.drewN _) HH.out, ⟨Reads.off3 (w := w.drewN _) HH.out HRD.out.reads (grownC _ _ _ _), HRD.out.blk⟩, hP, hbl, fun h => by simp [failS] at h⟩, grownT (grownD w _ _) (grownC _ _ _ _)⟩
  · have he' : (err == 0) = false := by simpa using he
    have he2 : (err != 0) = true := by simpa using he
    clear h hd hh hr
    go_enter Try.func55, Try.ntmps55
    go_wp2_with fail
    go_quiet (fail)
    go_wp2_with fail
    go_ret
    have h5 : FR N (w.drewN nq) p (l, err) := HR.out.drewN nq
    exact ⟨rfl, by simpa [failS, he] using h5, grownD w _ _⟩

set_option maxRecDepth 100000 in
set_option maxHeartbeats 400000 in
theorem frTake_yes (p : Nat) (l : List UInt8) (n : Nat) (w : World) (hR : FR N w p (l, 0)) (h : n ≤ l.length) :
    Calls Try.prog 55 #[.pointer (some ⟨p, 0, none⟩), .int .i64 n] w fun x w' => ∃ ao cap, x = .returned (.slice ao n cap) ∧ Reads w' (.slice ao n cap) (B (l.take n)) ∧ FR N w' p (l.drop n, 0) ∧ w.grownBy w' (some p) := by
  have HR := hid hR
  obtain ⟨ao, cap, b, P, hh, hr, hP, hbl, hd⟩ := hR
  obtain ⟨c0, c1, c2, f1, f2⟩ := cells3 hh
  have HH := hid hh
  have HRD := hid hr
  have hcap := hr.reads.cap
  have hl : l = b.drop P := hd rfl
  simp only at c2
  have hn : P + n ≤ b.length := by rw [hl, List.length_drop] at h; omega
  have h2 : ¬ (b.length : Int) - P < n := by omega
  have h2' : decide ((b.length : Int) - P < n) = false := by simpa using h2
  have h3 : (P : Int) + n ≤ b.length := by omega
  have h4 : (P : Int) + n ≤ cap := by omega
  have HL := hid hl
  clear hl hd hh hr
  have HK : Hid (∀ nq W2, W2 = (w.drewN nq).setCell ⟨p, 1, none⟩ (.int .i64 ((P : Int) + n)) → W2.cell? ⟨p, 0, none⟩ = some (.slice ao b.length cap) ∧ W2.cell? ⟨p, 1, none⟩ = some (.int .i64 ((P : Int) + n)) ∧ W2.cell? ⟨p, 2, none⟩ = some (.int .i64 0) ∧ w.grownBy W2 (some p) ∧
      Reads W2 (.slice ao b.length cap) (B b) ∧ FR N W2 p (l.drop n, 0)) := by
    intro nq W2 hW2
    have hh := set3_1 (w := w.drewN nq) (u := .int .i64 ((P : Int) + n)) HH.out
    have hg : (w.drewN nq).grownBy ((w.drewN nq).setCell ⟨p, 1, none⟩ (.int .i64 ((P : Int) + n))) (some p) := grownC _ _ _ _
    have hrd := Reads.off3 (w := w.drewN nq) HH.out HRD.out.reads hg
    rw [← hW2] at hh hg hrd
    obtain ⟨d0, d1, d2, _, _⟩ := cells3 hh
    refine ⟨d0, d1, d2, grownT (grownD w nq _) hg, hrd, ao, cap, b, P + n, ?_, ⟨hrd, HRD.out.blk⟩, hn, hbl, fun _ => by rw [HL.out, List.drop_drop]⟩
    rw [show ((P + n : Nat) : Int) = (P : Int) + n by omega]
    exact hh
  by_cases hcP : cap = P
  · have hn0 : n = 0 := by omega
    subst hn0
    have HT : Hid (∀ W : World, Reads W (.slice ao 0 0) (B (l.take 0))) := fun W => ⟨ao, 0, rfl, Nat.le_refl _, fun _ => rfl, fun ad he j u hj => by simp [B] at hj⟩
    subst hcP
    simp only [Int.natCast_zero, Int.add_zero] at *
    go_enter Try.func55, Try.ntmps55
    go_wp2_with fail
    go_quiet (fail)
    go_wp2_with fail
    obtain ⟨W2, hW2⟩ : ∃ W2, W2 = (w.drewN nq).setCell ⟨p, 1, none⟩ (.int .i64 (cap : Int)) := ⟨_, rfl⟩
    rw [← hW2]
    obtain ⟨k0, k1, k2, hg2, hr2⟩ := HK.out nq W2 hW2
    have HG2 := hid hg2
    have HR2 := hid hr2
    clear hW2 hg2 hr2 c0 c1 c2 f1 f2
    go_quiet (fail)
    go_wp2_with fail
    go_ret
    exact ⟨ao, 0, rfl, HT.out _, HR2.out.2.drewN nq, grownT HG2.out (grownD _ _ _)⟩
  · have HT : Hid (∀ W : World, Reads W (.slice ao b.length cap) (B b) → Reads W (.slice (ao.map fun x => x.add P) n (cap - P)) (B (l.take n))) := by
      intro W hW
      have h1 := (hW.drop hP)
      rw [← HL.out, ← List.length_drop, ← HL.out] at h1
      exact h1.take h
    go_enter Try.func55, Try.ntmps55
    go_wp2_with fail
    go_quiet (fail)
    go_wp2_with fail
    obtain ⟨W2, hW2⟩ : ∃ W2, W2 = (w.drewN nq).setCell ⟨p, 1, none⟩ (.int .i64 ((P : Int) + n)) := ⟨_, rfl⟩
    rw [← hW2]
    obtain ⟨k0, k1, k2, hg2, hr2⟩ := HK.out nq W2 hW2
    have HG2 := hid hg2
    have HR2 := hid hr2
    clear hW2 hg2 hr2 c0 c1 c2 f1 f2
    go_quiet (fail)
    go_wp2_with fail
    go_ret
    exact ⟨_, cap - P, ret_slice (n := P + n - P) (by omega), HT.out _ HR2.out.1, HR2.out.2.drewN nq, grownT HG2.out (grownD _ _ _)⟩

end Go.Proofs.Ytifdoneffnfogaa

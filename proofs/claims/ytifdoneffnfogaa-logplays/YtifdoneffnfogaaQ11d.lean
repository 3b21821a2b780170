/- Texts laid together: RefRead0, RefInt0, RefWrite0, RefHas0. -/
import Derived.Test.YtifdoneffnfogaaPlain0
import Derived.Deep.QuietTactic
import Derived.BigQuiet
import Derived.Deep.RegionHeld3
import Derived.Test.YtifdoneffnfogaaHas
import Derived.Test.YtifdoneffnfogaaBytes0

/- The contracts of the second say's Reader: New, Fail, End, take, Byte. -/
namespace Go.Proofs.Ytifdoneffnfogaa
open Go.RowKit
variable {N : Nat}

/-- The second say's Reader in block p; where it has an error, what is left does not count. -/
def FR (N : Nat) (w : World) (p : Nat) (s : St) : Prop :=
  ∃ (ao : Option Addr) (cap : Nat) (b : List UInt8) (P : Nat), w.heap[p]? = some (.cells #[.slice ao b.length cap, .int .i64 P, .int .i64 s.2] 81 (0, 0)) ∧ RdN N w ao b.length cap b ∧ P ≤ b.length ∧ b.length ≤ 140737488355328 ∧ (s.2 = 0 → s.1 = b.drop P)

section
variable {w w' : World} {p : Nat} {s : St}

theorem cells3 {v0 v1 v2 : Value} {t : TypeId} (h : w.heap[p]? = some (.cells #[v0, v1, v2] t (0, 0))) :
    w.cell? ⟨p, 0, none⟩ = some v0 ∧ w.cell? ⟨p, 1, none⟩ = some v1 ∧ w.cell? ⟨p, 2, none⟩ = some v2 ∧ w.frozen? ⟨p, 1, none⟩ = false ∧ w.frozen? ⟨p, 2, none⟩ = false := by
  simp [World.cell?, World.frozen?, h]

theorem set3_1 {v0 v1 v2 u : Value} {t : TypeId} (h : w.heap[p]? = some (.cells #[v0, v1, v2] t (0, 0))) : (w.setCell ⟨p, 1, none⟩ u).heap[p]? = some (.cells #[v0, u, v2] t (0, 0)) := by
  rw [setCell_eq_setRow w p 1 #[v0, v1, v2] t (0, 0) u h]
  exact setRow_heap w p _ _ t _ h

theorem set3_2 {v0 v1 v2 u : Value} {t : TypeId} (h : w.heap[p]? = some (.cells #[v0, v1, v2] t (0, 0))) : (w.setCell ⟨p, 2, none⟩ u).heap[p]? = some (.cells #[v0, v1, u] t (0, 0)) := by
  rw [setCell_eq_setRow w p 2 #[v0, v1, v2] t (0, 0) u h]
  exact setRow_heap w p _ _ t _ h

theorem Reads.off3 {v : Value} {t : TypeId} {n m : Int} {ao : Option Addr} {k c : Nat} {l : List UInt8} (h : w.heap[p]? = some (.cells #[.slice ao k c, .int .i64 n, .int .i64 m] t (0, 0))) (hr : Reads w v (B l)) (hg : w.grownBy w' (some p)) : Reads w' v (B l) := by
  obtain ⟨ao, cap, rfl, hc, hn, hcell⟩ := hr
  refine ⟨ao, cap, rfl, hc, hn, fun ad he j u hj => ?_⟩
  have hx := hcell ad he j u hj
  refine hg.cell hx ?_
  intro hb
  have hb' : (ad.add j).block = p := by simpa using hb
  rw [B_get] at hj
  cases hl : l[j]? with
  | none => rw [hl] at hj; cases hj
  | some b =>
    rw [hl] at hj
    simp only [Option.map_some, Option.some.injEq] at hj
    subst hj
    simp only [World.cell?, hb', h] at hx
    split at hx
    · cases hx
    · generalize (ad.add j).off = o at hx
      match o, hx with
      | 0, hx => simp at hx
      | 1, hx => simp at hx
      | 2, hx => simp at hx
      | o + 3, hx => simp at hx

theorem FR.lt (h : FR N w p s) : p < w.heap.size := by
  obtain ⟨_, _, _, _, hh, _⟩ := h
  exact (Array.getElem?_eq_some_iff.1 hh).1

theorem FR.later (h : FR N w p s) (hb : Below w.heap.size w w') : FR N w' p s := by
  have hl := h.lt
  obtain ⟨ao, cap, b, P, hh, hr, hP, hc, hd⟩ := h
  exact ⟨ao, cap, b, P, by rw [hb.block p hl]; exact hh, hr.later hb, hP, hc, hd⟩

theorem FR.mono {M : Nat} (h : FR N w p s) (hm : N ≤ M) : FR M w p s := by
  obtain ⟨ao, cap, b, P, hh, hr, r⟩ := h
  exact ⟨ao, cap, b, P, hh, hr.mono hm, r⟩
theorem FR.drewN (h : FR N w p s) (n : Nat) : FR N (w.drewN n) p s := h.later ⟨rfl, rfl, rfl, Nat.le_refl _, fun _ _ => rfl⟩
theorem RD.drewN (h : RD N w p s) (n : Nat) : RD N (w.drewN n) p s := h.later ⟨rfl, rfl, rfl, Nat.le_refl _, fun _ _ => rfl⟩
theorem FR.own (h : FR N w p s) : FR w.heap.size w p s := by
  obtain ⟨ao, cap, b, P, hh, hr, r⟩ := h
  exact ⟨ao, cap, b, P, hh, RdN.own hr.reads, r⟩
/-- A block from N on, another than the Reader's, may be written to. -/
theorem FR.apart {q : Nat} (h : FR N w p s) (hg : w.grownBy w' (some q)) (hq : N ≤ q) (hne : p ≠ q) : FR N w' p s := by
  have hl := h.lt
  obtain ⟨ao, cap, b, P, hh, hr, hP, hc, hd⟩ := h
  exact ⟨ao, cap, b, P, by rw [hg.block p hl (by simpa using hne)]; exact hh, hr.apart hg hq, hP, hc, hd⟩

theorem FR.other {p' : Nat} {s' : St} (h : FR N w p s) (h' : RD N w p' s') (hg : w.grownBy w' (some p')) (hne : p ≠ p') : FR N w' p s := by
  have hl := h.lt
  obtain ⟨ao, cap, b, P, hh, hr, hP, hc, hd⟩ := h
  obtain ⟨ao', cap', hh', _⟩ := h'
  exact ⟨ao, cap, b, P, by rw [hg.block p hl (by simpa using hne)]; exact hh, ⟨Reads.off rfl hh' hr.reads hg, hr.blk⟩, hP, hc, hd⟩

theorem RD.otherF {p' : Nat} {s' : St} (h : RD N w p s) (h' : FR N w p' s') (hg : w.grownBy w' (some p')) (hne : p ≠ p') : RD N w' p s := by
  have hl := h.lt
  obtain ⟨ao, cap, hh, hr⟩ := h
  obtain ⟨_, _, _, _, hh', _⟩ := h'
  exact ⟨ao, cap, by rw [hg.block p hl (by simpa using hne)]; exact hh, Reads.off3 hh' hr.reads hg, hr.blk⟩

theorem ret_slice {a : Option Addr} {n m c : Nat} (h : n = m) : Ending.returned (.slice a n c) = .returned (.slice a m c) := by rw [h]

theorem grownD (w : World) (n : Nat) (r : Option Nat) : w.grownBy (w.drewN n) r := ⟨rfl, rfl, rfl, Nat.le_refl _, fun _ _ _ => rfl⟩
end

set_option maxRecDepth 100000 in
set_option maxHeartbeats 400000 in
theorem frNew_any (v : Value) (l : List UInt8) (w : World) (hr : Reads w v (B l)) (hl : l.length ≤ 140737488355328) :
    Calls Try.prog 33 #[v] w fun x w' => ∃ p, x = .returned (.pointer (some ⟨p, 0, none⟩)) ∧ w.heap.size ≤ p ∧ FR w.heap.size w' p (l, 0) ∧ Below w.heap.size w w' := by
  have HR := hid hr
  obtain ⟨ao, c, rfl, hc, hn, hcell⟩ := hr
  rw [B_length] at hc HR ⊢
  clear hn hcell
  go_enter Try.func33, Try.ntmps33
  go_wp2_with fail
  go_ret
  exact ⟨w.heap.size, rfl, Nat.le_refl _, ⟨ao, c, l, 0, heap_alloc_new w _, (RdN.own HR.out).later ((Below.refl _ _).alloc (Nat.le_refl _) _), Nat.zero_le _, hl, fun _ => rfl⟩, (Below.refl _ _).alloc (Nat.le_refl _) _⟩

set_option maxRecDepth 100000 in
set_option maxHeartbeats 400000 in
theorem frTake_no (p : Nat) (s : St) (n : Int) (h0 : 0 ≤ n) (h1 : n ≤ 1000000) (w : World) (hR : FR N w p s) (h : s.2 = 0 → (s.1.length : Int) < n) :
    Calls Try.prog 55 #[.pointer (some ⟨p, 0, none⟩), .int .i64 n] w fun x w' => x = .returned (.slice none 0 0) ∧ FR N w' p (failS s 8) ∧ w.grownBy w' (some p) := by
  obtain ⟨l, err⟩ := s
  have HR := hid hR
  obtain ⟨ao, cap, b, P, hh, hr, hP, hbl, hd⟩ := hR
  obtain ⟨c0, c1, c2, f1, f2⟩ := cells3 hh
  have HH := hid hh
  have HRD := hid hr
  simp only at c2 h hd
  by_cases he : err = 0
  · subst he
    have hl : l = b.drop P := hd rfl
    have hlt : (l.length : Int) < n := h rfl
    rw [hl, List.length_drop] at hlt
    have h2 : (b.length : Int) - P < n := by omega
    have h3 : (P : Int) ≤ b.length := by omega
    clear hl hlt h hd hh hr
    go_enter Try.func55, Try.ntmps55
    go_wp2_with fail
    go_quiet (fail)
    go_wp2_with fail
    go_ret
    refine ⟨rfl, ⟨ao, cap, b, P, by simpa [failS] using set3_2 (w := w.drewN _) HH.out, ⟨Reads.off3 (w := w.drewN _) HH.out HRD.out.reads (grownC _ _ _ _), HRD.out.blk⟩, hP, hbl, fun h => by simp [failS] at h⟩, grownT (grownD w _ _) (grownC _ _ _ _)⟩
  · have he' : (err == 0) = false := by simpa using he
    have he2 : (err != 0) = true := by simpa using he
    clear h hd hh hr
    go_enter Try.func55, Try.ntmps55
    go_wp2_with fail
    go_quiet (fail)
    go_wp2_with fail
    go_ret
    have h5 : FR N (w.drewN nq) p (l, err) := HR.out.drewN nq
    exact ⟨rfl, by simpa [failS, he] using h5, grownD w _ _⟩

set_option maxRecDepth 100000 in
set_option maxHeartbeats 400000 in
theorem frTake_yes (p : Nat) (l : List UInt8) (n : Nat) (w : World) (hR : FR N w p (l, 0)) (h : n ≤ l.length) :
    Calls Try.prog 55 #[.pointer (some ⟨p, 0, none⟩), .int .i64 n] w fun x w' => ∃ ao cap, x = .returned (.slice ao n cap) ∧ Reads w' (.slice ao n cap) (B (l.take n)) ∧ FR N w' p (l.drop n, 0) ∧ w.grownBy w' (some p) := by
  have HR := hid hR
  obtain ⟨ao, cap, b, P, hh, hr, hP, hbl, hd⟩ := hR
  obtain ⟨c0, c1, c2, f1, f2⟩ := cells3 hh
  have HH := hid hh
  have HRD := hid hr
  have hcap := hr.reads.cap
  have hl : l = b.drop P := hd rfl
  simp only at c2
  have hn : P + n ≤ b.length := by rw [hl, List.length_drop] at h; omega
  have h2 : ¬ (b.length : Int) - P < n := by omega
  have h2' : decide ((b.length : Int) - P < n) = false := by simpa using h2
  have h3 : (P : Int) + n ≤ b.length := by omega
  have h4 : (P : Int) + n ≤ cap := by omega
  have HL := hid hl
  clear hl hd hh hr
  have HK : Hid (∀ nq W2, W2 = (w.drewN nq).setCell ⟨p, 1, none⟩ (.int .i64 ((P : Int) + n)) → W2.cell? ⟨p, 0, none⟩ = some (.slice ao b.length cap) ∧ W2.cell? ⟨p, 1, none⟩ = some (.int .i64 ((P : Int) + n)) ∧ W2.cell? ⟨p, 2, none⟩ = some (.int .i64 0) ∧ w.grownBy W2 (some p) ∧
      Reads W2 (.slice ao b.length cap) (B b) ∧ FR N W2 p (l.drop n, 0)) := by
    intro nq W2 hW2
    have hh := set3_1 (w := w.drewN nq) (u := .int .i64 ((P : Int) + n)) HH.out
    have hg : (w.drewN nq).grownBy ((w.drewN nq).setCell ⟨p, 1, none⟩ (.int .i64 ((P : Int) + n))) (some p) := grownC _ _ _ _
    have hrd := Reads.off3 (w := w.drewN nq) HH.out HRD.out.reads hg
    rw [← hW2] at hh hg hrd
    obtain ⟨d0, d1, d2, _, _⟩ := cells3 hh
    refine ⟨d0, d1, d2, grownT (grownD w nq _) hg, hrd, ao, cap, b, P + n, ?_, ⟨hrd, HRD.out.blk⟩, hn, hbl, fun _ => by rw [HL.out, List.drop_drop]⟩
    rw [show ((P + n : Nat) : Int) = (P : Int) + n by omega]
    exact hh
  by_cases hcP : cap = P
  · have hn0 : n = 0 := by omega
    subst hn0
    have HT : Hid (∀ W : World, Reads W (.slice ao 0 0) (B (l.take 0))) := fun W => ⟨ao, 0, rfl, Nat.le_refl _, fun _ => rfl, fun ad he j u hj => by simp [B] at hj⟩
    subst hcP
    simp only [Int.natCast_zero, Int.add_zero] at *
    go_enter Try.func55, Try.ntmps55
    go_wp2_with fail
    go_quiet (fail)
    go_wp2_with fail
    obtain ⟨W2, hW2⟩ : ∃ W2, W2 = (w.drewN nq).setCell ⟨p, 1, none⟩ (.int .i64 (cap : Int)) := ⟨_, rfl⟩
    rw [← hW2]
    obtain ⟨k0, k1, k2, hg2, hr2⟩ := HK.out nq W2 hW2
    have HG2 := hid hg2
    have HR2 := hid hr2
    clear hW2 hg2 hr2 c0 c1 c2 f1 f2
    go_quiet (fail)
    go_wp2_with fail
    go_ret
    exact ⟨ao, 0, rfl, HT.out _, HR2.out.2.drewN nq, grownT HG2.out (grownD _ _ _)⟩
  · have HT : Hid (∀ W : World, Reads W (.slice ao b.length cap) (B b) → Reads W (.slice (ao.map fun x => x.add P) n (cap - P)) (B (l.take n))) := by
      intro W hW
      have h1 := (hW.drop hP)
      rw [← HL.out, ← List.length_drop, ← HL.out] at h1
      exact h1.take h
    go_enter Try.func55, Try.ntmps55
    go_wp2_with fail
    go_quiet (fail)
    go_wp2_with fail
    obtain ⟨W2, hW2⟩ : ∃ W2, W2 = (w.drewN nq).setCell ⟨p, 1, none⟩ (.int .i64 ((P : Int) + n)) := ⟨_, rfl⟩
    rw [← hW2]
    obtain ⟨k0, k1, k2, hg2, hr2⟩ := HK.out nq W2 hW2
    have HG2 := hid hg2
    have HR2 := hid hr2
    clear hW2 hg2 hr2 c0 c1 c2 f1 f2
    go_quiet (fail)
    go_wp2_with fail
    go_ret
    exact ⟨_, cap - P, ret_slice (n := P + n - P) (by omega), HT.out _ HR2.out.1, HR2.out.2.drewN nq, grownT HG2.out (grownD _ _ _)⟩

end Go.Proofs.Ytifdoneffnfogaa

/- The contracts of the second say's Reader: Int and Text. -/
namespace Go.Proofs.Ytifdoneffnfogaa
open Go.RowKit
variable {N : Nat}

theorem Reads.lit {w : World} {ao : Option Addr} {n cap : Nat} {l : List UInt8} (h : Reads w (.slice ao n cap) (B l)) (hne : 0 < l.length) :
    ∃ b off, ao = some ⟨b, off, none⟩ ∧ ∀ j x, l[j]? = some x → w.cell? ⟨b, off + j, none⟩ = some (.int .u8 x.toNat) := by
  have hcap := h.cap
  obtain ⟨a2, c2, e2, h21, h22, h23⟩ := h
  injection e2 with e21 e22 e23
  subst e21 e23
  cases ao with
  | none => have := h22 rfl; omega
  | some ad =>
    obtain ⟨x0, hx0⟩ : ∃ x, l[0]? = some x := ⟨_, List.getElem?_eq_getElem hne⟩
    have h0 := h23 ad rfl 0 (.int .u8 x0.toNat) (by rw [B_get, hx0]; rfl)
    have h0' : w.cell? ad = some (.int .u8 x0.toNat) := by simpa [Addr.add] using h0
    obtain ⟨b, off, sp⟩ := ad
    have hsp : sp = none := by
      cases sp with
      | none => rfl
      | some z => simp [World.cell?] at h0'; split at h0' <;> simp at h0'
    subst hsp
    refine ⟨b, off, rfl, fun j x hj => ?_⟩
    have h1 := h23 _ rfl j (.int .u8 x.toNat) (by rw [B_get, hj]; rfl)
    rwa [Addr.add_lit] at h1

theorem num_lt : ∀ l : List UInt8, num l < 256 ^ l.length
  | [] => by simp [num]
  | b :: r => by
    have h1 := num_lt r
    have h2 := b.toNat_lt
    rw [num, List.length_cons, Nat.pow_succ]
    omega

theorem or_low (u x : Nat) (hu : u < 72057594037927936) (hx : x < 256) : bits .or .u64 (IntKind.u64.wrap ((u : Int) * 256)) (x : Int) = ((x + 256 * u : Nat) : Int) := by
  have e1 : IntKind.u64.wrap ((u : Int) * 256) = ((u * 256 : Nat) : Int) := by rw [IntKind.wrap_u64]; omega
  rw [e1, bits_or_u64_nat _ _ (by omega) (by omega)]
  have e4 := Nat.two_pow_add_eq_or_of_lt (i := 8) (b := x) (by omega) u
  rw [Nat.mul_comm u 256]
  have e5 : (256 : Nat) = 2 ^ 8 := rfl
  rw [e5, ← e4, Nat.add_comm]

set_option maxRecDepth 100000 in
set_option maxHeartbeats 400000 in
theorem frInt_yes (p : Nat) (l : List UInt8) (w : World) (hR : FR N w p (l, 0)) (h8 : 8 ≤ l.length) :
    Calls Try.prog 34 #[.pointer (some ⟨p, 0, none⟩)] w fun x w' => x = .returned (.int .i64 (wrap64 (num (l.take 8)))) ∧ FR N w' p (l.drop 8, 0) ∧ w.grownBy w' (some p) := by
  obtain ⟨t, ht⟩ : ∃ t, l.take 8 = t := ⟨_, rfl⟩
  have htl : t.length = 8 := by rw [← ht, List.length_take]; omega
  have HT := hid ht
  have HTL := hid htl
  rw [ht]
  clear ht htl
  go_enter Try.func34, Try.ntmps34
  go_wp2_with fail
  refine (frTake_yes p l 8 _ hR h8).mono ?_
  rintro e w1 ⟨ao, cap, rfl, hr1, hR1, hg1⟩
  rw [HT.out] at hr1
  have hcap : 8 ≤ cap := by have := hr1.cap; rwa [HTL.out] at this
  obtain ⟨b, off, rfl, hcell⟩ := hr1.lit (by rw [HTL.out]; omega)
  have HC := hid hcell
  have HR1 := hid hR1
  have HG1 := hid hg1
  clear hr1 hcell hR1 hg1 hR
  go_wp2_with fail
  go_loop [3, 5] (fun u i => ∃ k : Nat, k ≤ 8 ∧ i = .int .i64 ((k : Int) - 1) ∧ u = .int .u64 (num (t.drop k) : Nat)) (fun _ i => (intOf i + 1).toNat)
  case atStart => exact ⟨8, Nat.le_refl _, rfl, by rw [List.drop_of_length_le (by rw [HTL.out]; exact Nat.le_refl _)]; rfl⟩
  case round =>
    obtain ⟨k, hk, rfl, rfl⟩ := hrel
    cases k with
    | zero =>
      go_wp2_with fail
      go_ret
      exact ⟨rfl, HR1.out, HG1.out⟩
    | succ j =>
      have hj : (j : Int) < 8 := by omega
      obtain ⟨x, hx⟩ : ∃ x, t[j]? = some x := ⟨_, List.getElem?_eq_getElem (by rw [HTL.out]; omega)⟩
      have hc := HC.out j x hx
      have hx255 : (x.toNat : Int) ≤ 255 := by have := x.toNat_lt; omega
      have HX := hid hx
      clear hx
      rw [show ((j + 1 : Nat) : Int) - 1 = (j : Int) by omega]
      go_wp2_with fail
      go_round
      case rel =>
        have e1 : num (t.drop j) = x.toNat + 256 * num (t.drop (j + 1)) := by
          have hj' := List.getElem?_eq_some_iff.1 HX.out
          rw [List.drop_eq_getElem_cons hj'.1, hj'.2, num]
        have e2 : num (t.drop (j + 1)) < 72057594037927936 := by
          have h1 := num_lt (t.drop (j + 1))
          have h2 : 256 ^ (t.drop (j + 1)).length ≤ 256 ^ 7 := Nat.pow_le_pow_right (by omega) (by rw [List.length_drop, HTL.out]; omega)
          omega
        exact ⟨j, by omega, rfl, by rw [e1, or_low _ _ e2 x.toNat_lt]⟩
      case measure => simp [intOf]

set_option maxRecDepth 100000 in
set_option maxHeartbeats 400000 in
theorem frInt_no (p : Nat) (s : St) (w : World) (hR : FR N w p s) (h : s.2 = 0 → s.1.length < 8) :
    Calls Try.prog 34 #[.pointer (some ⟨p, 0, none⟩)] w fun x w' => x = .returned (.int .i64 0) ∧ FR N w' p (failS s 8) ∧ w.grownBy w' (some p) := by
  have HN := hid (show s.2 = 0 → (s.1.length : Int) < 8 from fun e => by have := h e; omega)
  clear h
  go_enter Try.func34, Try.ntmps34
  go_wp2_with fail
  refine (frTake_no p s 8 (by omega) (by omega) _ hR HN.out).mono ?_
  rintro e w1 ⟨rfl, hR1, hg1⟩
  have HR1 := hid hR1
  clear hR hR1
  go_wp2_with fail
  go_loop [3, 5] (fun u i => i = .int .i64 (-1) ∧ u = .int .u64 0) (fun _ _ => 0)
  case atStart => exact ⟨rfl, rfl⟩
  case round =>
    obtain ⟨rfl, rfl⟩ := hrel
    go_wp2_with fail
    go_ret
    exact ⟨rfl, HR1.out, hg1⟩

/-- Both at once: what the first say answers. -/
theorem frInt_any (p : Nat) (s : St) (w : World) (hR : FR N w p s) :
    Calls Try.prog 34 #[.pointer (some ⟨p, 0, none⟩)] w fun x w' => x = .returned (.int .i64 (intR (jn 8 0 0 s))) ∧ FR N w' p (jn 8 0 0 s).2 ∧ w.grownBy w' (some p) := by
  obtain ⟨l, err⟩ := s
  by_cases he : err = 0
  · subst he
    by_cases h8 : 8 ≤ l.length
    · rw [jn_ok 8 0 0 l h8]
      have e1 : intR (0 + num (l.take 8) * 256 ^ 0, (l.drop 8, (0 : Int))) = wrap64 (num (l.take 8)) := by simp [intR]
      rw [e1]
      exact frInt_yes p l w hR h8
    · have hs := jn_short 8 0 0 l (by omega)
      have e1 : intR (jn 8 0 0 (l, 0)) = 0 := by unfold intR; rw [hs]; simp
      have e2 : failS (l, 0) 8 = ([], 8) := by simp [failS]
      rw [e1, hs, ← e2]
      exact frInt_no p (l, 0) w hR (fun _ => by show l.length < 8; omega)
  · have hs := jn_err 8 0 0 (l, err) he
    have e1 : intR (jn 8 0 0 (l, err)) = 0 := by rw [hs]; simp [intR, he]
    have e2 : failS (l, err) 8 = (l, err) := by simp [failS, he]
    rw [e1, hs]
    have h := frInt_no p (l, err) w hR (fun h => absurd h he)
    rwa [e2] at h

theorem grown_of_drew {w w' : World} {r : Option Nat} (h : w.drew.grownBy w' r) : w.grownBy w' r := ⟨h.os, h.tape, h.output, h.size, h.block⟩

end Go.Proofs.Ytifdoneffnfogaa

/- The contracts of the second say of Int, Byte and Text: appends onto a row. -/
namespace Go.Proofs.Ytifdoneffnfogaa
open Go.RowKit

theorem le_snoc : ∀ (k u : Nat), le (k + 1) u = le k u ++ [UInt8.ofNat (u / 256 ^ k)]
  | 0, u => by simp [le]
  | k + 1, u => by
    rw [le, le_snoc k (u / 256)]
    conv => rhs; rw [le]
    rw [List.cons_append, Nat.div_div_eq_div_mul, Nat.pow_succ, Nat.mul_comm (256 ^ k) 256]

theorem byte_at (n : Int) (k : Nat) : [Value.int IntKind.u8 (IntKind.u64.wrap n / 2 ^ (8 * k) % 256)] = B [UInt8.ofNat ((n % 18446744073709551616).toNat / 256 ^ k)] := by
  have e0 : IntKind.u64.wrap n = (((n % 18446744073709551616).toNat : Nat) : Int) := by rw [IntKind.wrap_u64]; omega
  have e1 : (2 : Int) ^ (8 * k) = ((256 ^ k : Nat) : Int) := by rw [pow_256]; exact (Int.natCast_pow 2 (8 * k)).symm
  rw [e0, e1]
  simp only [B, List.map_cons, List.map_nil, UInt8.toNat_ofNat']
  generalize (n % 18446744073709551616).toNat = u
  generalize 256 ^ k = q
  rw [← Int.natCast_ediv]
  generalize u / q = z
  have : (z : Int) % 256 = ((z % 2 ^ 8 : Nat) : Int) := by omega
  rw [this]

set_option maxRecDepth 100000 in
set_option maxHeartbeats 400000 in
theorem fInt_any (g cap m : Nat) (l : List UInt8) (n : Int) (w : World) (ho : Owns w 5 g cap m (B l)) (hb : m + 8 ≤ 140737488355328) :
    Calls Try.prog 38 #[.slice (some ⟨g, 0, none⟩) m cap, .int .i64 n] w fun e w' => ∃ g' cap', e = .returned (.slice (some ⟨g', 0, none⟩) (m + 8) cap') ∧ Grew 5 w g cap m (B l) w' g' cap' (m + 8) (B (l ++ le 8 (n % 18446744073709551616).toNat)) := by
  obtain ⟨i0, hi, hz0, hz1, hz2⟩ := info_parts Try.infoByte
  go_enter Try.func38, Try.ntmps38
  go_wp2_with fail
  go_loopw [0, 5] (fun v i wr => ∃ (k g1 cap1 : Nat), k ≤ 8 ∧ i = .int .i64 k ∧ v = .slice (some ⟨g1, 0, none⟩) (m + k) cap1 ∧ Grew 5 w g cap m (B l) wr g1 cap1 (m + k) (B (l ++ le k (n % 18446744073709551616).toNat))) (fun _ i _ => 8 - (intOf i).toNat)
  case atStart => exact ⟨0, g, cap, Nat.zero_le _, rfl, rfl, by simpa [le] using Grew.refl ho⟩
  case round =>
    obtain ⟨k, g1, cap1, hk, rfl, rfl, hG⟩ := hrel
    have HG := hid hG
    have hO := hG.own
    clear hG
    by_cases hlt : k < 8
    · have hlt' : (k : Int) < 8 := by omega
      go_wp2_with (at_builtin; go_must (refine wpList_append_src _ rfl _ _ 37 37 rfl 5 i0 (.int .u8 0) Try.underlying37 hi hz0 hz1 hz2 rfl g1 cap1 (m + k) _ rfl (hO.alloc _) _ 1 _ rfl (Src.ofSlice _ Try.underlying37 ⟨wr.heap.size, 0, none⟩ 1 1 [_] rfl (cell_one_new _ _ _) (by intro u hu; simp at hu; subst hu; rfl)) (by omega) ?_); intro g2 cap2 w2 hG2)
      go_roundw
      case rel =>
        have h := HG.out.trans (hG2.of_alloc hO.lt)
        rw [byte_at, ← B_append, List.append_assoc, ← le_snoc] at h
        exact ⟨k + 1, g2, cap2, by omega, by go_num, rfl, h⟩
      case measure => simp [intOf]; omega
    · have hk8 : k = 8 := by omega
      subst hk8
      clear hlt hk
      go_wp2_with fail
      go_ret
      exact ⟨g1, cap1, rfl, HG.out⟩

end Go.Proofs.Ytifdoneffnfogaa

/- The second say's Byte, Int and Text behind any slice of the call's own, nil too. -/
namespace Go.Proofs.Ytifdoneffnfogaa
open Go.RowKit
set_option linter.unusedSimpArgs false
set_option linter.unusedVariables false

theorem has_of_grew {w w' : World} {Bd g cap n g' cap' n' : Nat} {e : TypeId} {xs xs' : List Value} (h : Grew e w g cap n xs w' g' cap' n' xs') (hB : Bd ≤ g) (hs : Bd ≤ w.heap.size) : Has w' e Bd (.slice (some ⟨g', 0, none⟩) n' cap') n' xs' ∧ Below Bd w w' :=
  ⟨.inr ⟨g', cap', rfl, by rcases h.blk with ⟨rfl, _⟩ | hb; exact hB; omega, h.own⟩, h.below (Below.refl _ _) hB⟩

set_option maxRecDepth 100000 in
set_option maxHeartbeats 400000 in
theorem fInt_has (Bd : Nat) (v : Value) (m : Nat) (l : List UInt8) (n : Int) (w : World) (hH : Has w 5 Bd v m (B l)) (hB : Bd ≤ w.heap.size) (hb : m + 8 ≤ 140737488355328) :
    Calls Try.prog 38 #[v, .int .i64 n] w fun e w' => ∃ v', e = .returned v' ∧ Has w' 5 Bd v' (m + 8) (B (l ++ i8 n)) ∧ Below Bd w w' := by
  obtain ⟨i0, hi, hz0, hz1, hz2⟩ := info_parts Try.infoByte
  have HH := hid hH
  obtain ⟨a, cap, rfl⟩ := hH.form
  clear hH
  go_enter Try.func38, Try.ntmps38
  go_wp2_with fail
  go_loopw [0, 5] (fun v i wr => ∃ k : Nat, k ≤ 8 ∧ i = .int .i64 k ∧ Has wr 5 Bd v (m + k) (B (l ++ le k (n % 18446744073709551616).toNat)) ∧ Below Bd w wr) (fun _ i _ => 8 - (intOf i).toNat)
  case atStart => exact ⟨0, Nat.zero_le _, rfl, by simpa [le] using HH.out, Below.refl _ _⟩
  case round =>
    obtain ⟨k, hk, rfl, hH, hbr⟩ := hrel
    obtain ⟨a1, cap1, rfl⟩ := hH.form
    have HH := hid hH
    have Hb := hid hbr
    have HS := hid (show Bd ≤ wr.heap.size from Nat.le_trans hB hbr.size)
    clear hH hbr
    by_cases hlt : k < 8
    · have hlt' : (k : Int) < 8 := by omega
      go_wp2_with (at_builtin; go_must (refine wpList_append_has _ rfl _ _ 37 37 rfl 5 i0 (.int .u8 0) Try.underlying37 hi hz0 hz1 hz2 rfl Bd _ (m + k) _ rfl (HH.out.alloc _) (by have := HS.out; simp; omega) _ 1 _ rfl (Src.ofSlice _ Try.underlying37 ⟨wr.heap.size, 0, none⟩ 1 1 [_] rfl (cell_one_new _ _ _) (by intro u hu; simp at hu; subst hu; rfl)) (by omega) (by omega) ?_); intro v2 w2 hH2 hb2)
      go_roundw
      case rel =>
        have h := hH2
        rw [byte_at, ← B_append, List.append_assoc, ← le_snoc] at h
        exact ⟨k + 1, by omega, by go_num, h, (Hb.out.alloc HS.out _).trans hb2⟩
      case measure => simp [intOf]; omega
    · have hk8 : k = 8 := by omega
      subst hk8
      clear hlt hk
      go_wp2_with fail
      go_ret
      exact ⟨_, rfl, HH.out, Hb.out⟩

theorem Has.owns {w : World} {e : TypeId} {Bd : Nat} {v : Value} {n : Nat} {xs : List Value} (h : Has w e Bd v n xs) (h0 : 0 < n) : ∃ g cap, v = .slice (some ⟨g, 0, none⟩) n cap ∧ Bd ≤ g ∧ Owns w e g cap n xs := by
  rcases h with ⟨rfl, rfl, rfl⟩ | h
  · omega
  · exact h
end Go.Proofs.Ytifdoneffnfogaa

/- Texts laid together: RefRead, RefInt. -/
import Derived.Test.YtinifnpajkldbaaDoorPk3
import Derived.Deep.QuietTactic
import Derived.BigQuiet
import Derived.Deep.RegionHeld3

/- The contracts of the second say's Reader: New, Fail, End, take, Byte. -/
namespace Go.Proofs.YtinifnpajkldbaaDoor
open Go.RowKit
variable {N : Nat}

/-- The second say's Reader in block p; where it has an error, what is left does not count. -/
def FR (N : Nat) (w : World) (p : Nat) (s : St) : Prop :=
  ∃ (ao : Option Addr) (cap : Nat) (b : List UInt8) (P : Nat), w.heap[p]? = some (.cells #[.slice ao b.length cap, .int .i64 P, .int .i64 s.2] 101 (0, 0)) ∧ RdN N w ao b.length cap b ∧ P ≤ b.length ∧ b.length ≤ 140737488355328 ∧ (s.2 = 0 → s.1 = b.drop P)

section
variable {w w' : World} {p : Nat} {s : St}

theorem cells3 {v0 v1 v2 : Value} {t : TypeId} (h : w.heap[p]? = some (.cells #[v0, v1, v2] t (0, 0))) :
    w.cell? ⟨p, 0, none⟩ = some v0 ∧ w.cell? ⟨p, 1, none⟩ = some v1 ∧ w.cell? ⟨p, 2, none⟩ = some v2 ∧ w.frozen? ⟨p, 1, none⟩ = false ∧ w.frozen? ⟨p, 2, none⟩ = false := by
  simp [World.cell?, World.frozen?, h]

theorem set3_1 {v0 v1 v2 u : Value} {t : TypeId} (h : w.heap[p]? = some (.cells #[v0, v1, v2] t (0, 0))) : (w.setCell ⟨p, 1, none⟩ u).heap[p]? = some (.cells #[v0, u, v2] t (0, 0)) := by
  rw [setCell_eq_setRow w p 1 #[v0, v1, v2] t (0, 0) u h]
  exact setRow_heap w p _ _ t _ h

theorem set3_2 {v0 v1 v2 u : Value} {t : TypeId} (h : w.heap[p]? = some (.cells #[v0, v1, v2] t (0, 0))) : (w.setCell ⟨p, 2, none⟩ u).heap[p]? = some (.cells #[v0, v1, u] t (0, 0)) := by
  rw [setCell_eq_setRow w p 2 #[v0, v1, v2] t (0, 0) u h]
  exact setRow_heap w p _ _ t _ h

theorem Reads.off3 {v : Value} {t : TypeId} {n m : Int} {ao : Option Addr} {k c : Nat} {l : List UInt8} (h : w.heap[p]? = some (.cells #[.slice ao k c, .int .i64 n, .int .i64 m] t (0, 0))) (hr : Reads w v (B l)) (hg : w.grownBy w' (some p)) : Reads w' v (B l) := by
  obtain ⟨ao, cap, rfl, hc, hn, hcell⟩ := hr
  refine ⟨ao, cap, rfl, hc, hn, fun ad he j u hj => ?_⟩
  have hx := hcell ad he j u hj
  refine hg.cell hx ?_
  intro hb
  have hb' : (ad.add j).block = p := by simpa using hb
  rw [B_get] at hj
  cases hl : l[j]? with
  | none => rw [hl] at hj; cases hj
  | some b =>
    rw [hl] at hj
    simp only [Option.map_some, Option.some.injEq] at hj
    subst hj
    simp only [World.cell?, hb', h] at hx
    split at hx
    · cases hx
    · generalize (ad.add j).off = o at hx
      match o, hx with
      | 0, hx => simp at hx
      | 1, hx => simp at hx
      | 2, hx => simp at hx
      | o + 3, hx => simp at hx

theorem FR.lt (h : FR N w p s) : p < w.heap.size := by
  obtain ⟨_, _, _, _, hh, _⟩ := h
  exact (Array.getElem?_eq_some_iff.1 hh).1

theorem FR.later (h : FR N w p s) (hb : Below w.heap.size w w') : FR N w' p s := by
  have hl := h.lt
  obtain ⟨ao, cap, b, P, hh, hr, hP, hc, hd⟩ := h
  exact ⟨ao, cap, b, P, by rw [hb.block p hl]; exact hh, hr.later hb, hP, hc, hd⟩

theorem FR.mono {M : Nat} (h : FR N w p s) (hm : N ≤ M) : FR M w p s := by
  obtain ⟨ao, cap, b, P, hh, hr, r⟩ := h
  exact ⟨ao, cap, b, P, hh, hr.mono hm, r⟩
theorem FR.drewN (h : FR N w p s) (n : Nat) : FR N (w.drewN n) p s := h.later ⟨rfl, rfl, rfl, Nat.le_refl _, fun _ _ => rfl⟩
theorem RD.drewN (h : RD N w p s) (n : Nat) : RD N (w.drewN n) p s := h.later ⟨rfl, rfl, rfl, Nat.le_refl _, fun _ _ => rfl⟩
theorem FR.own (h : FR N w p s) : FR w.heap.size w p s := by
  obtain ⟨ao, cap, b, P, hh, hr, r⟩ := h
  exact ⟨ao, cap, b, P, hh, RdN.own hr.reads, r⟩
/-- A block from N on, another than the Reader's, may be written to. -/
theorem FR.apart {q : Nat} (h : FR N w p s) (hg : w.grownBy w' (some q)) (hq : N ≤ q) (hne : p ≠ q) : FR N w' p s := by
  have hl := h.lt
  obtain ⟨ao, cap, b, P, hh, hr, hP, hc, hd⟩ := h
  exact ⟨ao, cap, b, P, by rw [hg.block p hl (by simpa using hne)]; exact hh, hr.apart hg hq, hP, hc, hd⟩

theorem FR.other {p' : Nat} {s' : St} (h : FR N w p s) (h' : RD N w p' s') (hg : w.grownBy w' (some p')) (hne : p ≠ p') : FR N w' p s := by
  have hl := h.lt
  obtain ⟨ao, cap, b, P, hh, hr, hP, hc, hd⟩ := h
  obtain ⟨ao', cap', hh', _⟩ := h'
  exact ⟨ao, cap, b, P, by rw [hg.block p hl (by simpa using hne)]; exact hh, ⟨Reads.off rfl hh' hr.reads hg, hr.blk⟩, hP, hc, hd⟩

theorem RD.otherF {p' : Nat} {s' : St} (h : RD N w p s) (h' : FR N w p' s') (hg : w.grownBy w' (some p')) (hne : p ≠ p') : RD N w' p s := by
  have hl := h.lt
  obtain ⟨ao, cap, hh, hr⟩ := h
  obtain ⟨_, _, _, _, hh', _⟩ := h'
  exact ⟨ao, cap, by rw [hg.block p hl (by simpa using hne)]; exact hh, Reads.off3 hh' hr.reads hg, hr.blk⟩

theorem ret_slice {a : Option Addr} {n m c : Nat} (h : n = m) : Ending.returned (.slice a n c) = .returned (.slice a m c) := by rw [h]

theorem grownD (w : World) (n : Nat) (r : Option Nat) : w.grownBy (w.drewN n) r := ⟨rfl, rfl, rfl, Nat.le_refl _, fun _ _ _ => rfl⟩
end

set_option maxRecDepth 100000 in
set_option maxHeartbeats 400000 in
theorem frEnd_any (p : Nat) (s : St) (w : World) (hR : FR N w p s) :
    Calls Tryd.prog 43 #[.pointer (some ⟨p, 0, none⟩)] w fun e w' => e = .returned (.int .i64 (endS s)) ∧ ∃ n, w' = w.drewN n := by
  obtain ⟨l, err⟩ := s
  obtain ⟨ao, cap, b, P, hh, hr, hP, hbl, hd⟩ := hR
  obtain ⟨c0, c1, c2, f1, f2⟩ := cells3 hh
  clear hh hr f1 f2
  simp only at c2 hd
  by_cases he : err = 0
  · subst he
    have hl : l = b.drop P := hd rfl
    clear hd
    by_cases hlt : P < b.length
    · have HE : Hid (endS (l, 0) = 9) := hid (by rw [hl]; simp [endS]; omega)
      have h1 : (P : Int) < b.length := by omega
      clear hl
      go_enter Tryd.func43, Tryd.ntmps43
      go_wp2_with fail
      go_quiet (fail)
      go_wp2_with fail
      go_ret
      exact ⟨by rw [HE.out]; rfl, _, rfl⟩
    · have HE : Hid (endS (l, 0) = 0) := hid (by rw [hl]; simp [endS]; omega)
      have h1 : ¬ (P : Int) < b.length := by omega
      have h2 : decide ((P : Int) < b.length) = false := by simpa using h1
      clear hl
      go_enter Tryd.func43, Tryd.ntmps43
      go_wp2_with fail
      go_quiet (fail)
      go_wp2_with fail
      go_ret
      exact ⟨by rw [HE.out]; rfl, _, rfl⟩
  · have he' : (err == 0) = false := by simpa using he
    have HE : Hid (endS (l, err) = err) := hid (by simp [endS, he])
    clear hd
    go_enter Tryd.func43, Tryd.ntmps43
    go_wp2_with fail
    go_quiet (fail)
    go_wp2_with fail
    go_ret
    exact ⟨by rw [HE.out]; rfl, _, rfl⟩

set_option maxRecDepth 100000 in
set_option maxHeartbeats 400000 in
theorem frFail_any (p : Nat) (s : St) (e : Int) (w : World) (hR : FR N w p s) :
    Calls Tryd.prog 68 #[.pointer (some ⟨p, 0, none⟩), .int .i64 e] w fun x w' => x = .returned (.tuple #[]) ∧ FR N w' p (failS s e) ∧ w.grownBy w' (some p) := by
  obtain ⟨l, err⟩ := s
  have HR := hid hR
  obtain ⟨ao, cap, b, P, hh, hr, hP, hbl, hd⟩ := hR
  obtain ⟨c0, c1, c2, f1, f2⟩ := cells3 hh
  have HH := hid hh
  have HRD := hid hr
  have HD := hid hd
  clear hh hr hd
  simp only at c2
  by_cases he : err = 0
  · subst he
    have HL : Hid (l = b.drop P) := HD.out rfl
    go_enter Tryd.func68, Tryd.ntmps68
    go_wp2
    go_end0
    refine ⟨rfl, ?_, grownC _ _ _ _⟩
    refine ⟨ao, cap, b, P, ?_, ⟨Reads.off3 HH.out HRD.out.reads (grownC _ _ _ _), HRD.out.blk⟩, hP, hbl, ?_⟩
    · by_cases h0 : e = 0
      · subst h0; simpa [failS] using set3_2 HH.out
      · simpa [failS, h0] using set3_2 HH.out
    · intro h
      by_cases h0 : e = 0
      · subst h0; simpa [failS] using HL.out
      · simp [failS, h0] at h
  · have he' : (err == 0) = false := by simpa using he
    go_enter Tryd.func68, Tryd.ntmps68
    go_wp2
    go_end0
    exact ⟨rfl, by simpa [failS, he] using HR.out, World.grownBy.refl _ _⟩

set_option maxRecDepth 100000 in
set_option maxHeartbeats 400000 in
theorem frNew_any (v : Value) (l : List UInt8) (w : World) (hr : Reads w v (B l)) (hl : l.length ≤ 140737488355328) :
    Calls Tryd.prog 37 #[v] w fun x w' => ∃ p, x = .returned (.pointer (some ⟨p, 0, none⟩)) ∧ w.heap.size ≤ p ∧ FR w.heap.size w' p (l, 0) ∧ Below w.heap.size w w' := by
  have HR := hid hr
  obtain ⟨ao, c, rfl, hc, hn, hcell⟩ := hr
  rw [B_length] at hc HR ⊢
  clear hn hcell
  go_enter Tryd.func37, Tryd.ntmps37
  go_wp2_with fail
  go_ret
  exact ⟨w.heap.size, rfl, Nat.le_refl _, ⟨ao, c, l, 0, heap_alloc_new w _, (RdN.own HR.out).later ((Below.refl _ _).alloc (Nat.le_refl _) _), Nat.zero_le _, hl, fun _ => rfl⟩, (Below.refl _ _).alloc (Nat.le_refl _) _⟩

set_option maxRecDepth 100000 in
set_option maxHeartbeats 400000 in
theorem frTake_no (p : Nat) (s : St) (n : Int) (h0 : 0 ≤ n) (h1 : n ≤ 1000000) (w : World) (hR : FR N w p s) (h : s.2 = 0 → (s.1.length : Int) < n) :
    Calls Tryd.prog 67 #[.pointer (some ⟨p, 0, none⟩), .int .i64 n] w fun x w' => x = .returned (.slice none 0 0) ∧ FR N w' p (failS s 8) ∧ w.grownBy w' (some p) := by
  obtain ⟨l, err⟩ := s
  have HR := hid hR
  obtain ⟨ao, cap, b, P, hh, hr, hP, hbl, hd⟩ := hR
  obtain ⟨c0, c1, c2, f1, f2⟩ := cells3 hh
  have HH := hid hh
  have HRD := hid hr
  simp only at c2 h hd
  by_cases he : err = 0
  · subst he
    have hl : l = b.drop P := hd rfl
    have hlt : (l.length : Int) < n := h rfl
    rw [hl, List.length_drop] at hlt
    have h2 : (b.length : Int) - P < n := by omega
    have h3 : (P : Int) ≤ b.length := by omega
    clear hl hlt h hd hh hr
    go_enter Tryd.func67, Tryd.ntmps67
    go_wp2_with fail
    go_quiet (fail)
    go_wp2_with fail
    go_ret
    refine ⟨rfl, ⟨ao, cap, b, P, by simpa [failS] using set3_2 (w := w.drewN _) HH.out, ⟨Reads.off3 (w := w.drewN _) HH.out HRD.out.reads (grownC _ _ _ _), HRD.out.blk⟩, hP, hbl, fun h => by simp [failS] at h⟩, grownT (grownD w _ _) (grownC _ _ _ _)⟩
  · have he' : (err == 0) = false := by simpa using he
    have he2 : (err != 0) = true := by simpa using he
    clear h hd hh hr
    go_enter Tryd.func67, Tryd.ntmps67
    go_wp2_with fail
    go_quiet (fail)
    go_wp2_with fail
    go_ret
    have h5 : FR N (w.drewN nq) p (l, err) := HR.out.drewN nq
    exact ⟨rfl, by simpa [failS, he] using h5, grownD w _ _⟩

set_option maxRecDepth 100000 in
set_option maxHeartbeats 400000 in
theorem frTake_yes (p : Nat) (l : List UInt8) (n : Nat) (w : World) (hR : FR N w p (l, 0)) (h : n ≤ l.length) :
    Calls Tryd.prog 67 #[.pointer (some ⟨p, 0, none⟩), .int .i64 n] w fun x w' => ∃ ao cap, x = .returned (.slice ao n cap) ∧ Reads w' (.slice ao n cap) (B (l.take n)) ∧ FR N w' p (l.drop n, 0) ∧ w.grownBy w' (some p) := by
  have HR := hid hR
  obtain ⟨ao, cap, b, P, hh, hr, hP, hbl, hd⟩ := hR
  obtain ⟨c0, c1, c2, f1, f2⟩ := cells3 hh
  have HH := hid hh
  have HRD := hid hr
  have hcap := hr.reads.cap
  have hl : l = b.drop P := hd rfl
  simp only at c2
  have hn : P + n ≤ b.length := by rw [hl, List.length_drop] at h; omega
  have h2 : ¬ (b.length : Int) - P < n := by omega
  have h2' : decide ((b.length : Int) - P < n) = false := by simpa using h2
  have h3 : (P : Int) + n ≤ b.length := by omega
  have h4 : (P : Int) + n ≤ cap := by omega
  have HL := hid hl
  clear hl hd hh hr
  have HK : Hid (∀ nq W2, W2 = (w.drewN nq).setCell ⟨p, 1, none⟩ (.int .i64 ((P : Int) + n)) → W2.cell? ⟨p, 0, none⟩ = some (.slice ao b.length cap) ∧ W2.cell? ⟨p, 1, none⟩ = some (.int .i64 ((P : Int) + n)) ∧ W2.cell? ⟨p, 2, none⟩ = some (.int .i64 0) ∧ w.grownBy W2 (some p) ∧
      Reads W2 (.slice ao b.length cap) (B b) ∧ FR N W2 p (l.drop n, 0)) := by
    intro nq W2 hW2
    have hh := set3_1 (w := w.drewN nq) (u := .int .i64 ((P : Int) + n)) HH.out
    have hg : (w.drewN nq).grownBy ((w.drewN nq).setCell ⟨p, 1, none⟩ (.int .i64 ((P : Int) + n))) (some p) := grownC _ _ _ _
    have hrd := Reads.off3 (w := w.drewN nq) HH.out HRD.out.reads hg
    rw [← hW2] at hh hg hrd
    obtain ⟨d0, d1, d2, _, _⟩ := cells3 hh
    refine ⟨d0, d1, d2, grownT (grownD w nq _) hg, hrd, ao, cap, b, P + n, ?_, ⟨hrd, HRD.out.blk⟩, hn, hbl, fun _ => by rw [HL.out, List.drop_drop]⟩
    rw [show ((P + n : Nat) : Int) = (P : Int) + n by omega]
    exact hh
  by_cases hcP : cap = P
  · have hn0 : n = 0 := by omega
    subst hn0
    have HT : Hid (∀ W : World, Reads W (.slice ao 0 0) (B (l.take 0))) := fun W => ⟨ao, 0, rfl, Nat.le_refl _, fun _ => rfl, fun ad he j u hj => by simp [B] at hj⟩
    subst hcP
    simp only [Int.natCast_zero, Int.add_zero] at *
    go_enter Tryd.func67, Tryd.ntmps67
    go_wp2_with fail
    go_quiet (fail)
    go_wp2_with fail
    obtain ⟨W2, hW2⟩ : ∃ W2, W2 = (w.drewN nq).setCell ⟨p, 1, none⟩ (.int .i64 (cap : Int)) := ⟨_, rfl⟩
    rw [← hW2]
    obtain ⟨k0, k1, k2, hg2, hr2⟩ := HK.out nq W2 hW2
    have HG2 := hid hg2
    have HR2 := hid hr2
    clear hW2 hg2 hr2 c0 c1 c2 f1 f2
    go_quiet (fail)
    go_wp2_with fail
    go_ret
    exact ⟨ao, 0, rfl, HT.out _, HR2.out.2.drewN nq, grownT HG2.out (grownD _ _ _)⟩
  · have HT : Hid (∀ W : World, Reads W (.slice ao b.length cap) (B b) → Reads W (.slice (ao.map fun x => x.add P) n (cap - P)) (B (l.take n))) := by
      intro W hW
      have h1 := (hW.drop hP)
      rw [← HL.out, ← List.length_drop, ← HL.out] at h1
      exact h1.take h
    go_enter Tryd.func67, Tryd.ntmps67
    go_wp2_with fail
    go_quiet (fail)
    go_wp2_with fail
    obtain ⟨W2, hW2⟩ : ∃ W2, W2 = (w.drewN nq).setCell ⟨p, 1, none⟩ (.int .i64 ((P : Int) + n)) := ⟨_, rfl⟩
    rw [← hW2]
    obtain ⟨k0, k1, k2, hg2, hr2⟩ := HK.out nq W2 hW2
    have HG2 := hid hg2
    have HR2 := hid hr2
    clear hW2 hg2 hr2 c0 c1 c2 f1 f2
    go_quiet (fail)
    go_wp2_with fail
    go_ret
    exact ⟨_, cap - P, ret_slice (n := P + n - P) (by omega), HT.out _ HR2.out.1, HR2.out.2.drewN nq, grownT HG2.out (grownD _ _ _)⟩

set_option maxRecDepth 100000 in
set_option maxHeartbeats 400000 in
theorem frByte_any (p : Nat) (s : St) (w : World) (hR : FR N w p s) :
    Calls Tryd.prog 41 #[.pointer (some ⟨p, 0, none⟩)] w fun x w' => x = .returned (.int .i64 (byteS s)) ∧ FR N w' p (nextS s) ∧ w.grownBy w' (some p) := by
  obtain ⟨l, err⟩ := s
  by_cases hok : err = 0 ∧ l ≠ []
  · obtain ⟨rfl, hne⟩ := hok
    cases l with
    | nil => exact absurd rfl hne
    | cons b r =>
      clear hne
      have hb255 : (b.toNat : Int) ≤ 255 := by have := b.toNat_lt; omega
      go_enter Tryd.func41, Tryd.ntmps41
      go_wp2_with fail
      refine (frTake_yes p (b :: r) 1 _ hR (by simp)).mono ?_
      rintro e w1 ⟨ao1, cap1, rfl, hr1, hR1, hg1⟩
      simp only [List.take_succ_cons, List.take_zero, List.drop_succ_cons, List.drop_zero] at hr1 hR1
      have HR1 := hid hR1
      have hcap := hr1.cap
      obtain ⟨a2, c2, e2, h21, h22, h23⟩ := hr1
      injection e2 with e21 e22 e23
      subst e21 e23
      cases ao1 with
      | none => have := h22 rfl; simp at hcap; omega
      | some ad =>
        have hc := h23 ad rfl 0 (.int .u8 b.toNat) rfl
        have hc' : w1.cell? ad = some (.int .u8 b.toNat) := by simpa [Addr.add] using hc
        clear h21 h22 h23 e22 hc hR1
        go_wp2_with fail
        go_ret
        exact ⟨rfl, HR1.out, hg1⟩
  · have hb0 : Hid (byteS (l, err) = 0 ∧ nextS (l, err) = failS (l, err) 8) := by
      by_cases he : err = 0
      · have hl : l = [] := by
          cases l with
          | nil => rfl
          | cons b r => exact absurd ⟨he, by simp⟩ hok
        subst he hl
        exact ⟨rfl, rfl⟩
      · exact ⟨by simp [byteS, he], by simp [nextS, failS, he]⟩
    have hno : err = 0 → (l.length : Int) < 1 := by
      intro he
      cases l with
      | nil => simp
      | cons b r => exact absurd ⟨he, by simp⟩ hok
    have HN := hid hno
    clear hok hno
    go_enter Tryd.func41, Tryd.ntmps41
    go_wp2_with fail
    refine (frTake_no p (l, err) 1 (by omega) (by omega) _ hR HN.out).mono ?_
    rintro e w1 ⟨rfl, hR1, hg1⟩
    rw [← hb0.out.2] at hR1
    have HR1 := hid hR1
    clear hR1
    go_wp2_with fail
    go_ret
    rw [hb0.out.1]
    exact ⟨rfl, HR1.out, hg1⟩
end Go.Proofs.YtinifnpajkldbaaDoor

/- The contracts of the second say's Reader: Int and Text. -/
namespace Go.Proofs.YtinifnpajkldbaaDoor
open Go.RowKit
variable {N : Nat}

theorem Reads.lit {w : World} {ao : Option Addr} {n cap : Nat} {l : List UInt8} (h : Reads w (.slice ao n cap) (B l)) (hne : 0 < l.length) :
    ∃ b off, ao = some ⟨b, off, none⟩ ∧ ∀ j x, l[j]? = some x → w.cell? ⟨b, off + j, none⟩ = some (.int .u8 x.toNat) := by
  have hcap := h.cap
  obtain ⟨a2, c2, e2, h21, h22, h23⟩ := h
  injection e2 with e21 e22 e23
  subst e21 e23
  cases ao with
  | none => have := h22 rfl; omega
  | some ad =>
    obtain ⟨x0, hx0⟩ : ∃ x, l[0]? = some x := ⟨_, List.getElem?_eq_getElem hne⟩
    have h0 := h23 ad rfl 0 (.int .u8 x0.toNat) (by rw [B_get, hx0]; rfl)
    have h0' : w.cell? ad = some (.int .u8 x0.toNat) := by simpa [Addr.add] using h0
    obtain ⟨b, off, sp⟩ := ad
    have hsp : sp = none := by
      cases sp with
      | none => rfl
      | some z => simp [World.cell?] at h0'; split at h0' <;> simp at h0'
    subst hsp
    refine ⟨b, off, rfl, fun j x hj => ?_⟩
    have h1 := h23 _ rfl j (.int .u8 x.toNat) (by rw [B_get, hj]; rfl)
    rwa [Addr.add_lit] at h1

theorem num_lt : ∀ l : List UInt8, num l < 256 ^ l.length
  | [] => by simp [num]
  | b :: r => by
    have h1 := num_lt r
    have h2 := b.toNat_lt
    rw [num, List.length_cons, Nat.pow_succ]
    omega

theorem or_low (u x : Nat) (hu : u < 72057594037927936) (hx : x < 256) : bits .or .u64 (IntKind.u64.wrap ((u : Int) * 256)) (x : Int) = ((x + 256 * u : Nat) : Int) := by
  have e1 : IntKind.u64.wrap ((u : Int) * 256) = ((u * 256 : Nat) : Int) := by rw [IntKind.wrap_u64]; omega
  rw [e1, bits_or_u64_nat _ _ (by omega) (by omega)]
  have e4 := Nat.two_pow_add_eq_or_of_lt (i := 8) (b := x) (by omega) u
  rw [Nat.mul_comm u 256]
  have e5 : (256 : Nat) = 2 ^ 8 := rfl
  rw [e5, ← e4, Nat.add_comm]

set_option maxRecDepth 100000 in
set_option maxHeartbeats 400000 in
theorem frInt_yes (p : Nat) (l : List UInt8) (w : World) (hR : FR N w p (l, 0)) (h8 : 8 ≤ l.length) :
    Calls Tryd.prog 39 #[.pointer (some ⟨p, 0, none⟩)] w fun x w' => x = .returned (.int .i64 (wrap64 (num (l.take 8)))) ∧ FR N w' p (l.drop 8, 0) ∧ w.grownBy w' (some p) := by
  obtain ⟨t, ht⟩ : ∃ t, l.take 8 = t := ⟨_, rfl⟩
  have htl : t.length = 8 := by rw [← ht, List.length_take]; omega
  have HT := hid ht
  have HTL := hid htl
  rw [ht]
  clear ht htl
  go_enter Tryd.func39, Tryd.ntmps39
  go_wp2_with fail
  refine (frTake_yes p l 8 _ hR h8).mono ?_
  rintro e w1 ⟨ao, cap, rfl, hr1, hR1, hg1⟩
  rw [HT.out] at hr1
  have hcap : 8 ≤ cap := by have := hr1.cap; rwa [HTL.out] at this
  obtain ⟨b, off, rfl, hcell⟩ := hr1.lit (by rw [HTL.out]; omega)
  have HC := hid hcell
  have HR1 := hid hR1
  have HG1 := hid hg1
  clear hr1 hcell hR1 hg1 hR
  go_wp2_with fail
  go_loop [3, 5] (fun u i => ∃ k : Nat, k ≤ 8 ∧ i = .int .i64 ((k : Int) - 1) ∧ u = .int .u64 (num (t.drop k) : Nat)) (fun _ i => (intOf i + 1).toNat)
  case atStart => exact ⟨8, Nat.le_refl _, rfl, by rw [List.drop_of_length_le (by rw [HTL.out]; exact Nat.le_refl _)]; rfl⟩
  case round =>
    obtain ⟨k, hk, rfl, rfl⟩ := hrel
    cases k with
    | zero =>
      go_wp2_with fail
      go_ret
      exact ⟨rfl, HR1.out, HG1.out⟩
    | succ j =>
      have hj : (j : Int) < 8 := by omega
      obtain ⟨x, hx⟩ : ∃ x, t[j]? = some x := ⟨_, List.getElem?_eq_getElem (by rw [HTL.out]; omega)⟩
      have hc := HC.out j x hx
      have hx255 : (x.toNat : Int) ≤ 255 := by have := x.toNat_lt; omega
      have HX := hid hx
      clear hx
      rw [show ((j + 1 : Nat) : Int) - 1 = (j : Int) by omega]
      go_wp2_with fail
      go_round
      case rel =>
        have e1 : num (t.drop j) = x.toNat + 256 * num (t.drop (j + 1)) := by
          have hj' := List.getElem?_eq_some_iff.1 HX.out
          rw [List.drop_eq_getElem_cons hj'.1, hj'.2, num]
        have e2 : num (t.drop (j + 1)) < 72057594037927936 := by
          have h1 := num_lt (t.drop (j + 1))
          have h2 : 256 ^ (t.drop (j + 1)).length ≤ 256 ^ 7 := Nat.pow_le_pow_right (by omega) (by rw [List.length_drop, HTL.out]; omega)
          omega
        exact ⟨j, by omega, rfl, by rw [e1, or_low _ _ e2 x.toNat_lt]⟩
      case measure => simp [intOf]

set_option maxRecDepth 100000 in
set_option maxHeartbeats 400000 in
theorem frInt_no (p : Nat) (s : St) (w : World) (hR : FR N w p s) (h : s.2 = 0 → s.1.length < 8) :
    Calls Tryd.prog 39 #[.pointer (some ⟨p, 0, none⟩)] w fun x w' => x = .returned (.int .i64 0) ∧ FR N w' p (failS s 8) ∧ w.grownBy w' (some p) := by
  have HN := hid (show s.2 = 0 → (s.1.length : Int) < 8 from fun e => by have := h e; omega)
  clear h
  go_enter Tryd.func39, Tryd.ntmps39
  go_wp2_with fail
  refine (frTake_no p s 8 (by omega) (by omega) _ hR HN.out).mono ?_
  rintro e w1 ⟨rfl, hR1, hg1⟩
  have HR1 := hid hR1
  clear hR hR1
  go_wp2_with fail
  go_loop [3, 5] (fun u i => i = .int .i64 (-1) ∧ u = .int .u64 0) (fun _ _ => 0)
  case atStart => exact ⟨rfl, rfl⟩
  case round =>
    obtain ⟨rfl, rfl⟩ := hrel
    go_wp2_with fail
    go_ret
    exact ⟨rfl, HR1.out, hg1⟩

/-- Both at once: what the first say answers. -/
theorem frInt_any (p : Nat) (s : St) (w : World) (hR : FR N w p s) :
    Calls Tryd.prog 39 #[.pointer (some ⟨p, 0, none⟩)] w fun x w' => x = .returned (.int .i64 (intR (jn 8 0 0 s))) ∧ FR N w' p (jn 8 0 0 s).2 ∧ w.grownBy w' (some p) := by
  obtain ⟨l, err⟩ := s
  by_cases he : err = 0
  · subst he
    by_cases h8 : 8 ≤ l.length
    · rw [jn_ok 8 0 0 l h8]
      have e1 : intR (0 + num (l.take 8) * 256 ^ 0, (l.drop 8, (0 : Int))) = wrap64 (num (l.take 8)) := by simp [intR]
      rw [e1]
      exact frInt_yes p l w hR h8
    · have hs := jn_short 8 0 0 l (by omega)
      have e1 : intR (jn 8 0 0 (l, 0)) = 0 := by unfold intR; rw [hs]; simp
      have e2 : failS (l, 0) 8 = ([], 8) := by simp [failS]
      rw [e1, hs, ← e2]
      exact frInt_no p (l, 0) w hR (fun _ => by show l.length < 8; omega)
  · have hs := jn_err 8 0 0 (l, err) he
    have e1 : intR (jn 8 0 0 (l, err)) = 0 := by rw [hs]; simp [intR, he]
    have e2 : failS (l, err) 8 = (l, err) := by simp [failS, he]
    rw [e1, hs]
    have h := frInt_no p (l, err) w hR (fun h => absurd h he)
    rwa [e2] at h

theorem grown_of_drew {w w' : World} {r : Option Nat} (h : w.drew.grownBy w' r) : w.grownBy w' r := ⟨h.os, h.tape, h.output, h.size, h.block⟩

theorem wraps_two (b0 b1 : UInt8) : IntKind.i64.wrap (IntKind.i64.wrap (b0.toNat : Int) + IntKind.i64.wrap (256 * IntKind.i64.wrap (b1.toNat : Int))) = ((b0.toNat + 256 * b1.toNat : Nat) : Int) := by
  have h0 := b0.toNat_lt
  have h1 := b1.toNat_lt
  simp only [IntKind.wrap_i64]
  omega

set_option maxRecDepth 100000 in
set_option maxHeartbeats 1000000 in
theorem frText_two (p : Nat) (b0 b1 : UInt8) (r : List UInt8) (w : World) (hR : FR N w p (b0 :: b1 :: r, 0)) (hm : Hid (b0.toNat + 256 * b1.toNat ≤ r.length)) :
    Calls Tryd.prog 42 #[.pointer (some ⟨p, 0, none⟩)] w fun x w' => x = .returned (.string ⟨(r.take (b0.toNat + 256 * b1.toNat)).toArray⟩) ∧ FR N w' p (r.drop (b0.toNat + 256 * b1.toNat), 0) ∧ w.grownBy w' (some p) := by
  go_enter Tryd.func42, Tryd.ntmps42
  go_wp2_with fail
  refine (frTake_yes p (b0 :: b1 :: r) 2 _ hR (by simp)).mono ?_
  rintro e w1 ⟨ao, cap, rfl, hr1, hR1, hg1⟩
  simp only [List.take_succ_cons, List.take_zero, List.drop_succ_cons, List.drop_zero] at hr1 hR1
  have hcap : 2 ≤ cap := by have := hr1.cap; simpa using this
  obtain ⟨b, off, rfl, hcell⟩ := hr1.lit (by simp)
  have c0 := hcell 0 b0 rfl
  have c1 := hcell 1 b1 rfl
  rw [Nat.add_zero] at c0
  have HR1 := hid hR1
  have HG1 := hid hg1
  clear hr1 hcell hR1 hg1 hR
  go_wp2_with fail
  go_region_with
    (first | (go_at_call 67; go_must (rw [wraps_two]; refine (frTake_yes (N := N) p r (b0.toNat + 256 * b1.toNat) _ ?_ hm.out).mono ?_; (exact HR1.out.drewN 1); rintro e w2 ⟨ao2, cap2, rfl, hr2, hR2, hg2⟩; have hS := run_string (P := Tryd.prog) w2 22 9 5 Tryd.underlying22 Tryd.underlying5 Tryd.underlying9 hr2)))
  all_goals
    go_wp2_with fail
    go_ret
    exact ⟨rfl, hR2, grownT HG1.out (grown_of_drew hg2)⟩

set_option maxRecDepth 100000 in
set_option maxHeartbeats 1000000 in
theorem frText_cut (p : Nat) (b0 b1 : UInt8) (r : List UInt8) (w : World) (hR : FR N w p (b0 :: b1 :: r, 0)) (hm : Hid (r.length < b0.toNat + 256 * b1.toNat)) :
    Calls Tryd.prog 42 #[.pointer (some ⟨p, 0, none⟩)] w fun x w' => x = .returned (.string ⟨#[]⟩) ∧ FR N w' p (failS (r, 0) 8) ∧ w.grownBy w' (some p) := by
  have HI := hid (show ((b0.toNat + 256 * b1.toNat : Nat) : Int) ≤ 1000000 by have h0 := b0.toNat_lt; have h1 := b1.toNat_lt; omega)
  have HN := hid (show (r, (0 : Int)).2 = 0 → ((r, (0 : Int)).1.length : Int) < ((b0.toNat + 256 * b1.toNat : Nat) : Int) from fun _ => by have := hm.out; show (r.length : Int) < _; omega)
  go_enter Tryd.func42, Tryd.ntmps42
  go_wp2_with fail
  refine (frTake_yes p (b0 :: b1 :: r) 2 _ hR (by simp)).mono ?_
  rintro e w1 ⟨ao, cap, rfl, hr1, hR1, hg1⟩
  simp only [List.take_succ_cons, List.take_zero, List.drop_succ_cons, List.drop_zero] at hr1 hR1
  have hcap : 2 ≤ cap := by have := hr1.cap; simpa using this
  obtain ⟨b, off, rfl, hcell⟩ := hr1.lit (by simp)
  have c0 := hcell 0 b0 rfl
  have c1 := hcell 1 b1 rfl
  rw [Nat.add_zero] at c0
  have HR1 := hid hR1
  have HG1 := hid hg1
  clear hr1 hcell hR1 hg1 hR
  go_wp2_with fail
  go_region_with
    (first | (go_at_call 67; go_must (rw [wraps_two]; refine (frTake_no (N := N) p (r, 0) _ (by omega) HI.out _ ?_ (fun _ => HN.out trivial)).mono ?_; (exact HR1.out.drewN 1); rintro e w2 ⟨rfl, hR2, hg2⟩; have hS := run_string (P := Tryd.prog) w2 22 9 5 Tryd.underlying22 Tryd.underlying5 Tryd.underlying9 (l := []) (Reads.nil w2))))
  all_goals
    go_wp2_with fail
    go_ret
    exact ⟨rfl, hR2, grownT HG1.out (grown_of_drew hg2)⟩

set_option maxRecDepth 100000 in
set_option maxHeartbeats 400000 in
theorem frText_no (p : Nat) (s : St) (w : World) (hR : FR N w p s) (h : s.2 = 0 → s.1.length < 2) :
    Calls Tryd.prog 42 #[.pointer (some ⟨p, 0, none⟩)] w fun x w' => x = .returned (.string ⟨#[]⟩) ∧ FR N w' p (failS s 8) ∧ w.grownBy w' (some p) := by
  have HN := hid (show s.2 = 0 → (s.1.length : Int) < 2 from fun e => by have := h e; omega)
  clear h
  go_enter Tryd.func42, Tryd.ntmps42
  go_wp2_with fail
  refine (frTake_no p s 2 (by omega) (by omega) _ hR HN.out).mono ?_
  rintro e w1 ⟨rfl, hR1, hg1⟩
  have HR1 := hid hR1
  clear hR hR1
  go_wp2_with fail
  go_ret
  exact ⟨rfl, HR1.out, hg1⟩

/-- All at once: what the first say answers. -/
theorem frText_any (p : Nat) (s : St) (w : World) (hR : FR N w p s) :
    Calls Tryd.prog 42 #[.pointer (some ⟨p, 0, none⟩)] w fun x w' => x = .returned (.string ⟨(textR (jn 2 0 0 s)).1.toArray⟩) ∧ FR N w' p (textR (jn 2 0 0 s)).2 ∧ w.grownBy w' (some p) := by
  obtain ⟨l, err⟩ := s
  by_cases he : err = 0
  · subst he
    match l, hR with
    | b0 :: b1 :: r, hR =>
      have e1 : jn 2 0 0 (b0 :: b1 :: r, 0) = (b0.toNat + 256 * b1.toNat, (r, 0)) := by
        rw [jn_ok 2 0 0 _ (by simp)]
        simp [num]
      rw [e1]
      by_cases hn : b0.toNat + 256 * b1.toNat ≤ r.length
      · have e2 : textR (b0.toNat + 256 * b1.toNat, (r, (0 : Int))) = (r.take (b0.toNat + 256 * b1.toNat), (r.drop (b0.toNat + 256 * b1.toNat), 0)) := by simp [textR, hn]
        rw [e2]
        exact frText_two p b0 b1 r w hR hn
      · have e2 : textR (b0.toNat + 256 * b1.toNat, (r, (0 : Int))) = ([], failS (r, 0) 8) := by simp [textR, hn]
        rw [e2]
        exact frText_cut p b0 b1 r w hR (by show r.length < _; omega)
    | [b0], hR =>
      have hs := jn_short 2 0 0 [b0] (by simp)
      have e1 : textR (jn 2 0 0 ([b0], 0)) = ([], failS ([b0], 0) 8) := by unfold textR; rw [hs]; simp [failS]
      rw [e1]
      exact frText_no p ([b0], 0) w hR (fun _ => by simp)
    | [], hR =>
      have hs := jn_short 2 0 0 [] (by simp)
      have e1 : textR (jn 2 0 0 ([], 0)) = ([], failS ([], 0) 8) := by unfold textR; rw [hs]; simp [failS]
      rw [e1]
      exact frText_no p ([], 0) w hR (fun _ => by simp)
  · have hs := jn_err 2 0 0 (l, err) he
    have e1 : textR (jn 2 0 0 (l, err)) = ([], failS (l, err) 8) := by rw [hs]; simp [textR, he]
    rw [e1]
    exact frText_no p (l, err) w hR (fun h => absurd h he)
end Go.Proofs.YtinifnpajkldbaaDoor

/- The rounds of compose.Two, as steps on lists; what is taken off the front of a slice of parts. -/
import Derived.Test.YtcghcocacbglbabCJoin
namespace Go.Proofs.Ytcghcocacbglbab
open Go.RowKit
set_option linter.unusedSimpArgs false
set_option linter.unusedVariables false

/-- What is left of c (n bytes from p on), if anything, ahead of a. -/
def hdL (c : Cp) (p n : Nat) (a : List Cp) : List Cp := if n = 0 then a else c.cutAt p n :: a
theorem hdL_zero (c : Cp) (p : Nat) (a : List Cp) : hdL c p 0 a = a := rfl
theorem hdL_pos {c : Cp} {p n : Nat} (h : n ≠ 0) (a : List Cp) : hdL c p n a = c.cutAt p n :: a := if_neg h

theorem ext_all (s : ByteArray) : s.extract 0 s.size = s := by
  apply ByteArray.ext; apply Array.ext'; rw [ext_list, List.drop_zero, List.take_of_length_le (by simp)]
theorem cutAt_all {c : Cp} (h : c.Ok) : c.cutAt 0 c.sz = c := by
  rcases ok_cases h with ⟨m, hm, rfl⟩ | ⟨s, hs, rfl⟩ | ⟨m, hm, rfl⟩
  · rw [sz_K]; rfl
  · rw [sz_P, Cp.cutAt, if_pos (show (pP s).k = 2 from rfl), Nat.zero_add]
    show pP (s.extract 0 s.size) = pP s
    rw [ext_all]
  · rw [sz_X]; rfl
theorem hdL_all {c : Cp} (h : c.Ok) (a : List Cp) : hdL c 0 c.sz a = c :: a := by
  rw [hdL_pos (by have := h.szp; omega), cutAt_all h]
theorem cutAt_k (c : Cp) (p n : Nat) : (c.cutAt p n).k = c.k := by
  unfold Cp.cutAt
  by_cases h : c.k = 2
  · rw [if_pos h, h]; rfl
  · rw [if_neg h]
theorem ext_ext (s : ByteArray) (p n a b : Nat) (h : b ≤ n) : (s.extract p (p + n)).extract a b = s.extract (p + a) (p + b) := by
  apply ByteArray.ext; apply Array.ext'
  rw [ext_list, ext_list, ext_list, List.drop_take, List.take_take, List.drop_drop]
  congr 1
  omega
theorem cutAt_sz {c : Cp} {p n : Nat} (h : c.k = 2 → p + n ≤ c.s.size) : (c.cutAt p n).sz = n := by
  unfold Cp.cutAt
  by_cases hk : c.k = 2
  · rw [if_pos hk, sz_P, ext_len _ _ _ (h hk)]; omega
  · rw [if_neg hk]; simp [Cp.sz, em_sz]
theorem cutAt_fr {c : Cp} {p n m : Nat} (h : m ≤ n) : (c.cutAt p n).fr m = c.cutAt p m := by
  unfold Cp.cutAt
  by_cases hk : c.k = 2
  · rw [if_pos hk, if_pos hk, fr_P, ext_ext _ _ _ _ _ h, Nat.add_zero]
  · rw [if_neg hk, if_neg hk, Cp.fr, if_neg hk]
theorem cutAt_rs {c : Cp} {p n m : Nat} (h : m ≤ n) (hs : c.k = 2 → p + n ≤ c.s.size) : (c.cutAt p n).rs m = c.cutAt (p + m) (n - m) := by
  unfold Cp.cutAt
  by_cases hk : c.k = 2
  · rw [if_pos hk, if_pos hk, rs_P, ext_len _ _ _ (hs hk), ext_ext _ _ _ _ _ (by omega)]
    congr 2
    omega
  · rw [if_neg hk, if_neg hk, Cp.rs, if_neg hk]
    simp only [Cp.mk.injEq, true_and, and_true]
    omega
theorem restL_cut {c : Cp} {p n m : Nat} (h : m ≤ n) (hs : c.k = 2 → p + n ≤ c.s.size) (a : List Cp) : restL m (c.cutAt p n) a = hdL c (p + m) (n - m) a := by
  unfold restL hdL
  rw [cutAt_sz hs, cutAt_rs h hs]
  by_cases hx : n = m
  · rw [if_pos hx, if_pos (by omega)]
  · rw [if_neg hx, if_neg (by omega)]
theorem joint_jl {c d : Cp} {p n q m k : Nat} (hn : k ≤ n) (hm : k ≤ m) (hc : c.k = 1 ∨ c.k = 2) (hd : d.k = 1 ∨ d.k = 3) : joint k (c.cutAt p n) (d.cutAt q m) = jl c d p k := by
  unfold joint jl
  rw [cutAt_k, cutAt_k, cutAt_fr hn, cutAt_fr hm]
  rcases hc with hc | hc
  · rw [if_pos hc, if_pos hc]
    rcases hd with hd | hd
    · rw [if_pos hd, Cp.cutAt, if_neg (by omega), hc, hd]
    · rw [if_neg (by omega), Cp.cutAt, if_neg (by omega)]
  · rw [if_neg (show ¬ c.k = 1 by omega), if_neg (show ¬ c.k = 1 by omega)]
    rcases hd with hd | hd
    · rw [if_pos hd, if_pos hd, Cp.cutAt, if_pos hc]
    · rw [if_neg (by omega), if_neg (by omega)]

/-- Where the walk of Two is: A, B what is left, l what came of the rest. -/
structure TP (a b : List Cp) (c d : Cp) (p n q m : Nat) (a' b' l : List Cp) : Prop where
  fa : Fit a'
  fb : Fit b'
  hc : n ≠ 0 → (c.k = 1 ∨ c.k = 2)
  hs : n ≠ 0 → c.k = 2 → p + n ≤ c.s.size
  hd : m ≠ 0 → (d.k = 1 ∨ d.k = 3)
  bp : p + n ≤ 1099511627776
  bq : q + m ≤ 1099511627776
  bs : c.s.size ≤ 1099511627776
  ga : Good (hdL c p n a')
  gb : Good (hdL d q m b')
  io : inS (hdL d q m b') = outS (hdL c p n a')
  eq : l ++ compS (hdL c p n a') (hdL d q m b') = compS a b

section
variable {a b : List Cp} {c d : Cp} {p n q m : Nat} {a' b' l : List Cp}
theorem TP.len (h : TP a b c d p n q m a' b' l) : l.length ≤ a.length + b.length := by
  have h1 := congrArg List.length h.eq
  have h2 := comp_le a b
  rw [List.length_append] at h1
  omega
theorem TP.start (ha : Good a) (hb : Good b) (fa : Fit a) (fb : Fit b) (h : inS b = outS a) (c d : Cp) (hs : c.s.size ≤ 1099511627776) : TP a b c d 0 0 0 0 a b [] :=
  ⟨fa, fb, fun h => absurd rfl h, fun h => absurd rfl h, fun h => absurd rfl h, by omega, by omega, hs, ha, hb, h, rfl⟩
theorem Fit.one {e : Cp} {o : List Cp} (h : Fit (e :: o)) : 0 ≤ e.n ∧ e.n ≤ 1099511627776 ∧ e.s.size ≤ 1099511627776 := h.2 e (by simp)
theorem Fit.tl {e : Cp} {o : List Cp} (h : Fit (e :: o)) : Fit o := ⟨by have := h.1; simp at this; omega, fun c hc => h.2 c (by simp [hc])⟩
theorem Fit.szle {e : Cp} {o : List Cp} (h : Fit (e :: o)) (hk : e.Ok) : e.sz ≤ 1099511627776 := by
  have := h.one
  rcases ok_cases hk with ⟨m, hm, rfl⟩ | ⟨s, hs, rfl⟩ | ⟨m, hm, rfl⟩
  · rw [sz_K]; simp [pK] at this; omega
  · rw [sz_P]; simp [pP] at this; omega
  · rw [sz_X]; simp [pX] at this; omega
/-- A Cut of the first: the second never sees it. -/
theorem TP.aCut {e : Cp} (h : TP a b c d p 0 q m (e :: a') b' l) (hk : e.k = 3) : TP a b e d 0 0 q m a' b' (l ++ [e]) := by
  have hg : Good (e :: a') := h.ga
  have ho : inS (hdL d q m b') = outS (e :: a') := h.io
  have he : l ++ compS (e :: a') (hdL d q m b') = compS a b := h.eq
  rw [comp_X hk] at he
  refine ⟨h.fa.tl, h.fb, fun h => absurd rfl h, fun h => absurd rfl h, h.hd, by omega, h.bq, h.fa.one.2.2, hg.tl, h.gb, ?_, by rw [← he]; simp [hdL_zero]⟩
  rw [ho, out_cons, hdL_zero]
  rcases ok_cases hg.hd with ⟨m, hm, rfl⟩ | ⟨s, hs, rfl⟩ | ⟨m, hm, rfl⟩
  · simp [pK] at hk
  · simp [pP] at hk
  · rw [outl_X, Int.zero_add]
theorem TP.aTake {e : Cp} (h : TP a b c d p 0 q m (e :: a') b' l) (hk : e.k ≠ 3) : TP a b e d 0 e.sz q m a' b' l := by
  have hg : Good (e :: a') := h.ga
  have hz := h.fa.szle hg.hd
  refine ⟨h.fa.tl, h.fb, fun _ => ?_, fun _ h2 => ?_, h.hd, by omega, h.bq, h.fa.one.2.2, by rw [hdL_all hg.hd]; exact hg, h.gb, by rw [hdL_all hg.hd]; exact h.io, by rw [hdL_all hg.hd]; exact h.eq⟩
  · rcases hg.hd.kind with h | h | h
    · exact .inl h
    · exact .inr h
    · exact absurd h hk
  · rcases ok_cases hg.hd with ⟨m, hm, rfl⟩ | ⟨s, hs, rfl⟩ | ⟨m, hm, rfl⟩
    · simp [pK] at h2
    · rw [sz_P]; simp [pP]
    · simp [pX] at h2
/-- A Put of the second: the first has nothing to do with it. -/
theorem TP.bPut {e : Cp} (h : TP a b c d p n q 0 a' (e :: b') l) (hn : n = 0 → a' = []) (hk : e.k = 2) : TP a b c e p n 0 0 a' b' (l ++ [e]) := by
  have hg : Good (e :: b') := h.gb
  have ho : inS (e :: b') = outS (hdL c p n a') := h.io
  have he : l ++ compS (hdL c p n a') (e :: b') = compS a b := h.eq
  rw [comp_P hk _ _ ?_] at he
  · refine ⟨h.fa, h.fb.tl, h.hc, h.hs, fun h => absurd rfl h, h.bp, by omega, h.bs, h.ga, hg.tl, ?_, by rw [← he]; simp [hdL_zero]⟩
    rw [← ho, in_cons, hdL_zero]
    rcases ok_cases hg.hd with ⟨m, hm, rfl⟩ | ⟨s, hs, rfl⟩ | ⟨m, hm, rfl⟩
    · simp [pK] at hk
    · rw [over_P, Int.zero_add]
    · simp [pX] at hk
  · intro x hx
    by_cases h0 : n = 0
    · rw [h0, hdL_zero, hn h0] at hx; simp at hx
    · rw [hdL_pos h0] at hx
      simp at hx
      subst hx
      rw [cutAt_k]
      rcases h.hc h0 with h | h <;> omega
theorem TP.bTake {e : Cp} (h : TP a b c d p n q 0 a' (e :: b') l) (hk : e.k ≠ 2) : TP a b c e p n 0 e.sz a' b' l := by
  have hg : Good (e :: b') := h.gb
  have hz := h.fb.szle hg.hd
  refine ⟨h.fa, h.fb.tl, h.hc, h.hs, fun _ => ?_, h.bp, by omega, h.bs, h.ga, by rw [hdL_all hg.hd]; exact hg, by rw [hdL_all hg.hd]; exact h.io, by rw [hdL_all hg.hd]; exact h.eq⟩
  rcases hg.hd.kind with h | h | h
  · exact .inl h
  · exact absurd h hk
  · exact .inr h
theorem TP.over (h : TP a b c d p n q m a' b' l) (hn : n = 0 → a' = []) (hm : m = 0 → b' = []) : (n = 0 ∧ m = 0 ∧ l = compS a b) ∨ (n ≠ 0 ∧ m ≠ 0) := by
  by_cases h0 : n = 0
  · have hA : hdL c p n a' = [] := by rw [h0, hdL_zero, hn h0]
    have hio := h.io
    rw [hA] at hio
    by_cases h1 : m = 0
    · have hB : hdL d q m b' = [] := by rw [h1, hdL_zero, hm h1]
      have := h.eq
      rw [hA, hB, comp_nil, List.append_nil] at this
      exact .inl ⟨h0, h1, this⟩
    · exfalso
      have hg := h.gb
      rw [hdL_pos h1] at hio hg
      have hnn := hg.tl.inS_nn
      rw [in_cons, Cp.over, if_pos (by rw [cutAt_k]; exact h.hd h1), Cp.cutAt, if_neg (by rcases h.hd h1 with h | h <;> omega)] at hio
      simp only [outS] at hio
      omega
  · by_cases h1 : m = 0
    · exfalso
      have hB : hdL d q m b' = [] := by rw [h1, hdL_zero, hm h1]
      have hio := h.io
      have hg := h.ga
      rw [hB, hdL_pos h0] at hio
      rw [hdL_pos h0] at hg
      have hnn := hg.tl.outS_nn
      have hz := hg.hd.szp
      have hk := h.hc h0
      have ho : (c.cutAt p n).outl = ((c.cutAt p n).sz : Int) := by
        rcases ok_cases hg.hd with ⟨x, hx, e⟩ | ⟨s, hs, e⟩ | ⟨x, hx, e⟩
        · rw [e, outl_K, sz_K]
        · rw [e, outl_P, sz_P]
        · have := congrArg Cp.k e
          rw [cutAt_k] at this
          simp [pX] at this
          omega
      rw [out_cons, ho] at hio
      simp only [inS] at hio
      omega
    · exact .inr ⟨h0, h1⟩
theorem TP.both (h : TP a b c d p n q m a' b' l) (h0 : n ≠ 0) (h1 : m ≠ 0) : TP a b c d (p + min n m) (n - min n m) (q + min n m) (m - min n m) a' b' (l ++ jl c d p (min n m)) := by
  have hc := h.hc h0
  have hd := h.hd h1
  have ga := h.ga
  have gb := h.gb
  have io := h.io
  have eq := h.eq
  rw [hdL_pos h0] at ga io eq
  rw [hdL_pos h1] at gb io eq
  have s1 := cutAt_sz (c := c) (p := p) (n := n) (h.hs h0)
  have hd2 : d.k = 2 → q + m ≤ d.s.size := fun e => by omega
  have s2 := cutAt_sz (c := d) (p := q) (n := m) hd2
  obtain ⟨k, hk⟩ : ∃ k, min n m = k := ⟨_, rfl⟩
  have k1 : 1 ≤ k := by omega
  have k2 : k ≤ n := by omega
  have k3 : k ≤ m := by omega
  rw [comp_J (by rw [cutAt_k]; omega) (by rw [cutAt_k]; omega), s1, s2, hk, joint_jl k2 k3 hc hd, restL_cut k2 (h.hs h0), restL_cut k3 hd2] at eq
  obtain ⟨ra1, ra2, ra3, ra4, ra5⟩ := rest_all ga.hd ga.tl k k1 (by rw [s1]; exact k2)
  obtain ⟨rb1, rb2, rb3, rb4, rb5⟩ := rest_all gb.hd gb.tl k k1 (by rw [s2]; exact k3)
  rw [restL_cut k2 (h.hs h0)] at ra1 ra3 ra4
  rw [restL_cut k3 hd2] at rb1 rb3 rb4
  rw [cutAt_fr k2] at ra2 ra4
  rw [cutAt_fr k3] at rb2 rb3
  have o1 : (c.cutAt p k).outl = (k : Int) := by
    have z := cutAt_sz (c := c) (p := p) (n := k) (fun e => by have := h.hs h0 e; omega)
    rcases ok_cases ra2 with ⟨x, hx, e⟩ | ⟨s, hs, e⟩ | ⟨x, hx, e⟩
    · rw [e, sz_K] at z; rw [e, outl_K, z]
    · rw [e, sz_P] at z; rw [e, outl_P, z]
    · have := congrArg Cp.k e
      rw [cutAt_k] at this
      simp [pX] at this
      omega
  have o2 : (d.cutAt q k).over = (k : Int) := by
    have z := cutAt_sz (c := d) (p := q) (n := k) (fun e => by omega)
    rcases ok_cases rb2 with ⟨x, hx, e⟩ | ⟨s, hs, e⟩ | ⟨x, hx, e⟩
    · rw [e, sz_K] at z; rw [e, over_K, z]
    · have := congrArg Cp.k e
      rw [cutAt_k] at this
      simp [pP] at this
      omega
    · rw [e, sz_X] at z; rw [e, over_X, z]
  have b1 := h.bp
  have b2 := h.bq
  rw [hk]
  refine ⟨h.fa, h.fb, fun _ => hc, fun _ e => by have := h.hs h0 e; omega, fun _ => hd, by omega, by omega, h.bs, ra1, rb1, by omega, ?_⟩
  rw [List.append_assoc]
  exact eq
end

/-- All but the first part. -/
theorem tail_c {w : World} {ao : Option Addr} {cap : Nat} {c : Cp} {o : List Cp} (h : RC w (.slice ao (o.length + 1) cap) (c :: o)) :
    ∃ p q, (∀ wx, (Instr.slice 25 (.slice ao (o.length + 1) cap) (some (.int .i64 1)) none none).run Try.prog wx = .ok (.slice p o.length q) wx) ∧ RC w (.slice p o.length q) o := by
  rcases h with ⟨e, h⟩ | ⟨g, off, cap', e, h1, hr, hg⟩
  · simp at h
  · injection e with e1 e2 e3
    subst e1 e3
    simp only [List.length_cons] at h1
    by_cases hc : cap = 1
    · subst hc
      have ho : o = [] := List.eq_nil_of_length_eq_zero (by omega)
      subst ho
      refine ⟨some ⟨g, off, none⟩, 0, fun wx => ?_, .inr ⟨g, off, 0, by simp, by simp, fun j u hj => by simp [C] at hj, hg⟩⟩
      go_simp
    · refine ⟨some ⟨g, off + 3, none⟩, cap - 1, fun wx => ?_, .inr ⟨g, off + 3, cap - 1, rfl, by omega, fun j u hj => ?_, hg⟩⟩
      · have hkc : ¬ cap - 1 = 0 := by omega
        clear hr hg e2
        go_simp
        intro hlt
        omega
      · have := hr (3 + j) u (by rw [C_cons, List.getElem?_append_right (by simp [Cp.vals]), ← hj]; congr 1; simp [Cp.vals])
        rwa [← Nat.add_assoc] at this
end Go.Proofs.Ytcghcocacbglbab

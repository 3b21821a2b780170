/- Slices of parts that the second say's Two writes to, and its rounds as steps on lists. -/
import Derived.Test.YtbhojomgbjchkaaRefPart
namespace Go.Proofs.Ytbhojomgbjchkaa
open Go.RowKit
set_option linter.unusedSimpArgs false
set_option linter.unusedVariables false

/-- v is nil, or the parts o, in the block g, which is the call's own. -/
def OwnC (w : World) (g : Nat) (v : Value) (o : List Cp) : Prop :=
  (v = .slice none 0 0 ∧ o = []) ∨ ∃ (pre post : List Value) (off cap : Nat), v = .slice (some ⟨g, off, none⟩) o.length cap ∧ pre.length = off ∧ o.length ≤ cap ∧ Blk w 42 g (pre ++ (C o ++ post))

section
variable {w w' : World} {g : Nat} {v : Value} {o : List Cp} {c e : Cp}
theorem OwnC.kept (h : OwnC w g v o) (hk : w'.heap[g]? = w.heap[g]?) : OwnC w' g v o := by
  rcases h with h | ⟨pre, post, off, cap, h1, h2, h3, h4⟩
  · exact .inl h
  · exact .inr ⟨pre, post, off, cap, h1, h2, h3, h4.kept hk⟩
theorem OwnC.rc (h : OwnC w g v o) : RC w v o := by
  rcases h with h | ⟨pre, post, off, cap, h1, h2, h3, h4⟩
  · exact .inl h
  · exact .inr ⟨g, off, cap, h1, h3, (by rw [← List.append_assoc] at h4; exact h4.rangeMid h2), h4.lt⟩
theorem OwnC.of_has {Bd : Nat} (h : HasC w Bd v o) (hB : Bd ≤ g) : ∃ g', Bd ≤ g' ∧ (g' < w.heap.size ∨ g' = Bd) ∧ OwnC w g' v o := by
  rcases h with ⟨rfl, h1, h2⟩ | ⟨k, cap, cur, rfl, h1, h2, h3, h4, h5, h6⟩
  · exact ⟨Bd, Nat.le_refl _, .inr rfl, .inl ⟨rfl, List.eq_nil_of_length_eq_zero h1⟩⟩
  · refine ⟨k, h1, .inl (Array.getElem?_eq_some_iff.1 h4).1, .inr ⟨[], cur.toList.drop (o.length * 3), 0, cap, rfl, rfl, h3, ?_⟩⟩
    rw [List.nil_append, ← h6, List.take_append_drop]
    simpa [Blk] using h4
/-- The first part, in memory. -/
theorem OwnC.head {ao : Option Addr} {cap : Nat} (h : OwnC w g (.slice ao (o.length + 1) cap) (c :: o)) : ∃ off, ao = some ⟨g, off, none⟩ ∧ 1 ≤ cap ∧
    w.cell? ⟨g, off, none⟩ = some (.int .i64 c.k) ∧ w.cell? ⟨g, off + 1, none⟩ = some (.int .i64 c.n) ∧ w.cell? ⟨g, off + 2, none⟩ = some (.string c.s) := by
  rcases h with ⟨_, h⟩ | ⟨pre, post, off, cap', h1, h2, h3, h4⟩
  · simp at h
  · injection h1 with e1 e2 e3
    subst e1 e3
    have hr : w.rangeAt g off (C (c :: o)) := by rw [← List.append_assoc] at h4; exact h4.rangeMid h2
    obtain ⟨c0, c1, c2⟩ := RC.cells hr (j := 0) (c := c) rfl
    rw [Nat.zero_mul, Nat.add_zero] at c0 c1 c2
    exact ⟨off, rfl, by simp at h3; omega, c0, c1, c2⟩
theorem OwnC.cells {off cap : Nat} (h : OwnC w g (.slice (some ⟨g, off, none⟩) (o.length + 1) cap) (c :: o)) :
    w.cell? ⟨g, off, none⟩ = some (.int .i64 c.k) ∧ w.cell? ⟨g, off + 1, none⟩ = some (.int .i64 c.n) ∧ w.cell? ⟨g, off + 2, none⟩ = some (.string c.s) := by
  obtain ⟨off', e, _, h⟩ := h.head
  injection e with e
  injection e with _ e
  subst e
  exact h
/-- All but the first part. -/
theorem OwnC.tail {ao : Option Addr} {cap : Nat} (h : OwnC w g (.slice ao (o.length + 1) cap) (c :: o)) :
    ∃ p q, (∀ wx, (Instr.slice 27 (.slice ao (o.length + 1) cap) (some (.int .i64 1)) none none).run Try.prog wx = .ok (.slice p o.length q) wx) ∧ ∀ (w' : World) (e : Cp), OwnC w' g (.slice ao (o.length + 1) cap) (e :: o) → OwnC w' g (.slice p o.length q) o := by
  rcases h with ⟨_, h⟩ | ⟨pre, post, off, cap', h1, h2, h3, h4⟩
  · simp at h
  · injection h1 with e1 e2 e3
    subst e1 e3
    simp only [List.length_cons] at h3
    by_cases hc : cap = 1
    · subst hc
      have ho : o = [] := List.eq_nil_of_length_eq_zero (by omega)
      subst ho
      refine ⟨some ⟨g, off, none⟩, 0, fun wx => ?_, fun w' e hw => ?_⟩
      · clear h4
        go_simp
      · rcases hw with ⟨_, h⟩ | ⟨pre', post', off', cap', h1', h2', h3', h4'⟩
        · simp at h
        · injection h1' with e1' e2' e3'
          injection e1' with e1'
          injection e1' with e1' e4'
          subst e4'
          exact .inr ⟨pre', e.vals ++ post', off, 0, rfl, h2', by simp, by simpa [C] using h4'⟩
    · refine ⟨some ⟨g, off + 3, none⟩, cap - 1, fun wx => ?_, fun w' e hw => ?_⟩
      · have hkc : ¬ cap - 1 = 0 := by omega
        clear h4 e2
        go_simp
        intro hlt
        omega
      · rcases hw with ⟨_, h⟩ | ⟨pre', post', off', cap', h1', h2', h3', h4'⟩
        · simp at h
        · injection h1' with e1' e2' e3'
          injection e1' with e1'
          injection e1' with e1' e4'
          subst e4'
          refine .inr ⟨pre' ++ e.vals, post', off + 3, cap - 1, rfl, by simp [Cp.vals, h2'], by omega, ?_⟩
          rw [C_cons] at h4'
          simpa using h4'

/-- A part is written over another. -/
def laid3 (w : World) (g off : Nat) (e : Cp) : World := ((w.setCell ⟨g, off, none⟩ (.int .i64 e.k)).setCell ⟨g, off + 1, none⟩ (.int .i64 e.n)).setCell ⟨g, off + 2, none⟩ (.string e.s)
theorem laid3_other (w : World) (g off : Nat) (e : Cp) (k : Nat) (h : k ≠ g) : (laid3 w g off e).heap[k]? = w.heap[k]? := by
  unfold laid3
  rw [Below.heap_setCell _ _ _ _ h, Below.heap_setCell _ _ _ _ h, Below.heap_setCell _ _ _ _ h]
theorem laid3_below {B : Nat} {a w : World} (h : Below B a w) {g : Nat} (hg : B ≤ g) (off : Nat) (e : Cp) : Below B a (laid3 w g off e) := ((h.setCell (p := ⟨g, off, none⟩) hg _).setCell (p := ⟨g, off + 1, none⟩) hg _).setCell (p := ⟨g, off + 2, none⟩) hg _
theorem laid3_size (w : World) (g off : Nat) (e : Cp) : (laid3 w g off e).heap.size = w.heap.size := by simp [laid3]
theorem set3 (pre : List Value) (x y z a b c : Value) (r : List Value) (off : Nat) (h : pre.length = off) : (((pre ++ (x :: y :: z :: r)).set off a).set (off + 1) b).set (off + 2) c = pre ++ (a :: b :: c :: r) := by
  subst h
  rw [List.set_append_right _ _ (by omega), Nat.sub_self, List.set_cons_zero, List.set_append_right _ _ (by omega), show pre.length + 1 - pre.length = 1 by omega, List.set_cons_succ, List.set_cons_zero, List.set_append_right _ _ (by omega), show pre.length + 2 - pre.length = 2 by omega, List.set_cons_succ, List.set_cons_succ, List.set_cons_zero]
theorem OwnC.set {off cap : Nat} (h : OwnC w g (.slice (some ⟨g, off, none⟩) (o.length + 1) cap) (c :: o)) (e : Cp) : OwnC (laid3 w g off e) g (.slice (some ⟨g, off, none⟩) (o.length + 1) cap) (e :: o) := by
  rcases h with ⟨_, h⟩ | ⟨pre, post, off', cap', h1, h2, h3, h4⟩
  · simp at h
  · injection h1 with e1 e2 e3
    injection e1 with e1
    injection e1 with _ e4
    subst e3 e4
    refine .inr ⟨pre, post, off, cap, rfl, h2, h3, ?_⟩
    have := ((h4.setCell off (.int .i64 e.k)).setCell (off + 1) (.int .i64 e.n)).setCell (off + 2) (.string e.s)
    rw [C_cons, Cp.vals, List.append_assoc, List.cons_append, List.cons_append, List.cons_append, List.nil_append, set3 _ _ _ _ _ _ _ _ _ h2] at this
    rw [C_cons, Cp.vals, List.append_assoc, List.cons_append, List.cons_append, List.cons_append, List.nil_append]
    exact this
theorem OwnC.frozen {off cap : Nat} (h : OwnC w g (.slice (some ⟨g, off, none⟩) (o.length + 1) cap) (c :: o)) (j : Nat) : w.frozen? ⟨g, j, none⟩ = false := by
  rcases h with ⟨_, h⟩ | ⟨pre, post, off', cap', h1, h2, h3, h4⟩
  · simp at h
  · exact h4.frozen j
theorem OwnC.form (h : OwnC w g v o) : ∃ a cap, v = .slice a o.length cap := h.rc.form
end

/-- What lies in memory at the head of a round. -/
structure RW (w wr : World) (ga gb G : Nat) (va vb vo : Value) (a b l : List Cp) : Prop where
  below : Below w.heap.size w wr
  oa : OwnC wr ga va a
  ob : OwnC wr gb vb b
  out : HasC wr G vo l
  h1 : w.heap.size ≤ ga
  h2 : ga < gb
  h3 : gb < G
  h4 : G ≤ wr.heap.size
section
variable {w wr w' : World} {ga gb G : Nat} {va vb vo : Value} {a b l : List Cp}
theorem RW.later (h : RW w wr ga gb G va vb vo a b l) (hb : Below wr.heap.size wr w') : RW w w' ga gb G va vb vo a b l :=
  ⟨below_seq h.below hb, h.oa.kept (hb.block _ (by have := h.h2; have := h.h3; have := h.h4; omega)), h.ob.kept (hb.block _ (by have := h.h3; have := h.h4; omega)), h.out.later hb, h.h1, h.h2, h.h3, Nat.le_trans h.h4 hb.size⟩
theorem RW.app (h : RW w wr ga gb G va vb vo a b l) {vo' : Value} {l' : List Cp} (hb : Below G wr w') (ho : HasC w' G vo' l') : RW w w' ga gb G va vb vo' a b l' :=
  ⟨h.below.trans (hb.mono (by have := h.h1; have := h.h2; have := h.h3; omega)), h.oa.kept (hb.block _ (by have := h.h2; have := h.h3; omega)), h.ob.kept (hb.block _ h.h3), ho, h.h1, h.h2, h.h3, Nat.le_trans h.h4 hb.size⟩
theorem RW.tailA (h : RW w wr ga gb G va vb vo a b l) {va' : Value} {a' : List Cp} (ho : OwnC wr ga va' a') : RW w wr ga gb G va' vb vo a' b l := ⟨h.below, ho, h.ob, h.out, h.h1, h.h2, h.h3, h.h4⟩
theorem RW.tailB (h : RW w wr ga gb G va vb vo a b l) {vb' : Value} {b' : List Cp} (ho : OwnC wr gb vb' b') : RW w wr ga gb G va vb' vo a b' l := ⟨h.below, h.oa, ho, h.out, h.h1, h.h2, h.h3, h.h4⟩
end
theorem drew_heap (w : World) : w.drew.heap = w.heap := rfl
theorem RW.set {w wr : World} {ga gb G : Nat} {oa ob ca cb : Nat} {vo : Value} {c d : Cp} {a b l : List Cp} (h : RW w wr ga gb G (.slice (some ⟨ga, oa, none⟩) (a.length + 1) ca) (.slice (some ⟨gb, ob, none⟩) (b.length + 1) cb) vo (c :: a) (d :: b) l) (e f : Cp) :
    RW w (laid3 (laid3 wr ga oa e) gb ob f).drew ga gb G (.slice (some ⟨ga, oa, none⟩) (a.length + 1) ca) (.slice (some ⟨gb, ob, none⟩) (b.length + 1) cb) vo (e :: a) (f :: b) l := by
  have k1 := h.h1
  have k2 := h.h2
  have k3 := h.h3
  refine ⟨(laid3_below (laid3_below h.below h.h1 _ _) (by omega) _ _).drew, ?_, ?_, ?_, h.h1, h.h2, h.h3, ?_⟩
  · refine (h.oa.set e).kept ?_
    rw [drew_heap]
    exact laid3_other _ _ _ _ _ (by omega)
  · have := (h.ob.kept (w' := laid3 wr ga oa e) (laid3_other _ _ _ _ _ (by omega))).set f
    exact this.kept (by rw [drew_heap])
  · refine HasK.kept h.out (fun k hk => ?_)
    rw [drew_heap, laid3_other _ _ _ _ _ (by omega), laid3_other _ _ _ _ _ (by omega)]
  · rw [drew_heap, laid3_size, laid3_size]; exact h.h4

/-- Where the rounds are. -/
structure RP (a b a' b' l : List Cp) : Prop where
  ga : Good a'
  gb : Good b'
  io : inS b' = outS a'
  eq : l ++ compS a' b' = compS a b
  ia : inS a' ≤ 400
  oa : outS a' ≤ 400
  ob : outS b' ≤ 400
theorem RP.len {a b a' b' l : List Cp} (h : RP a b a' b' l) : l.length ≤ a.length + b.length := by
  have h1 := congrArg List.length h.eq
  have h2 := comp_le a b
  rw [List.length_append] at h1
  omega
theorem small {c : Cp} {a : List Cp} (hg : Good (c :: a)) (hi : inS (c :: a) ≤ 400) (ho : outS (c :: a) ≤ 400) : 0 ≤ c.n ∧ c.n ≤ 400 ∧ c.s.size ≤ 400 ∧ c.sz ≤ 400 := by
  have h1 := hg.tl.inS_nn
  have h2 := hg.tl.outS_nn
  rw [in_cons] at hi
  rw [out_cons] at ho
  rcases ok_cases hg.hd with ⟨m, hm, rfl⟩ | ⟨s, hs, rfl⟩ | ⟨m, hm, rfl⟩
  · rw [over_K] at hi
    exact ⟨by simp [pK], by simp [pK]; omega, by simp [pK, em_sz], by rw [sz_K]; omega⟩
  · rw [outl_P] at ho
    exact ⟨by simp [pP], by simp [pP], by simp [pP]; omega, by rw [sz_P]; omega⟩
  · rw [over_X] at hi
    exact ⟨by simp [pX], by simp [pX]; omega, by simp [pX, em_sz], by rw [sz_X]; omega⟩
theorem RP.cut {a b a' b' l : List Cp} {c : Cp} (h : RP a b (c :: a') b' l) (hk : c.k = 3) : RP a b a' b' (l ++ [c]) := by
  have h1 := h.ga.tl.inS_nn
  have hi := h.ia
  have ho := h.oa
  have hio := h.io
  have he := h.eq
  have hov := (over_nn h.ga.hd).1
  rw [comp_X hk] at he
  rw [in_cons] at hi
  rw [out_cons] at ho hio
  have : c.outl = 0 := by
    rcases ok_cases h.ga.hd with ⟨m, hm, rfl⟩ | ⟨s, hs, rfl⟩ | ⟨m, hm, rfl⟩
    · simp [pK] at hk
    · simp [pP] at hk
    · exact outl_X _
  exact ⟨h.ga.tl, h.gb, by omega, by rw [← he]; simp, by omega, by omega, h.ob⟩
theorem RP.put {a b a' b' l : List Cp} {d : Cp} (h : RP a b a' (d :: b') l) (ha : ∀ c ∈ a'.head?, c.k ≠ 3) (hk : d.k = 2) : RP a b a' b' (l ++ [d]) := by
  have ho := h.ob
  have hio := h.io
  have he := h.eq
  have hov := (over_nn h.gb.hd).2
  rw [comp_P hk _ _ ha] at he
  rw [out_cons] at ho
  rw [in_cons] at hio
  have : d.over = 0 := by
    rcases ok_cases h.gb.hd with ⟨m, hm, rfl⟩ | ⟨s, hs, rfl⟩ | ⟨m, hm, rfl⟩
    · simp [pK] at hk
    · exact over_P _
    · simp [pX] at hk
  exact ⟨h.ga, h.gb.tl, by omega, by rw [← he]; simp, h.ia, h.oa, by omega⟩
theorem RP.both {a b a' b' l : List Cp} {c d : Cp} (h : RP a b (c :: a') (d :: b') l) (hc : c.k ≠ 3) (hd : d.k ≠ 2) :
    RP a b (restL (min c.sz d.sz) c a') (restL (min c.sz d.sz) d b') (l ++ joint (min c.sz d.sz) c d) := by
  have he := h.eq
  have hio := h.io
  have hia := h.ia
  have hoa := h.oa
  have hob := h.ob
  have z1 := h.ga.hd.szp
  have z2 := h.gb.hd.szp
  rw [comp_J hc hd] at he
  obtain ⟨k, hk⟩ : ∃ k, min c.sz d.sz = k := ⟨_, rfl⟩
  rw [hk] at he ⊢
  obtain ⟨ra1, ra2, ra3, ra4, _⟩ := rest_all h.ga.hd h.ga.tl k (by omega) (by omega)
  obtain ⟨rb1, rb2, rb3, rb4, _⟩ := rest_all h.gb.hd h.gb.tl k (by omega) (by omega)
  have p1 := over_nn ra2
  have p2 := over_nn rb2
  have o1 : (c.fr k).outl = (k : Int) := by
    rcases ok_cases h.ga.hd with ⟨m, hm, rfl⟩ | ⟨s, hs, rfl⟩ | ⟨m, hm, rfl⟩
    · rw [fr_K, outl_K]
    · rw [fr_P, outl_P, ext_len _ _ _ (by rw [sz_P] at hk; omega)]; omega
    · exact absurd rfl hc
  have o2 : (d.fr k).over = (k : Int) := by
    rcases ok_cases h.gb.hd with ⟨m, hm, rfl⟩ | ⟨s, hs, rfl⟩ | ⟨m, hm, rfl⟩
    · rw [fr_K, over_K]
    · exact absurd rfl hd
    · rw [fr_X, over_X]
  exact ⟨ra1, rb1, by omega, by rw [List.append_assoc]; exact he, by omega, by omega, by omega⟩
theorem RP.noA {a b b' l : List Cp} {d : Cp} (h : RP a b [] (d :: b') l) : d.k = 2 := by
  have hio := h.io
  have h1 := h.gb.tl.inS_nn
  rw [in_cons, outS] at hio
  rcases ok_cases h.gb.hd with ⟨m, hm, rfl⟩ | ⟨s, hs, rfl⟩ | ⟨m, hm, rfl⟩
  · rw [over_K] at hio; omega
  · rfl
  · rw [over_X] at hio; omega
theorem RP.noB {a b a' l : List Cp} {c : Cp} (h : RP a b (c :: a') [] l) : c.k = 3 := by
  have hio := h.io
  have h1 := h.ga.tl.outS_nn
  rw [out_cons, inS] at hio
  rcases ok_cases h.ga.hd with ⟨m, hm, rfl⟩ | ⟨s, hs, rfl⟩ | ⟨m, hm, rfl⟩
  · rw [outl_K] at hio; omega
  · rw [outl_P] at hio; omega
  · rfl
theorem boxes2 (w : World) (x y : Cp) : Blk ((w.alloc (.cells x.vals.toArray 42)).alloc (.cells y.vals.toArray 42)) 42 w.heap.size x.vals ∧ Blk ((w.alloc (.cells x.vals.toArray 42)).alloc (.cells y.vals.toArray 42)) 42 (w.heap.size + 1) y.vals := by
  have h2 := Blk.new (w.alloc (.cells x.vals.toArray 42)) 42 y.vals
  rw [show (w.alloc (.cells x.vals.toArray 42)).heap.size = w.heap.size + 1 by simp] at h2
  exact ⟨(Blk.new w 42 x.vals).alloc _, h2⟩
theorem fr_k (c : Cp) (n : Nat) : (c.fr n).k = c.k := by
  unfold Cp.fr
  by_cases h : c.k = 2
  · rw [if_pos h, h]; rfl
  · rw [if_neg h]
theorem rs_sz {c : Cp} (hc : c.Ok) {n : Nat} (h : n ≤ c.sz) : (c.rs n).sz = c.sz - n ∧ 0 ≤ (c.rs n).n ∧ (c.rs n).n ≤ c.sz ∧ (c.rs n).s.size ≤ c.sz := by
  rcases ok_cases hc with ⟨m, hm, rfl⟩ | ⟨s, hs, rfl⟩ | ⟨m, hm, rfl⟩
  · rw [sz_K] at h ⊢
    rw [rs_K n m h, sz_K]
    exact ⟨rfl, by simp [pK], by simp [pK] <;> omega, by simp [pK, em_sz]⟩
  · rw [sz_P] at h ⊢
    rw [rs_P, sz_P, ext_len _ _ _ (Nat.le_refl _)]
    exact ⟨rfl, by simp [pP], by simp [pP], by simp [pP]⟩
  · rw [sz_X] at h ⊢
    rw [rs_X n m h, sz_X]
    exact ⟨rfl, by simp [pX], by simp [pX] <;> omega, by simp [pX, em_sz]⟩
end Go.Proofs.Ytbhojomgbjchkaa

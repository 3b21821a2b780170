/- The rounds of the second say's Pair as steps on lists, and what lies in memory on its way. -/
import Derived.Test.YtlgdllbhddnokaaTMem
import Derived.Test.YtlgdllbhddnokaaOwnC
import Derived.Test.YtlgdllbhddnokaaPairS
namespace Go.Proofs.Ytlgdllbhddnokaa
open Go.RowKit
set_option linter.unusedSimpArgs false
set_option linter.unusedVariables false

theorem OwnC.keptB {w w' : World} {g : Nat} {v : Value} {o : List Cp} (h : OwnC w g v o) (hk : ∀ k, blkOf v = some k → w'.heap[k]? = w.heap[k]?) : OwnC w' g v o := by
  rcases h with h | ⟨pre, post, off, cap, rfl, h2, h3, h4⟩
  · exact .inl h
  · exact .inr ⟨pre, post, off, cap, rfl, h2, h3, h4.kept (hk g rfl)⟩
theorem OwnC.lt {w : World} {g : Nat} {v : Value} {o : List Cp} (h : OwnC w g v o) {k : Nat} (hk : blkOf v = some k) : k = g ∧ k < w.heap.size := by
  rcases h with ⟨rfl, _⟩ | ⟨pre, post, off, cap, rfl, h2, h3, h4⟩
  · cases hk
  · cases hk; exact ⟨rfl, h4.lt⟩
/-- A new answer, as a slice of one's own. -/
theorem OwnC.of_has2 {w : World} {Bd : Nat} {v : Value} {o : List Cp} (h : HasC w Bd v o) : ∃ g, OwnC w g v o ∧ ∀ k, blkOf v = some k → Bd ≤ k ∧ k < w.heap.size := by
  obtain ⟨g, h1, h2, h3⟩ := OwnC.of_has h (Nat.le_refl Bd)
  refine ⟨g, h3, fun k hk => ?_⟩
  have := h3.lt hk
  omega

/-- What lies in memory at the head of a round. -/
structure RM (w wr : World) (ga gb G : Nat) (va vb vx vy : Value) (a b lx ly : List Cp) : Prop where
  below : Below w.heap.size w wr
  oa : OwnC wr ga va a
  ob : OwnC wr gb vb b
  out : O2 wr G vx lx vy ly
  la : ∀ k, blkOf va = some k → w.heap.size ≤ k ∧ k < G
  lb : ∀ k, blkOf vb = some k → w.heap.size ≤ k ∧ k < G
  ne : ∀ k, blkOf va = some k → blkOf vb ≠ some k
  hG : w.heap.size ≤ G
  h4 : G ≤ wr.heap.size
section
variable {w wr w' : World} {ga gb G : Nat} {va vb vx vy : Value} {a b lx ly : List Cp}
theorem RM.later (h : RM w wr ga gb G va vb vx vy a b lx ly) (hb : Below wr.heap.size wr w') : RM w w' ga gb G va vb vx vy a b lx ly :=
  ⟨below_seq h.below hb, h.oa.keptB (fun k hk => hb.block k (h.oa.lt hk).2), h.ob.keptB (fun k hk => hb.block k (h.ob.lt hk).2), h.out.later hb, h.la, h.lb, h.ne, h.hG, Nat.le_trans h.h4 hb.size⟩
theorem RM.app (h : RM w wr ga gb G va vb vx vy a b lx ly) {vx' vy' : Value} {lx' ly' : List Cp} (hb : Below G wr w') (ho : O2 w' G vx' lx' vy' ly') : RM w w' ga gb G va vb vx' vy' a b lx' ly' :=
  ⟨h.below.trans (hb.mono h.hG), h.oa.keptB (fun k hk => hb.block k (h.la k hk).2), h.ob.keptB (fun k hk => hb.block k (h.lb k hk).2), ho, h.la, h.lb, h.ne, h.hG, Nat.le_trans h.h4 hb.size⟩
theorem RM.tailA (h : RM w wr ga gb G va vb vx vy a b lx ly) {va' : Value} {a' : List Cp} (ho : OwnC wr ga va' a') (hl : ∀ k, blkOf va' = some k → blkOf va = some k) : RM w wr ga gb G va' vb vx vy a' b lx ly :=
  ⟨h.below, ho, h.ob, h.out, fun k hk => h.la k (hl k hk), h.lb, fun k hk => h.ne k (hl k hk), h.hG, h.h4⟩
theorem RM.tailB (h : RM w wr ga gb G va vb vx vy a b lx ly) {vb' : Value} {b' : List Cp} (ho : OwnC wr gb vb' b') (hl : ∀ k, blkOf vb' = some k → blkOf vb = some k) : RM w wr ga gb G va vb' vx vy a b' lx ly :=
  ⟨h.below, h.oa, ho, h.out, h.la, fun k hk => h.lb k (hl k hk), fun k hk hk2 => h.ne k hk (hl k hk2), h.hG, h.h4⟩
end
/-- The number of the first part is written. -/
theorem OwnC.setN {w : World} {g off cap : Nat} {c : Cp} {o : List Cp} (h : OwnC w g (.slice (some ⟨g, off, none⟩) (o.length + 1) cap) (c :: o)) (n : Int) : OwnC (w.setCell ⟨g, off + 1, none⟩ (.int .i64 n)) g (.slice (some ⟨g, off, none⟩) (o.length + 1) cap) (⟨c.k, n, c.s⟩ :: o) := by
  rcases h with ⟨_, h⟩ | ⟨pre, post, off', cap', h1, h2, h3, h4⟩
  · simp at h
  · injection h1 with e1 e2 e3
    injection e1 with e1
    injection e1 with _ e4
    subst e3 e4
    refine .inr ⟨pre, post, off, cap, rfl, h2, h3, ?_⟩
    have := h4.setCell (off + 1) (.int .i64 n)
    rw [C_cons, Cp.vals, List.append_assoc, List.cons_append, List.cons_append, List.cons_append, List.nil_append, List.set_append_right _ _ (by omega), show off + 1 - pre.length = 1 by omega, List.set_cons_succ, List.set_cons_zero] at this
    rw [C_cons, Cp.vals, List.append_assoc, List.cons_append, List.cons_append, List.cons_append, List.nil_append]
    exact this
theorem OwnC.at {w : World} {g g' off cap : Nat} {c : Cp} {o : List Cp} (h : OwnC w g (.slice (some ⟨g', off, none⟩) (o.length + 1) cap) (c :: o)) : g' = g := (h.lt rfl).1
theorem RM.setN {w wr : World} {ga gb G oa ob ca cb : Nat} {vx vy : Value} {c d : Cp} {a b lx ly : List Cp} (h : RM w wr ga gb G (.slice (some ⟨ga, oa, none⟩) (a.length + 1) ca) (.slice (some ⟨gb, ob, none⟩) (b.length + 1) cb) vx vy (c :: a) (d :: b) lx ly) (n m : Int) :
    RM w ((wr.setCell ⟨ga, oa + 1, none⟩ (.int .i64 n)).setCell ⟨gb, ob + 1, none⟩ (.int .i64 m)).drew ga gb G (.slice (some ⟨ga, oa, none⟩) (a.length + 1) ca) (.slice (some ⟨gb, ob, none⟩) (b.length + 1) cb) vx vy (⟨c.k, n, c.s⟩ :: a) (⟨d.k, m, d.s⟩ :: b) lx ly := by
  obtain ⟨k1, k2⟩ := h.la ga rfl
  obtain ⟨k3, k4⟩ := h.lb gb rfl
  have hne : ga ≠ gb := fun e => h.ne ga rfl (by rw [e]; rfl)
  refine ⟨((h.below.setCell (p := ⟨ga, oa + 1, none⟩) k1 _).setCell (p := ⟨gb, ob + 1, none⟩) k3 _).drew, ?_, ?_, ?_, h.la, h.lb, h.ne, h.hG, by have := h.h4; rw [drew_heap]; simpa using this⟩
  · refine (h.oa.setN n).keptB (fun k hk => ?_)
    cases hk
    rw [drew_heap]
    exact Below.heap_setCell _ _ _ _ hne
  · have := (h.ob.keptB (w' := wr.setCell ⟨ga, oa + 1, none⟩ (.int .i64 n)) (fun k hk => by cases hk; exact Below.heap_setCell _ _ _ _ (fun e => hne e.symm))).setN m
    exact this.keptB (fun k hk => by rw [drew_heap])
  · refine h.out.kept (fun k hk => ?_)
    rw [drew_heap, Below.heap_setCell _ _ _ _ (show k ≠ gb by omega), Below.heap_setCell _ _ _ _ (show k ≠ ga by omega)]

/-- Where the rounds are. -/
structure RQ (X Y a b lx ly : List Cp) : Prop where
  ga : Good a
  gb : Good b
  io : inS a = inS b
  ia : inS a ≤ 400
  oa : outS a ≤ 400
  ob : outS b ≤ 400
  eq : ∃ x y, PR a b x y ∧ lx ++ x = X ∧ ly ++ y = Y
section
variable {X Y a b lx ly : List Cp} {c d : Cp}
theorem RQ.len (h : RQ X Y a b lx ly) : lx.length ≤ X.length ∧ ly.length ≤ Y.length := by
  obtain ⟨x, y, _, h1, h2⟩ := h.eq
  have e1 := congrArg List.length h1
  have e2 := congrArg List.length h2
  rw [List.length_append] at e1 e2
  omega
theorem RQ.over (h : RQ X Y [] [] lx ly) : lx = X ∧ ly = Y := by
  obtain ⟨x, y, hp, hx, hy⟩ := h.eq
  obtain ⟨e1, e2⟩ := PR.invN hp
  subst e1 e2
  rw [List.append_nil] at hx hy
  exact ⟨hx, hy⟩
theorem RQ.noA (h : RQ X Y [] (d :: b) lx ly) : d.k = 2 := by
  refine Classical.byContradiction (fun hk => ?_)
  have h1 := h.io
  have h2 := h.gb.tl.inS_nn
  have h3 := h.gb.hd.szp
  rw [in_cons, inS, over_sz h.gb.hd hk] at h1
  omega
theorem RQ.noB (h : RQ X Y (c :: a) [] lx ly) : c.k = 2 := by
  refine Classical.byContradiction (fun hk => ?_)
  have h1 := h.io
  have h2 := h.ga.tl.inS_nn
  have h3 := h.ga.hd.szp
  rw [in_cons, inS, over_sz h.ga.hd hk] at h1
  omega
theorem RQ.putA (h : RQ X Y (c :: a) b lx ly) (hk : c.k = 2) : RQ X Y a b (lx ++ [c]) (ly ++ [pK c.s.size]) := by
  obtain ⟨x, y, hp, hx, hy⟩ := h.eq
  obtain ⟨x', y', rfl, rfl, hp'⟩ := hp.invA hk
  have ho : c.over = 0 := by rw [Cp.over, if_neg (by omega)]
  have h1 := h.io
  have h2 := h.ia
  have h3 := h.oa
  have h4 := (over_nn h.ga.hd).2
  rw [in_cons, ho] at h1 h2
  rw [out_cons] at h3
  exact ⟨h.ga.tl, h.gb, by omega, by omega, by omega, h.ob, x', y', hp', by rw [← hx]; simp, by rw [← hy]; simp⟩
theorem RQ.putB (h : RQ X Y a (d :: b) lx ly) (ha : ∀ c ∈ a.head?, c.k ≠ 2) (hk : d.k = 2) : RQ X Y a b (lx ++ [pK d.s.size]) (ly ++ [d]) := by
  obtain ⟨x, y, hp, hx, hy⟩ := h.eq
  obtain ⟨x', y', rfl, rfl, hp'⟩ := hp.invB hk ha
  have ho : d.over = 0 := by rw [Cp.over, if_neg (by omega)]
  have h1 := h.io
  have h3 := h.ob
  have h4 := (over_nn h.gb.hd).2
  rw [in_cons, ho] at h1
  rw [out_cons] at h3
  exact ⟨h.ga, h.gb.tl, by omega, h.ia, h.oa, by omega, x', y', hp', by rw [← hx]; simp, by rw [← hy]; simp⟩
theorem RQ.both (h : RQ X Y (c :: a) (d :: b) lx ly) (hc : c.k ≠ 2) (hd : d.k ≠ 2) (n : Nat) (hn : min c.sz d.sz = n) : RQ X Y (restL n c a) (restL n d b) (lx ++ ledS n c d) (ly ++ ledS n d c) := by
  obtain ⟨x, y, hp, hx, hy⟩ := h.eq
  obtain ⟨x', y', rfl, rfl, hp'⟩ := hp.invJ hc hd
  rw [hn] at hp' hx hy
  have z1 := h.ga.hd.szp
  have z2 := h.gb.hd.szp
  obtain ⟨ra, ri, _⟩ := rest_kx h.ga.hd hc h.ga.tl n (by omega) (by omega)
  obtain ⟨rb, rj, _⟩ := rest_kx h.gb.hd hd h.gb.tl n (by omega) (by omega)
  obtain ⟨_, f1, _, oa, _⟩ := rest_all h.ga.hd h.ga.tl n (by omega) (by omega)
  obtain ⟨_, f2, _, ob, _⟩ := rest_all h.gb.hd h.gb.tl n (by omega) (by omega)
  have p1 := (over_nn f1).2
  have p2 := (over_nn f2).2
  have h1 := h.io
  have h2 := h.ia
  have h3 := h.oa
  have h4 := h.ob
  exact ⟨ra, rb, by omega, by omega, by omega, by omega, x', y', hp', by rw [← hx, List.append_assoc], by rw [← hy, List.append_assoc]⟩
end
theorem kx_form {c : Cp} (h : c.Ok) (hk : c.k ≠ 2) : ∃ (k : Int) (i : Nat), 1 ≤ i ∧ (k = 1 ∨ k = 3) ∧ c = ⟨k, i, Em⟩ ∧ c.sz = i := by
  obtain ⟨i, hi, rfl | rfl⟩ := ok_kx h hk
  · exact ⟨1, i, hi, .inl rfl, rfl, sz_K i⟩
  · exact ⟨3, i, hi, .inr rfl, rfl, sz_X i⟩
theorem rest_zero {k : Int} {i n : Nat} (h : i = n) (a : List Cp) : restL n ⟨k, i, Em⟩ a = a := by
  unfold restL
  rw [if_pos (by simp [Cp.sz, em_sz, h])]
theorem rest_some {k : Int} {i n : Nat} (hk : k ≠ 2) (h : ¬ i = n) (a : List Cp) : restL n ⟨k, i, Em⟩ a = ⟨k, (i : Int) - (n : Int), Em⟩ :: a := by
  unfold restL
  rw [if_neg (by simp [Cp.sz, em_sz, h]), Cp.rs, if_neg hk]
end Go.Proofs.Ytlgdllbhddnokaa

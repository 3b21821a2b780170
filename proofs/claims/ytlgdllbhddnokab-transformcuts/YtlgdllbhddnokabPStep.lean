/- The rounds of package transform's Pair, as steps on lists; of no program. -/
import Derived.Test.YtlgdllbhddnokabPairS
import Derived.Test.YtlgdllbhddnokabCut1
namespace Go.Proofs.Ytlgdllbhddnokab
set_option linter.unusedSimpArgs false
set_option linter.unusedVariables false

/-- What is left of c (r bytes of it), if anything, ahead of a. -/
def hdR (c : Cp) (r : Nat) (a : List Cp) : List Cp := if r = 0 then a else ⟨c.k, r, Em⟩ :: a
theorem hdR_zero (c : Cp) (a : List Cp) : hdR c 0 a = a := rfl
theorem hdR_pos {c : Cp} {r : Nat} (h : r ≠ 0) (a : List Cp) : hdR c r a = ⟨c.k, r, Em⟩ :: a := if_neg h
theorem hdR_self {e : Cp} (he : e.Ok) (hk : e.k ≠ 2) (a : List Cp) : hdR e e.sz a = e :: a := by
  have hz := he.szp
  rw [hdR_pos (by omega)]
  obtain ⟨n, hn, rfl | rfl⟩ := ok_kx he hk
  · rw [sz_K]; rfl
  · rw [sz_X]; rfl
theorem cut_sz (k : Int) (r : Nat) : (⟨k, r, Em⟩ : Cp).sz = r := by simp [Cp.sz, em_sz]
theorem rest_cut {d : Cp} (hk : d.k ≠ 2) (r n : Nat) (h : n ≤ r) (b : List Cp) : restL n ⟨d.k, r, Em⟩ b = hdR d (r - n) b := by
  unfold restL hdR
  rw [cut_sz]
  by_cases e : r = n
  · rw [if_pos e, if_pos (by omega)]
  · rw [if_neg e, if_neg (by omega)]
    have : (⟨d.k, (r : Int), Em⟩ : Cp).rs n = ⟨d.k, ((r - n : Nat) : Int), Em⟩ := by
      unfold Cp.rs
      rw [if_neg hk]
      simp only [Cp.mk.injEq, true_and, and_true]
      omega
    rw [this]
theorem rest_hd {e : Cp} (he : e.Ok) (hk : e.k ≠ 2) (n : Nat) (h : n ≤ e.sz) (a : List Cp) : restL n e a = hdR e (e.sz - n) a := by
  have h1 := rest_cut (d := e) hk e.sz n h a
  have h2 : (⟨e.k, (e.sz : Int), Em⟩ : Cp) = e := by
    obtain ⟨n, hn, rfl | rfl⟩ := ok_kx he hk
    · rw [sz_K]; rfl
    · rw [sz_X]; rfl
  rwa [h2] at h1
theorem ok_13 {e : Cp} (he : e.Ok) (hk : e.k ≠ 2) : e.k = 1 ∨ e.k = 3 := by
  rcases he.kind with h | h | h
  · exact .inl h
  · exact absurd h hk
  · exact .inr h

/-- Where the walk of Pair is: the part c of a lies at s0 and goes over sn bytes, the part d of b at t0 over tn; what is behind them is a and b; lx and ly came of the rest. -/
structure PT (I : Nat) (X Y : List Cp) (c d : Cp) (s0 sn t0 tn : Nat) (a b lx ly : List Cp) : Prop where
  fa : Fit a
  fb : Fit b
  ga : Good a
  gb : Good b
  ia : ((s0 + sn : Nat) : Int) + inS a = I
  ib : ((t0 + tn : Nat) : Int) + inS b = I
  ls : s0 ≤ t0 + tn
  lt : t0 ≤ s0 + sn
  hc : t0 + tn < s0 + sn → (c.k = 1 ∨ c.k = 3)
  hd : s0 + sn < t0 + tn → (d.k = 1 ∨ d.k = 3)
  eq : ∃ x y, PR (hdR c (s0 + sn - (t0 + tn)) a) (hdR d (t0 + tn - (s0 + sn)) b) x y ∧ lx ++ x = X ∧ ly ++ y = Y
section
variable {I : Nat} {X Y : List Cp} {c d e : Cp} {s0 sn t0 tn : Nat} {a b lx ly : List Cp}
theorem PT.start (fa : Fit a) (fb : Fit b) (ga : Good a) (gb : Good b) (ia : inS a = I) (ib : inS b = I) (h : PR a b X Y) (c d : Cp) : PT I X Y c d 0 0 0 0 a b [] [] :=
  ⟨fa, fb, ga, gb, by omega, by omega, by omega, by omega, fun h => by omega, fun h => by omega, X, Y, h, rfl, rfl⟩
theorem PT.len (h : PT I X Y c d s0 sn t0 tn a b lx ly) : lx.length ≤ X.length ∧ ly.length ≤ Y.length := by
  obtain ⟨x, y, _, h1, h2⟩ := h.eq
  have e1 := congrArg List.length h1
  have e2 := congrArg List.length h2
  rw [List.length_append] at e1 e2
  omega
theorem PT.le (h : PT I X Y c d s0 sn t0 tn a b lx ly) : s0 + sn ≤ I ∧ t0 + tn ≤ I := by
  have h1 := h.ia
  have h2 := h.ib
  have h3 := h.ga.inS_nn
  have h4 := h.gb.inS_nn
  omega
theorem PT.endA (h : PT I X Y c d s0 sn t0 tn [] b lx ly) : t0 + tn ≤ s0 + sn := by
  have h1 := h.ia
  rw [inS] at h1
  have := h.le
  omega
theorem PT.endB (h : PT I X Y c d s0 sn t0 tn a [] lx ly) : s0 + sn ≤ t0 + tn := by
  have h1 := h.ib
  rw [inS] at h1
  have := h.le
  omega
theorem PT.over (h : PT I X Y c d s0 sn t0 tn [] [] lx ly) : lx = X ∧ ly = Y := by
  have h1 := h.endA
  have h2 := h.endB
  obtain ⟨x, y, hp, hx, hy⟩ := h.eq
  rw [show s0 + sn - (t0 + tn) = 0 by omega, show t0 + tn - (s0 + sn) = 0 by omega] at hp
  obtain ⟨e1, e2⟩ := PR.invN hp
  subst e1 e2
  rw [List.append_nil] at hx hy
  exact ⟨hx, hy⟩
theorem PT.sz (h : PT I X Y c d s0 sn t0 tn (e :: a) b lx ly) (hk : e.k ≠ 2) : s0 + sn + e.sz ≤ I := by
  have h1 := h.ia
  have h2 := h.ga.tl.inS_nn
  rw [in_cons, over_sz h.ga.hd hk] at h1
  omega
theorem PT.szB (h : PT I X Y c d s0 sn t0 tn a (e :: b) lx ly) (hk : e.k ≠ 2) : t0 + tn + e.sz ≤ I := by
  have h1 := h.ib
  have h2 := h.gb.tl.inS_nn
  rw [in_cons, over_sz h.gb.hd hk] at h1
  omega
theorem PT.aPut (h : PT I X Y c d s0 sn t0 tn (e :: a) b lx ly) (hle : s0 + sn ≤ t0 + tn) (hk : e.k = 2) : PT I X Y e d (s0 + sn) 0 t0 tn a b (lx ++ [e]) (ly ++ [pK e.s.size]) := by
  obtain ⟨x, y, hp, hx, hy⟩ := h.eq
  rw [show s0 + sn - (t0 + tn) = 0 by omega, hdR_zero] at hp
  obtain ⟨x', y', rfl, rfl, hp'⟩ := hp.invA hk
  have ho : e.over = 0 := by rw [Cp.over, if_neg (by omega)]
  have ia := h.ia
  rw [in_cons, ho] at ia
  refine ⟨h.fa.tl, h.fb, h.ga.tl, h.gb, by omega, h.ib, hle, h.lt, fun hh => by omega, fun hh => h.hd (by omega), x', y', ?_, by rw [← hx]; simp, by rw [← hy]; simp⟩
  rw [show s0 + sn + 0 - (t0 + tn) = 0 by omega, hdR_zero]
  exact hp'
theorem PT.aMove (h : PT I X Y c d s0 sn t0 tn (e :: a) b lx ly) (hle : s0 + sn ≤ t0 + tn) (hk : e.k ≠ 2) (n : Nat) (hn : n = min (s0 + sn + e.sz) (t0 + tn) - max (s0 + sn) t0) :
    PT I X Y e d (s0 + sn) e.sz t0 tn a b (lx ++ if n = 0 then [] else ledS n e d) (ly ++ if n = 0 then [] else ledS n d e) := by
  obtain ⟨x, y, hp, hx, hy⟩ := h.eq
  rw [show s0 + sn - (t0 + tn) = 0 by omega, hdR_zero] at hp
  have ia := h.ia
  rw [in_cons, over_sz h.ga.hd hk] at ia
  have hlt := h.lt
  have hz := h.ga.hd.szp
  have h13 := ok_13 h.ga.hd hk
  by_cases hz0 : t0 + tn = s0 + sn
  · have hn0 : n = 0 := by omega
    rw [if_pos hn0, if_pos hn0, List.append_nil, List.append_nil]
    refine ⟨h.fa.tl, h.fb, h.ga.tl, h.gb, by omega, h.ib, by omega, by omega, fun _ => h13, fun hh => by omega, x, y, ?_, hx, hy⟩
    rw [show s0 + sn + e.sz - (t0 + tn) = e.sz by omega, show t0 + tn - (s0 + sn + e.sz) = 0 by omega, hdR_self h.ga.hd hk]
    rw [show t0 + tn - (s0 + sn) = 0 by omega] at hp
    exact hp
  · have hdk := h.hd (by omega)
    have hd2 : d.k ≠ 2 := by omega
    rw [hdR_pos (by omega)] at hp
    obtain ⟨x', y', rfl, rfl, hp'⟩ := hp.invJ hk hd2
    have hmin : min e.sz (⟨d.k, ((t0 + tn - (s0 + sn) : Nat) : Int), Em⟩ : Cp).sz = n := by rw [cut_sz]; omega
    rw [hmin] at hp' hx hy
    rw [if_neg (by omega), if_neg (by omega)]
    refine ⟨h.fa.tl, h.fb, h.ga.tl, h.gb, by omega, h.ib, by omega, by omega, fun _ => h13, fun _ => hdk, x', y', ?_, by rw [← hx, List.append_assoc]; rfl, by rw [← hy, List.append_assoc]; rfl⟩
    rw [rest_hd h.ga.hd hk n (by omega), rest_cut hd2 _ n (by omega)] at hp'
    rw [show s0 + sn + e.sz - (t0 + tn) = e.sz - n by omega, show t0 + tn - (s0 + sn + e.sz) = t0 + tn - (s0 + sn) - n by omega]
    exact hp'
theorem PT.bPut (h : PT I X Y c d s0 sn t0 tn a (e :: b) lx ly) (hge : t0 + tn ≤ s0 + sn) (ha : s0 + sn = t0 + tn → a = []) (hk : e.k = 2) : PT I X Y c e s0 sn (t0 + tn) 0 a b (lx ++ [pK e.s.size]) (ly ++ [e]) := by
  obtain ⟨x, y, hp, hx, hy⟩ := h.eq
  rw [show t0 + tn - (s0 + sn) = 0 by omega, hdR_zero] at hp
  obtain ⟨x', y', rfl, rfl, hp'⟩ := hp.invB hk (fun z hz => by
    by_cases h0 : s0 + sn = t0 + tn
    · rw [show s0 + sn - (t0 + tn) = 0 by omega, hdR_zero, ha h0] at hz
      simp at hz
    · rw [hdR_pos (by omega)] at hz
      simp at hz
      subst hz
      have := h.hc (by omega)
      show c.k ≠ 2
      omega)
  have ho : e.over = 0 := by rw [Cp.over, if_neg (by omega)]
  have ib := h.ib
  rw [in_cons, ho] at ib
  refine ⟨h.fa, h.fb.tl, h.ga, h.gb.tl, h.ia, by omega, h.ls, hge, fun hh => h.hc (by omega), fun hh => by omega, x', y', ?_, by rw [← hx]; simp, by rw [← hy]; simp⟩
  rw [show t0 + tn + 0 - (s0 + sn) = 0 by omega, hdR_zero]
  exact hp'
theorem PT.bMove (h : PT I X Y c d s0 sn t0 tn a (e :: b) lx ly) (hge : t0 + tn ≤ s0 + sn) (ha : s0 + sn = t0 + tn → a = []) (hk : e.k ≠ 2) (n : Nat) (hn : n = min (s0 + sn) (t0 + tn + e.sz) - max s0 (t0 + tn)) :
    n ≠ 0 ∧ PT I X Y c e s0 sn (t0 + tn) e.sz a b (lx ++ ledS n c e) (ly ++ ledS n e c) := by
  obtain ⟨x, y, hp, hx, hy⟩ := h.eq
  rw [show t0 + tn - (s0 + sn) = 0 by omega, hdR_zero] at hp
  have ib := h.ib
  rw [in_cons, over_sz h.gb.hd hk] at ib
  have hls := h.ls
  have hz := h.gb.hd.szp
  have h13 := ok_13 h.gb.hd hk
  have hnb := h.gb.tl.inS_nn
  have hz0 : t0 + tn < s0 + sn := by
    refine Nat.lt_of_le_of_ne hge (fun e0 => ?_)
    have h0 := ha e0.symm
    have ia := h.ia
    rw [h0, inS] at ia
    omega
  have hck := h.hc hz0
  have hc2 : c.k ≠ 2 := by omega
  rw [hdR_pos (by omega)] at hp
  obtain ⟨x', y', rfl, rfl, hp'⟩ := hp.invJ hc2 hk
  have hmin : min (⟨c.k, ((s0 + sn - (t0 + tn) : Nat) : Int), Em⟩ : Cp).sz e.sz = n := by rw [cut_sz]; omega
  rw [hmin] at hp' hx hy
  refine ⟨by omega, h.fa, h.fb.tl, h.ga, h.gb.tl, h.ia, by omega, by omega, by omega, fun _ => hck, fun _ => h13, x', y', ?_, by rw [← hx, List.append_assoc]; rfl, by rw [← hy, List.append_assoc]; rfl⟩
  rw [rest_hd h.gb.hd hk n (by omega), rest_cut hc2 _ n (by omega)] at hp'
  rw [show s0 + sn - (t0 + tn + e.sz) = s0 + sn - (t0 + tn) - n by omega, show t0 + tn + e.sz - (s0 + sn) = e.sz - n by omega]
  exact hp'
end
end Go.Proofs.Ytlgdllbhddnokab

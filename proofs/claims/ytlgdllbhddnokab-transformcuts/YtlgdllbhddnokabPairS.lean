/- Two operations side by side, led over one another, as a relation of lists; of no program. -/
import Derived.Test.YtlgdllbhddnokabPsz
import Derived.Test.YtlgdllbhddnokabCompS
namespace Go.Proofs.Ytlgdllbhddnokab
set_option linter.unusedSimpArgs false
set_option linter.unusedVariables false

/-- What is left of c over n bytes that d goes over, too. -/
def ledS (n : Nat) (c d : Cp) : List Cp := if d.k = 3 then [] else [⟨c.k, n, Em⟩]
/-- The steps by which a and b are led over one another: x is a behind b, y is b behind a. -/
structure PS (M : List Cp → List Cp → List Cp → List Cp → Prop) : Prop where
  nil : M [] [] [] []
  pa : ∀ (c : Cp) (a b x y : List Cp), c.k = 2 → M a b x y → M (c :: a) b (c :: x) (pK c.s.size :: y)
  pb : ∀ (d : Cp) (a b x y : List Cp), d.k = 2 → (∀ c ∈ a.head?, c.k ≠ 2) → M a b x y → M a (d :: b) (pK d.s.size :: x) (d :: y)
  pj : ∀ (c d : Cp) (a b x y : List Cp), c.k ≠ 2 → d.k ≠ 2 → M (restL (min c.sz d.sz) c a) (restL (min c.sz d.sz) d b) x y → M (c :: a) (d :: b) (ledS (min c.sz d.sz) c d ++ x) (ledS (min c.sz d.sz) d c ++ y)
def PR (a b x y : List Cp) : Prop := ∀ M : List Cp → List Cp → List Cp → List Cp → Prop, PS M → M a b x y
theorem pr_steps : PS PR :=
  ⟨fun M h => h.nil, fun c a b x y hc h M hM => hM.pa c a b x y hc (h M hM), fun d a b x y hd ha h M hM => hM.pb d a b x y hd ha (h M hM), fun c d a b x y hc hd h M hM => hM.pj c d a b x y hc hd (h M hM)⟩
/-- Which step came first. -/
def PI (a b x y : List Cp) : Prop :=
  (a = [] ∧ b = [] ∧ x = [] ∧ y = [])
  ∨ (∃ c a' x' y', c.k = 2 ∧ a = c :: a' ∧ x = c :: x' ∧ y = pK c.s.size :: y' ∧ PR a' b x' y')
  ∨ (∃ d b' x' y', d.k = 2 ∧ (∀ c ∈ a.head?, c.k ≠ 2) ∧ b = d :: b' ∧ x = pK d.s.size :: x' ∧ y = d :: y' ∧ PR a b' x' y')
  ∨ (∃ c d a' b' x' y', c.k ≠ 2 ∧ d.k ≠ 2 ∧ a = c :: a' ∧ b = d :: b' ∧ x = ledS (min c.sz d.sz) c d ++ x' ∧ y = ledS (min c.sz d.sz) d c ++ y' ∧ PR (restL (min c.sz d.sz) c a') (restL (min c.sz d.sz) d b') x' y')
theorem PR.inv {a b x y : List Cp} (h : PR a b x y) : PI a b x y := by
  refine (h (fun a b x y => PR a b x y ∧ PI a b x y) ⟨?_, ?_, ?_, ?_⟩).2
  · exact ⟨pr_steps.nil, .inl ⟨rfl, rfl, rfl, rfl⟩⟩
  · intro c a b x y hc h
    exact ⟨pr_steps.pa c a b x y hc h.1, .inr (.inl ⟨c, a, x, y, hc, rfl, rfl, rfl, h.1⟩)⟩
  · intro d a b x y hd ha h
    exact ⟨pr_steps.pb d a b x y hd ha h.1, .inr (.inr (.inl ⟨d, b, x, y, hd, ha, rfl, rfl, rfl, h.1⟩))⟩
  · intro c d a b x y hc hd h
    exact ⟨pr_steps.pj c d a b x y hc hd h.1, .inr (.inr (.inr ⟨c, d, a, b, x, y, hc, hd, rfl, rfl, rfl, rfl, h.1⟩))⟩
theorem PR.invN {x y : List Cp} (h : PR [] [] x y) : x = [] ∧ y = [] := by
  rcases h.inv with ⟨_, _, h1, h2⟩ | ⟨c, a', x', y', _, e, _⟩ | ⟨d, b', x', y', _, _, e, _⟩ | ⟨c, d, a', b', x', y', _, _, e, _⟩
  · exact ⟨h1, h2⟩
  · cases e
  · cases e
  · cases e
theorem PR.invA {c : Cp} {a b x y : List Cp} (h : PR (c :: a) b x y) (hc : c.k = 2) : ∃ x' y', x = c :: x' ∧ y = pK c.s.size :: y' ∧ PR a b x' y' := by
  rcases h.inv with ⟨e, _⟩ | ⟨c', a', x', y', _, e, h1, h2, h3⟩ | ⟨d, b', x', y', _, h1, _⟩ | ⟨c', d, a', b', x', y', h1, _, e, _⟩
  · cases e
  · cases e; exact ⟨x', y', h1, h2, h3⟩
  · exact absurd hc (h1 c (by simp))
  · cases e; exact absurd hc h1
theorem PR.invB {d : Cp} {a b x y : List Cp} (h : PR a (d :: b) x y) (hd : d.k = 2) (ha : ∀ c ∈ a.head?, c.k ≠ 2) : ∃ x' y', x = pK d.s.size :: x' ∧ y = d :: y' ∧ PR a b x' y' := by
  rcases h.inv with ⟨_, e, _⟩ | ⟨c', a', x', y', h1, e, _⟩ | ⟨d', b', x', y', _, _, e, h1, h2, h3⟩ | ⟨c', d', a', b', x', y', _, h1, _, e, _⟩
  · cases e
  · subst e; exact absurd h1 (ha c' (by simp))
  · cases e; exact ⟨x', y', h1, h2, h3⟩
  · cases e; exact absurd hd h1
theorem PR.invJ {c d : Cp} {a b x y : List Cp} (h : PR (c :: a) (d :: b) x y) (hc : c.k ≠ 2) (hd : d.k ≠ 2) :
    ∃ x' y', x = ledS (min c.sz d.sz) c d ++ x' ∧ y = ledS (min c.sz d.sz) d c ++ y' ∧ PR (restL (min c.sz d.sz) c a) (restL (min c.sz d.sz) d b) x' y' := by
  rcases h.inv with ⟨e, _⟩ | ⟨c', a', x', y', h1, e, _⟩ | ⟨d', b', x', y', h1, _, e, _⟩ | ⟨c', d', a', b', x', y', _, _, e1, e2, h1, h2, h3⟩
  · cases e
  · cases e; exact absurd h1 hc
  · cases e; exact absurd h1 hd
  · cases e1; cases e2; exact ⟨x', y', h1, h2, h3⟩

theorem ok_kx {c : Cp} (h : c.Ok) (hk : c.k ≠ 2) : ∃ n : Nat, 1 ≤ n ∧ (c = pK n ∨ c = pX n) := by
  rcases ok_cases h with ⟨n, hn, rfl⟩ | ⟨s, hs, rfl⟩ | ⟨n, hn, rfl⟩
  · exact ⟨n, hn, .inl rfl⟩
  · exact absurd rfl hk
  · exact ⟨n, hn, .inr rfl⟩
theorem over_sz {c : Cp} (h : c.Ok) (hk : c.k ≠ 2) : c.over = (c.sz : Int) := by
  obtain ⟨n, hn, rfl | rfl⟩ := ok_kx h hk
  · rw [over_K, sz_K]
  · rw [over_X, sz_X]
/-- What is left behind n bytes of a part that is no Put. -/
theorem rest_kx {c : Cp} (hc : c.Ok) (hk : c.k ≠ 2) {a : List Cp} (ha : Good a) (n : Nat) (h1 : 1 ≤ n) (h2 : n ≤ c.sz) :
    Good (restL n c a) ∧ inS (c :: a) = (n : Int) + inS (restL n c a) ∧ psz (restL n c a) = psz (c :: a) ∧ csz (c :: a) = (if c.k = 3 then (n : Int) else 0) + csz (restL n c a) := by
  obtain ⟨hg, _, hi, _, _⟩ := rest_all hc ha n h1 h2
  obtain ⟨m, hm, rfl | rfl⟩ := ok_kx hc hk
  · rw [fr_K, over_K] at hi
    rw [sz_K] at h2
    refine ⟨hg, hi, ?_, ?_⟩
    · unfold restL; split
      · rw [psz_K]
      · rw [rs_K n m h2, psz_K, psz_K]
    · rw [if_neg (by simp [pK]), csz_K]
      unfold restL; split
      · omega
      · rw [rs_K n m h2, csz_K]; omega
  · rw [fr_X, over_X] at hi
    rw [sz_X] at h2
    refine ⟨hg, hi, ?_, ?_⟩
    · unfold restL; split
      · rw [psz_X]
      · rw [rs_X n m h2, psz_X, psz_X]
    · rw [if_pos (show (pX (m : Int)).k = 3 from rfl), csz_X]
      unfold restL; split
      · rename_i e; rw [sz_X] at e; omega
      · rw [rs_X n m h2, csz_X]; omega

theorem pr_ex : ∀ (n : Nat) (a b : List Cp), a.length + b.length ≤ n → Good a → Good b → inS a = inS b → ∃ x y, PR a b x y := by
  intro n
  induction n with
  | zero =>
    intro a b hn _ _ _
    have h1 : a = [] := List.eq_nil_of_length_eq_zero (by omega)
    have h2 : b = [] := List.eq_nil_of_length_eq_zero (by omega)
    subst h1 h2
    exact ⟨[], [], pr_steps.nil⟩
  | succ n ih =>
    intro a b hn ha hb hi
    by_cases h1 : ∃ c a', a = c :: a' ∧ c.k = 2
    · obtain ⟨c, a', rfl, hc⟩ := h1
      have ho : c.over = 0 := by rw [Cp.over, if_neg (by omega)]
      rw [in_cons, ho, Int.zero_add] at hi
      obtain ⟨x, y, h⟩ := ih a' b (by simp at hn ⊢; omega) ha.tl hb hi
      exact ⟨_, _, pr_steps.pa c a' b x y hc h⟩
    have ha2 : ∀ c ∈ a.head?, c.k ≠ 2 := fun c hc hk => h1 (by
      cases a with
      | nil => simp at hc
      | cons c' a' => simp at hc; subst hc; exact ⟨_, _, rfl, hk⟩)
    by_cases h2 : ∃ d b', b = d :: b' ∧ d.k = 2
    · obtain ⟨d, b', rfl, hd⟩ := h2
      have ho : d.over = 0 := by rw [Cp.over, if_neg (by omega)]
      rw [in_cons, ho, Int.zero_add] at hi
      obtain ⟨x, y, h⟩ := ih a b' (by simp at hn ⊢; omega) ha hb.tl hi
      exact ⟨_, _, pr_steps.pb d a b' x y hd ha2 h⟩
    cases a with
    | nil =>
      cases b with
      | nil => exact ⟨[], [], pr_steps.nil⟩
      | cons d b =>
        exfalso
        have hd : d.k ≠ 2 := fun hk => h2 ⟨_, _, rfl, hk⟩
        have := over_sz hb.hd hd
        have := hb.hd.szp
        have := hb.tl.inS_nn
        rw [in_cons, inS] at hi
        omega
    | cons c a =>
      have hc : c.k ≠ 2 := fun hk => h1 ⟨_, _, rfl, hk⟩
      cases b with
      | nil =>
        exfalso
        have := over_sz ha.hd hc
        have := ha.hd.szp
        have := ha.tl.inS_nn
        rw [in_cons, inS] at hi
        omega
      | cons d b =>
        have hd : d.k ≠ 2 := fun hk => h2 ⟨_, _, rfl, hk⟩
        have z1 := ha.hd.szp
        have z2 := hb.hd.szp
        have hlt := restL_two c d a b
        obtain ⟨ra, ri, _⟩ := rest_kx ha.hd hc ha.tl (min c.sz d.sz) (by omega) (by omega)
        obtain ⟨rb, rj, _⟩ := rest_kx hb.hd hd hb.tl (min c.sz d.sz) (by omega) (by omega)
        obtain ⟨x, y, h⟩ := ih _ _ (by simp at hn; omega) ra rb (by omega)
        exact ⟨_, _, pr_steps.pj c d a b x y hc hd h⟩

/-- What is known of two operations, led over one another. -/
structure PA (a b x y : List Cp) : Prop where
  gx : Good x
  gy : Good y
  ix : inS x = outS b
  iy : inS y = outS a
  oo : outS x = outS y
  px : psz x = psz a
  py : psz y = psz b
  lx : x.length ≤ a.length + b.length
  ly : y.length ≤ a.length + b.length
  meets : ∀ (α : Type) (f : UInt8 → α) (d : List α), inS a = d.length → act f (act f d a) y = act f (act f d b) x
theorem led_len (n : Nat) (c d : Cp) : (ledS n c d).length ≤ 1 := by unfold ledS; split <;> simp
theorem rest_len (n : Nat) (c : Cp) (a : List Cp) : (restL n c a).length = if c.sz = n then a.length else a.length + 1 := by
  unfold restL; split <;> simp
theorem take_act {α : Type} {n : Nat} {d : List α} (h : n ≤ d.length) (e : List α) : (d.take n ++ e).take n = d.take n ∧ (d.take n ++ e).drop n = e := by
  have hl : (d.take n).length = n := by rw [List.length_take]; omega
  exact ⟨List.take_left' hl, List.drop_left' hl⟩

theorem pr_pa {a b x y : List Cp} (h : PR a b x y) : Good a → Good b → inS a = inS b → PA a b x y := by
  refine h (fun a b x y => Good a → Good b → inS a = inS b → PA a b x y) ⟨?_, ?_, ?_, ?_⟩
  · intro ha hb _
    exact ⟨ha, hb, rfl, rfl, rfl, rfl, rfl, Nat.le_refl _, Nat.le_refl _, fun _ _ _ _ => rfl⟩
  · intro c a b x y hc ih ha hb hi
    rcases ok_cases ha.hd with ⟨m, hm, rfl⟩ | ⟨s, hs, rfl⟩ | ⟨m, hm, rfl⟩
    · simp [pK] at hc
    · rw [in_cons, over_P, Int.zero_add] at hi
      have I := ih ha.tl hb hi
      have e : (pP s).s = s := rfl
      rw [e]
      refine ⟨good_mk (okP hs) I.gx, good_mk (okK (by omega)) I.gy, by rw [in_cons, over_P, I.ix]; omega, by rw [in_cons, over_K, out_cons, outl_P, I.iy], by rw [out_cons, outl_P, out_cons, outl_K, I.oo], by rw [psz_P, psz_P, I.px], by rw [psz_K, I.py], by have := I.lx; simp; omega, by have := I.ly; simp; omega, fun α f d hd => ?_⟩
      rw [in_cons, over_P, Int.zero_add] at hd
      have hl : (s.data.toList.map f).length = s.size := by simp
      rw [ac_P, ac_K, ac_P, List.take_left' hl, List.drop_left' hl, I.meets α f d hd]
    · simp [pX] at hc
  · intro d a b x y hd hn ih ha hb hi
    rcases ok_cases hb.hd with ⟨m, hm, rfl⟩ | ⟨s, hs, rfl⟩ | ⟨m, hm, rfl⟩
    · simp [pK] at hd
    · rw [in_cons, over_P, Int.zero_add] at hi
      have I := ih ha hb.tl hi
      have e : (pP s).s = s := rfl
      rw [e]
      refine ⟨good_mk (okK (by omega)) I.gx, good_mk (okP hs) I.gy, by rw [in_cons, over_K, out_cons, outl_P, I.ix], by rw [in_cons, over_P, I.iy]; omega, by rw [out_cons, outl_K, out_cons, outl_P, I.oo], by rw [psz_K, I.px], by rw [psz_P, psz_P, I.py], by have := I.lx; simp; omega, by have := I.ly; simp; omega, fun α f d hd => ?_⟩
      have hl : (s.data.toList.map f).length = s.size := by simp
      rw [ac_P, ac_P, ac_K, List.take_left' hl, List.drop_left' hl, I.meets α f d hd]
    · simp [pX] at hd
  · intro c d a b x y hc hd ih ha hb hi
    have z1 := ha.hd.szp
    have z2 := hb.hd.szp
    have hlt := restL_two c d a b
    obtain ⟨n, hn⟩ : ∃ n, min c.sz d.sz = n := ⟨_, rfl⟩
    rw [hn] at ih hlt ⊢
    obtain ⟨ra, ri, rp, _⟩ := rest_kx ha.hd hc ha.tl n (by omega) (by omega)
    obtain ⟨rb, rj, rq, _⟩ := rest_kx hb.hd hd hb.tl n (by omega) (by omega)
    obtain ⟨_, _, _, oa, aa⟩ := rest_all ha.hd ha.tl n (by omega) (by omega)
    obtain ⟨_, _, _, ob, ab⟩ := rest_all hb.hd hb.tl n (by omega) (by omega)
    have I := ih ra rb (by omega)
    have n1 := ra.inS_nn
    have lx := I.lx
    have ly := I.ly
    obtain ⟨i, hi1, rfl | rfl⟩ := ok_kx ha.hd hc <;> obtain ⟨j, hj1, rfl | rfl⟩ := ok_kx hb.hd hd
    · have e1 : ledS n (pK i) (pK j) = [pK n] := rfl
      have e2 : ledS n (pK j) (pK i) = [pK n] := rfl
      simp only [e1, e2, List.cons_append, List.nil_append]
      rw [fr_K, outl_K] at oa ob
      refine ⟨good_mk (okK (by omega)) I.gx, good_mk (okK (by omega)) I.gy, by rw [in_cons, over_K, I.ix, ob], by rw [in_cons, over_K, I.iy, oa], by rw [out_cons, out_cons, outl_K, I.oo], by rw [psz_K, I.px, rp], by rw [psz_K, I.py, rq], by simp; omega, by simp; omega, fun α f d hd => ?_⟩
      rw [ri] at hd
      have hl : (d.drop n).length = d.length - n := List.length_drop
      obtain ⟨t1, t2⟩ := take_act (n := n) (d := d) (by omega) (act f (d.drop n) (restL n (pK i) a))
      obtain ⟨t3, t4⟩ := take_act (n := n) (d := d) (by omega) (act f (d.drop n) (restL n (pK j) b))
      rw [aa, ab, fr_K, fr_K, ac_K, ac_K, ac_K, ac_K, t1, t2, t3, t4, I.meets α f _ (by omega)]
    · have e1 : ledS n (pK i) (pX j) = [] := rfl
      have e2 : ledS n (pX j) (pK i) = [pX n] := rfl
      simp only [e1, e2, List.cons_append, List.nil_append]
      rw [fr_K, outl_K] at oa
      rw [fr_X, outl_X] at ob
      refine ⟨I.gx, good_mk (okX (by omega)) I.gy, by rw [I.ix, ob]; omega, by rw [in_cons, over_X, I.iy, oa], by rw [out_cons, outl_X, I.oo]; omega, by rw [I.px, rp], by rw [psz_X, I.py, rq], by simp; omega, by simp; omega, fun α f d hd => ?_⟩
      rw [ri] at hd
      have hl : (d.drop n).length = d.length - n := List.length_drop
      obtain ⟨t1, t2⟩ := take_act (n := n) (d := d) (by omega) (act f (d.drop n) (restL n (pK i) a))
      rw [aa, ab, fr_K, fr_X, ac_K, ac_X, ac_X, t2, I.meets α f _ (by omega)]
    · have e1 : ledS n (pX i) (pK j) = [pX n] := rfl
      have e2 : ledS n (pK j) (pX i) = [] := rfl
      simp only [e1, e2, List.cons_append, List.nil_append]
      rw [fr_X, outl_X] at oa
      rw [fr_K, outl_K] at ob
      refine ⟨good_mk (okX (by omega)) I.gx, I.gy, by rw [in_cons, over_X, I.ix, ob], by rw [I.iy, oa]; omega, by rw [out_cons, outl_X, I.oo]; omega, by rw [psz_X, I.px, rp], by rw [I.py, rq], by simp; omega, by simp; omega, fun α f d hd => ?_⟩
      rw [ri] at hd
      have hl : (d.drop n).length = d.length - n := List.length_drop
      obtain ⟨t1, t2⟩ := take_act (n := n) (d := d) (by omega) (act f (d.drop n) (restL n (pK j) b))
      rw [aa, ab, fr_X, fr_K, ac_X, ac_K, ac_X, t2, I.meets α f _ (by omega)]
    · have e1 : ledS n (pX i) (pX j) = [] := rfl
      have e2 : ledS n (pX j) (pX i) = [] := rfl
      simp only [e1, e2, List.cons_append, List.nil_append]
      rw [fr_X, outl_X] at oa ob
      refine ⟨I.gx, I.gy, by rw [I.ix, ob]; omega, by rw [I.iy, oa]; omega, I.oo, by rw [I.px, rp], by rw [I.py, rq], by simp; omega, by simp; omega, fun α f d hd => ?_⟩
      rw [ri] at hd
      have hl : (d.drop n).length = d.length - n := List.length_drop
      rw [aa, ab, fr_X, fr_X, ac_X, ac_X, I.meets α f _ (by omega)]
theorem PA.outs {a b x y : List Cp} (h : PA a b x y) (hb : Good b) : outS x ≤ outS a + outS b := by
  have h1 := sizes h.gy
  have h2 := psz_le hb
  have h3 := h.iy
  have h4 := h.py
  have h5 := h.oo
  omega
end Go.Proofs.Ytlgdllbhddnokab

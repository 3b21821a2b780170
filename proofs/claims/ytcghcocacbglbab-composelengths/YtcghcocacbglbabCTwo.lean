/- The contract of compose.Two. -/
import Derived.Test.YtcghcocacbglbabCTwoS
import Derived.Test.YtcghcocacbglbabJump2
import Derived.Test.YtcghcocacbglbabNormal
namespace Go.Proofs.Ytcghcocacbglbab
open Go.RowKit
set_option linter.unusedSimpArgs false
set_option linter.unusedVariables false

/-- Another block was written to. -/
theorem HasK.kept {K : Nat} {w w' : World} {e : TypeId} {Bd : Nat} {v : Value} {n : Nat} {xs : List Value} (h : HasK K w e Bd v n xs) (hk : ∀ k, Bd ≤ k → w'.heap[k]? = w.heap[k]?) : HasK K w' e Bd v n xs := by
  rcases h with h | ⟨g, cap, cur, rfl, h1, h2, h3, h4, h5, h6⟩
  · exact .inl h
  · exact .inr ⟨g, cap, cur, rfl, h1, h2, h3, by rw [hk g h1]; exact h4, h5, h6⟩
/-- A box of a part is written to. -/
def boxed (w : World) (g : Nat) (e : Cp) : World := (((w.setCell ⟨g, 0, none⟩ (.int .i64 e.k)).setCell ⟨g, 1, none⟩ (.int .i64 e.n)).setCell ⟨g, 2, none⟩ (.string e.s)).drew
theorem boxed_blk {w : World} {t : TypeId} {g : Nat} {c : Cp} (h : Blk w t g c.vals) (e : Cp) : Blk (boxed w g e) t g e.vals := by
  have := ((h.setCell 0 (.int .i64 e.k)).setCell 1 (.int .i64 e.n)).setCell 2 (.string e.s)
  exact this.kept rfl
theorem boxed_other (w : World) (g : Nat) (e : Cp) (k : Nat) (h : k ≠ g) : (boxed w g e).heap[k]? = w.heap[k]? := by
  show (((w.setCell ⟨g, 0, none⟩ (.int .i64 e.k)).setCell ⟨g, 1, none⟩ (.int .i64 e.n)).setCell ⟨g, 2, none⟩ (.string e.s)).heap[k]? = w.heap[k]?
  rw [Below.heap_setCell _ _ _ _ h, Below.heap_setCell _ _ _ _ h, Below.heap_setCell _ _ _ _ h]
theorem boxed_below {B : Nat} {a w : World} (h : Below B a w) {g : Nat} (hg : B ≤ g) (e : Cp) : Below B a (boxed w g e) := (((h.setCell (p := ⟨g, 0, none⟩) hg _).setCell (p := ⟨g, 1, none⟩) hg _).setCell (p := ⟨g, 2, none⟩) hg _).drew

/-- What lies in memory at the labels: the boxes of p and q at g and g + 1, out behind them. -/
structure MW (w wr : World) (g : Nat) (va vb vo : Value) (c d : Cp) (a' b' l : List Cp) : Prop where
  below : Below w.heap.size w wr
  ra : RC w va a'
  rb : RC w vb b'
  bc : Blk wr 32 g c.vals
  bd : Blk wr 32 (g + 1) d.vals
  out : HasC wr (g + 2) vo l
  lo : w.heap.size ≤ g

section
variable {w wr w' : World} {g : Nat} {va vb vo : Value} {c d : Cp} {a' b' l : List Cp}
theorem MW.putA (h : MW w wr g va vb vo c d a' b' l) {va' : Value} {al : List Cp} (e : Cp) (hr : RC w va' al) : MW w (boxed wr g e) g va' vb vo e d al b' l :=
  ⟨boxed_below h.below h.lo e, hr, h.rb, boxed_blk h.bc e, h.bd.kept (boxed_other _ _ _ _ (by omega)), HasK.kept h.out (fun k hk => boxed_other _ _ _ _ (by omega)), h.lo⟩
theorem MW.putB (h : MW w wr g va vb vo c d a' b' l) {vb' : Value} {bl : List Cp} (e : Cp) (hr : RC w vb' bl) : MW w (boxed wr (g + 1) e) g va vb' vo c e a' bl l :=
  ⟨boxed_below h.below (by have := h.lo; omega) e, h.ra, hr, h.bc.kept (boxed_other _ _ _ _ (by omega)), boxed_blk h.bd e, HasK.kept h.out (fun k hk => boxed_other _ _ _ _ (by omega)), h.lo⟩
theorem MW.hi (h : MW w wr g va vb vo c d a' b' l) : g + 2 ≤ wr.heap.size := h.bd.lt
theorem MW.later (h : MW w wr g va vb vo c d a' b' l) (hb : Below wr.heap.size wr w') : MW w w' g va vb vo c d a' b' l :=
  ⟨below_seq h.below hb, h.ra, h.rb, h.bc.later hb, h.bd.later hb, h.out.later hb, h.lo⟩
theorem MW.app (h : MW w wr g va vb vo c d a' b' l) {vo' : Value} {l' : List Cp} (hb : Below (g + 2) wr w') (ho : HasC w' (g + 2) vo' l') : MW w w' g va vb vo' c d a' b' l' :=
  ⟨h.below.trans (hb.mono (by have := h.lo; omega)), h.ra, h.rb, h.bc.kept (hb.block g (by omega)), h.bd.kept (hb.block (g + 1) (by omega)), ho, h.lo⟩
end
/-- What holds at the labels. -/
structure TW (w wr : World) (g : Nat) (a b : List Cp) (va vb vo : Value) (c d : Cp) (p n q m : Nat) (a' b' l : List Cp) : Prop where
  tp : TP a b c d p n q m a' b' l
  mw : MW w wr g va vb vo c d a' b' l
  io : inS b = outS a

theorem ite01 (x : Nat) : (if x = 0 then 0 else 1 : Nat) ≤ 1 := by split <;> omega
theorem jl_len (c d : Cp) (p n : Nat) : (jl c d p n).length ≤ 1 := by unfold jl; split <;> (try split) <;> simp

def lenOf : Value → Nat
  | .slice _ n _ => n
  | _ => 0
def muT (a' : Act) : Nat := 2 * lenOf (a'.tmps.getD 0 undef) + 2 * lenOf (a'.tmps.getD 1 undef) + (if stN (a'.tmps.getD 9 undef) = 0 then 0 else 1) + (if stN (a'.tmps.getD 10 undef) = 0 then 0 else 1)
def muL (n m x y : Nat) : Nat := 2 * x + 2 * y + (if n = 0 then 0 else 1) + (if m = 0 then 0 else 1)

set_option maxRecDepth 100000 in
set_option maxHeartbeats 4000000 in
theorem Two_any (va vb : Value) (a b : List Cp) (w : World) (ha : RC w va a) (hb : RC w vb b) (fa : Fit a) (fb : Fit b) (ga : Good a) (gb : Good b) (hi : inS a ≤ 1099511627776) (ho : outS b ≤ 1099511627776) (hl : a.length + b.length ≤ 1048576) :
    Calls Try.prog 9 #[va, vb] w fun e w' => (inS b ≠ outS a → e = .returned (.tuple #[.slice none 0 0, .int .i64 7])) ∧ (inS b = outS a → ∃ v', e = .returned (.tuple #[v', .int .i64 0]) ∧ HasC w' w.heap.size v' (twoS a b)) ∧ Below w.heap.size w w' := by
  obtain ⟨ao, ac, rfl⟩ := ha.form
  obtain ⟨bo, bc, rfl⟩ := hb.form
  have HA := hid ha
  have HB := hid hb
  have HFA := hid fa
  have HFB := hid fb
  have HGA := hid ga
  have HGB := hid gb
  have HI := hid hi
  have HO := hid ho
  clear ha hb fa fb ga gb hi ho
  go_enter Try.func9, Try.ntmps9
  go_wp2_with fail
  refine wp_scope_two 0 1 (by decide) (fun a' w' => ∃ g va vb vo c d p n q m al bl l, a' = ⟨#[va, vb, a'.tmps.getD 2 undef, a'.tmps.getD 3 undef, a'.tmps.getD 4 undef, a'.tmps.getD 5 undef, vo, .pointer (some ⟨g, 0, none⟩), .pointer (some ⟨g + 1, 0, none⟩), st p n, st q m, a'.tmps.getD 11 undef, a'.tmps.getD 12 undef, a'.tmps.getD 13 undef, a'.tmps.getD 14 undef, a'.tmps.getD 15 undef, a'.tmps.getD 16 undef, a'.tmps.getD 17 undef, a'.tmps.getD 18 undef, a'.tmps.getD 19 undef, a'.tmps.getD 20 undef, a'.tmps.getD 21 undef, a'.tmps.getD 22 undef, a'.tmps.getD 23 undef, a'.tmps.getD 24 undef, a'.tmps.getD 25 undef, a'.tmps.getD 26 undef, a'.tmps.getD 27 undef, a'.tmps.getD 28 undef, a'.tmps.getD 29 undef, a'.tmps.getD 30 undef, a'.tmps.getD 31 undef, a'.tmps.getD 32 undef, a'.tmps.getD 33 undef, a'.tmps.getD 34 undef, a'.tmps.getD 35 undef, a'.tmps.getD 36 undef, a'.tmps.getD 37 undef, a'.tmps.getD 38 undef, a'.tmps.getD 39 undef, a'.tmps.getD 40 undef, a'.tmps.getD 41 undef, a'.tmps.getD 42 undef, a'.tmps.getD 43 undef, a'.tmps.getD 44 undef, a'.tmps.getD 45 undef, a'.tmps.getD 46 undef, a'.tmps.getD 47 undef, a'.tmps.getD 48 undef, a'.tmps.getD 49 undef, a'.tmps.getD 50 undef, a'.tmps.getD 51 undef, a'.tmps.getD 52 undef, a'.tmps.getD 53 undef, a'.tmps.getD 54 undef, a'.tmps.getD 55 undef, a'.tmps.getD 56 undef, a'.tmps.getD 57 undef, a'.tmps.getD 58 undef, a'.tmps.getD 59 undef, a'.tmps.getD 60 undef, a'.tmps.getD 61 undef, a'.tmps.getD 62 undef, a'.tmps.getD 63 undef, a'.tmps.getD 64 undef, a'.tmps.getD 65 undef, a'.tmps.getD 66 undef, a'.tmps.getD 67 undef, a'.tmps.getD 68 undef, a'.tmps.getD 69 undef, a'.tmps.getD 70 undef, a'.tmps.getD 71 undef, a'.tmps.getD 72 undef, a'.tmps.getD 73 undef, a'.tmps.getD 74 undef, a'.tmps.getD 75 undef, a'.tmps.getD 76 undef, a'.tmps.getD 77 undef, a'.tmps.getD 78 undef, a'.tmps.getD 79 undef, a'.tmps.getD 80 undef, a'.tmps.getD 81 undef], []⟩ ∧ TW w w' g a b va vb vo c d p n q m al bl l) (fun a' w' => ∃ g va vb vo c d p n q m al bl l, a' = ⟨#[va, vb, a'.tmps.getD 2 undef, a'.tmps.getD 3 undef, a'.tmps.getD 4 undef, a'.tmps.getD 5 undef, vo, .pointer (some ⟨g, 0, none⟩), .pointer (some ⟨g + 1, 0, none⟩), st p n, st q m, a'.tmps.getD 11 undef, a'.tmps.getD 12 undef, a'.tmps.getD 13 undef, a'.tmps.getD 14 undef, a'.tmps.getD 15 undef, a'.tmps.getD 16 undef, a'.tmps.getD 17 undef, a'.tmps.getD 18 undef, a'.tmps.getD 19 undef, a'.tmps.getD 20 undef, a'.tmps.getD 21 undef, a'.tmps.getD 22 undef, a'.tmps.getD 23 undef, a'.tmps.getD 24 undef, a'.tmps.getD 25 undef, a'.tmps.getD 26 undef, a'.tmps.getD 27 undef, a'.tmps.getD 28 undef, a'.tmps.getD 29 undef, a'.tmps.getD 30 undef, a'.tmps.getD 31 undef, a'.tmps.getD 32 undef, a'.tmps.getD 33 undef, a'.tmps.getD 34 undef, a'.tmps.getD 35 undef, a'.tmps.getD 36 undef, a'.tmps.getD 37 undef, a'.tmps.getD 38 undef, a'.tmps.getD 39 undef, a'.tmps.getD 40 undef, a'.tmps.getD 41 undef, a'.tmps.getD 42 undef, a'.tmps.getD 43 undef, a'.tmps.getD 44 undef, a'.tmps.getD 45 undef, a'.tmps.getD 46 undef, a'.tmps.getD 47 undef, a'.tmps.getD 48 undef, a'.tmps.getD 49 undef, a'.tmps.getD 50 undef, a'.tmps.getD 51 undef, a'.tmps.getD 52 undef, a'.tmps.getD 53 undef, a'.tmps.getD 54 undef, a'.tmps.getD 55 undef, a'.tmps.getD 56 undef, a'.tmps.getD 57 undef, a'.tmps.getD 58 undef, a'.tmps.getD 59 undef, a'.tmps.getD 60 undef, a'.tmps.getD 61 undef, a'.tmps.getD 62 undef, a'.tmps.getD 63 undef, a'.tmps.getD 64 undef, a'.tmps.getD 65 undef, a'.tmps.getD 66 undef, a'.tmps.getD 67 undef, a'.tmps.getD 68 undef, a'.tmps.getD 69 undef, a'.tmps.getD 70 undef, a'.tmps.getD 71 undef, a'.tmps.getD 72 undef, a'.tmps.getD 73 undef, a'.tmps.getD 74 undef, a'.tmps.getD 75 undef, a'.tmps.getD 76 undef, a'.tmps.getD 77 undef, a'.tmps.getD 78 undef, a'.tmps.getD 79 undef, a'.tmps.getD 80 undef, a'.tmps.getD 81 undef], []⟩ ∧ TW w w' g a b va vb vo c d p n q m al bl l ∧ (n = 0 → al = []))
    (fun a' _ => muT a') rfl rfl ?passY ?passX ?first
  case first =>
    intro hy
    have HY := hid hy
    clear hy
    go_wp2_with fail
    refine (In_any _ b _ HB.out HFB.out).mono ?_
    rintro _ w1 ⟨rfl, hb1⟩
    have Hb1 := hid hb1
    clear hb1
    obtain ⟨n0, hn0⟩ : ∃ n0, inS b = n0 := ⟨_, rfl⟩
    rw [hn0]
    go_wp2_with fail
    refine (Out_any _ a _ (HA.out.later Hb1.out) HFA.out).mono ?_
    rintro _ w2 ⟨rfl, hb2⟩
    have Hb2 := hid (below_seq Hb1.out hb2)
    clear hb2
    obtain ⟨n1, hn1⟩ : ∃ n1, outS a = n1 := ⟨_, rfl⟩
    rw [hn1]
    by_cases h1 : n0 = n1
    case neg =>
      have hne : (n0 == n1) = false := by simpa using h1
      have HN := hid (show ¬ inS b = outS a by rw [hn0, hn1]; exact h1)
      clear h1 hn0 hn1
      go_wp2_with fail
      simp only [jumps]
      go_ret2
      exact ⟨fun _ => rfl, fun h => absurd h HN.out, Hb2.out⟩
    have HE := hid (show inS b = outS a by rw [hn0, hn1]; exact h1)
    subst h1
    clear hn0 hn1
    go_wp2_with fail
    rename_i hK
    refine wp_label (hK _ _ (HY.out _ _ ⟨w2.heap.size, _, _, _, ⟨0, 0, ⟨#[]⟩⟩, ⟨0, 0, ⟨#[]⟩⟩, 0, 0, 0, 0, a, b, [], rfl, ?_⟩))
    refine ⟨TP.start HGA.out HGB.out HFA.out HFB.out HE.out _ _ (by decide), ?_, HE.out⟩
    refine ⟨(Hb2.out.alloc Hb2.out.size _).alloc (by have := Hb2.out.size; simp; omega) _, HA.out, HB.out, (Blk.new w2 _ _).alloc _, ?_, HasC.nil _ _, Hb2.out.size⟩
    have := Blk.new (w2.alloc (.cells #[.int .i64 0, .int .i64 0, .string ⟨#[]⟩] 32)) 32 [.int .i64 0, .int .i64 0, .string ⟨#[]⟩]
    rwa [show (w2.alloc (.cells #[.int .i64 0, .int .i64 0, .string ⟨#[]⟩] 32)).heap.size = w2.heap.size + 1 by simp] at this
  case passX =>
    intro hY N a' w' hI hN
    have HY := hid hY
    clear hY
    obtain ⟨g, va, vb, vo, c, d, p, n, q, m, al, bl, l, ha, hT⟩ := hI
    obtain ⟨f, ha2⟩ : ∃ f : Nat → Value, a' = ⟨#[va, vb, f 2, f 3, f 4, f 5, vo, .pointer (some ⟨g, 0, none⟩), .pointer (some ⟨g + 1, 0, none⟩), st p n, st q m, f 11, f 12, f 13, f 14, f 15, f 16, f 17, f 18, f 19, f 20, f 21, f 22, f 23, f 24, f 25, f 26, f 27, f 28, f 29, f 30, f 31, f 32, f 33, f 34, f 35, f 36, f 37, f 38, f 39, f 40, f 41, f 42, f 43, f 44, f 45, f 46, f 47, f 48, f 49, f 50, f 51, f 52, f 53, f 54, f 55, f 56, f 57, f 58, f 59, f 60, f 61, f 62, f 63, f 64, f 65, f 66, f 67, f 68, f 69, f 70, f 71, f 72, f 73, f 74, f 75, f 76, f 77, f 78, f 79, f 80, f 81], []⟩ := ⟨fun j => a'.tmps.getD j undef, ha⟩
    clear ha
    subst ha2
    have hbp := hT.tp.bp
    have hbq := hT.tp.bq
    obtain ⟨aa, ca, rfl⟩ := hT.mw.ra.form
    obtain ⟨ab, cb, rfl⟩ := hT.mw.rb.form
    obtain ⟨oo, oc, rfl⟩ := hT.mw.out.form
    have hN2 : muL n m al.length bl.length ≤ N := by
      simp only [muT, lenOf, Array.getD_eq_getD_getElem?, List.getElem?_toArray, List.getElem?_cons_zero, List.getElem?_cons_succ, Option.getD_some, stN_st _ _ (show n < 2 ^ 53 by omega), stN_st _ _ (show m < 2 ^ 53 by omega)] at hN
      exact hN
    have HT := hid hT
    clear hT hN
    go_wp2_with fail
    refine (empty_any p n (by omega) _).mono ?_
    rintro _ w2 ⟨rfl, rfl⟩
    by_cases h0 : n = 0
    case neg =>
      have HZ := hid h0
      rw [decide_eq_false h0]
      clear h0
      go_wp2_with fail
      rename_i hK
      refine wp_label (hK _ _ (HY.out N _ _ ⟨g, _, _, _, c, d, p, n, q, m, al, bl, l, rfl, HT.out, fun h => absurd h HZ.out⟩ ?_))
      simp only [muT, lenOf, Array.getD_eq_getD_getElem?, List.getElem?_toArray, List.getElem?_cons_zero, List.getElem?_cons_succ, Option.getD_some, stN_st _ _ (show n < 2 ^ 53 by omega), stN_st _ _ (show m < 2 ^ 53 by omega)]
      exact hN2
    subst h0
    rw [decide_eq_true rfl]
    cases al with
    | nil =>
      go_wp2_with fail
      rename_i hK
      refine wp_label (hK _ _ (HY.out N _ _ ⟨g, _, _, _, c, d, p, 0, q, m, [], bl, l, rfl, HT.out, fun _ => rfl⟩ ?_))
      simp only [muT, lenOf, Array.getD_eq_getD_getElem?, List.getElem?_toArray, List.getElem?_cons_zero, List.getElem?_cons_succ, Option.getD_some, stN_st _ _ (show 0 < 2 ^ 53 by omega), stN_st _ _ (show m < 2 ^ 53 by omega)]
      exact hN2
    | cons e al =>
      have hra := HT.out.mw.ra
      simp only [List.length_cons] at hra hN2 ⊢
      obtain ⟨p2, q2, hsl, hrt⟩ := tail_c hra
      obtain ⟨ga, oa, ca', e', hcap, hr, hga⟩ := hra.place (by simp)
      injection e' with e1 e2 e3
      subst e1 e3
      obtain ⟨c0, c1, c2⟩ := RC.cells hr (j := 0) (c := e) rfl
      rw [Nat.zero_mul, Nat.add_zero] at c0 c1 c2
      replace c0 := cell_later HT.out.mw.below c0
      replace c1 := cell_later HT.out.mw.below c1
      replace c2 := cell_later HT.out.mw.below c2
      have z0 : w2.cell? ⟨g, 0, none⟩ = some (.int .i64 c.k) := HT.out.mw.bc.cell rfl
      have z1 : w2.cell? ⟨g, 1, none⟩ = some (.int .i64 c.n) := HT.out.mw.bc.cell rfl
      have z2 : w2.cell? ⟨g, 2, none⟩ = some (.string c.s) := HT.out.mw.bc.cell rfl
      have y0 := HT.out.mw.bc.frozen 0
      have y1 := HT.out.mw.bc.frozen 1
      have y2 := HT.out.mw.bc.frozen 2
      have HRT := hid hrt
      have hlen1 : ((al.length + 1 : Nat) : Int) = (al.length : Int) + 1 := by omega
      have hlen2 : (0 : Int) < (al.length : Int) + 1 := by omega
      clear hr hra hrt e2 hcap
      go_wp2_with fail
      go_region
      obtain ⟨w3, hw3⟩ : ∃ w3, boxed w2 (g) e = w3 := ⟨_, rfl⟩
      have hw4 := hw3
      unfold boxed at hw4
      rw [hw4]
      have HM3 := hid (show MW w w3 g _ _ _ _ _ _ _ _ by rw [← hw3]; exact HT.out.mw.putA e HRT.out)
      clear hw3 hw4 c0 c1 c2 z0 z1 z2 y0 y1 y2 hsl hlen1 hlen2
      have z0 : w3.cell? ⟨g, 0, none⟩ = some (.int .i64 e.k) := HM3.out.bc.cell rfl
      have z1 : w3.cell? ⟨g, 1, none⟩ = some (.int .i64 e.n) := HM3.out.bc.cell rfl
      have z2 : w3.cell? ⟨g, 2, none⟩ = some (.string e.s) := HM3.out.bc.cell rfl
      have hok : e.Ok := HT.out.tp.ga.hd
      have hsz : e.sz ≤ 1099511627776 := HT.out.tp.fa.szle hok
      go_wp2_with fail
      refine (made_any e hok _).mono ?_
      rintro _ w4 ⟨rfl, hb4⟩
      have HM4 := hid (HM3.out.later hb4)
      replace z0 := cell_later hb4 z0
      replace z1 := cell_later hb4 z1
      replace z2 := cell_later hb4 z2
      clear hb4 HM3
      by_cases hk : e.k = 3
      · rw [if_pos hk]
        have HTP := hid (HT.out.tp.aCut hk)
        clear hk
        go_wp2_with fail
        refine (whole_any 0 _).mono ?_
        rintro _ w5 ⟨rfl, rfl⟩
        go_wp2_with fail
        refine (empty_any 0 0 (by omega) _).mono ?_
        rintro _ w5 ⟨rfl, rfl⟩
        rw [decide_eq_true rfl]
        have hlt := HT.out.tp.len
        go_wp2_with (at_builtin; go_must (refine wpList_append_c rfl _ _ rfl (g + 2) _ l rfl (HM4.out.out.later ((Below.refl _ _).alloc (Nat.le_refl _) _)) ?hs _ [e] rfl (one_new w5 e (g + 2) HM4.out.hi).reads ?hb ?_))
        case hs => have := HM4.out.hi; simp; omega
        case hb => simp; omega
        intro v7 w7 hH7 hb7
        have HM7 := hid ((HM4.out.later ((Below.refl _ _).alloc (Nat.le_refl _) _)).app hb7 hH7)
        clear hH7 hb7
        go_wp2_with fail
        go_step3
        refine ⟨Or.inl ⟨rfl, g, _, _, _, e, d, 0, 0, q, m, al, bl, _, rfl, ⟨HTP.out, HM7.out, HT.out.io⟩⟩, ?_⟩
        simp only [muT, lenOf, Array.getD_eq_getD_getElem?, List.getElem?_toArray, List.getElem?_cons_zero, List.getElem?_cons_succ, Option.getD_some, stN_st _ _ (show 0 < 2 ^ 53 by omega), stN_st _ _ (show m < 2 ^ 53 by omega)]
        simp only [muL] at hN2
        omega
      · rw [if_neg hk]
        have HTP := hid (HT.out.tp.aTake hk)
        clear hk
        go_wp2_with fail
        refine (whole_any e.sz _).mono ?_
        rintro _ w5 ⟨rfl, rfl⟩
        go_wp2_with fail
        refine (empty_any 0 e.sz (by omega) _).mono ?_
        rintro _ w5 ⟨rfl, rfl⟩
        rw [decide_eq_false (by have := hok.szp; omega)]
        go_wp2_with fail
        go_step3
        refine ⟨Or.inl ⟨rfl, g, _, _, _, e, d, 0, e.sz, q, m, al, bl, _, rfl, ⟨HTP.out, HM4.out, HT.out.io⟩⟩, ?_⟩
        simp only [muT, lenOf, Array.getD_eq_getD_getElem?, List.getElem?_toArray, List.getElem?_cons_zero, List.getElem?_cons_succ, Option.getD_some, stN_st _ _ (show e.sz < 2 ^ 53 by omega), stN_st _ _ (show m < 2 ^ 53 by omega)]
        have h1 := ite01 e.sz
        simp only [muL, if_pos (show (0 : Nat) = 0 from rfl)] at hN2
        omega
  case passY =>
    intro N a' w' hI hN
    obtain ⟨g, va, vb, vo, c, d, p, n, q, m, al, bl, l, ha, hT, hz⟩ := hI
    obtain ⟨f, ha2⟩ : ∃ f : Nat → Value, a' = ⟨#[va, vb, f 2, f 3, f 4, f 5, vo, .pointer (some ⟨g, 0, none⟩), .pointer (some ⟨g + 1, 0, none⟩), st p n, st q m, f 11, f 12, f 13, f 14, f 15, f 16, f 17, f 18, f 19, f 20, f 21, f 22, f 23, f 24, f 25, f 26, f 27, f 28, f 29, f 30, f 31, f 32, f 33, f 34, f 35, f 36, f 37, f 38, f 39, f 40, f 41, f 42, f 43, f 44, f 45, f 46, f 47, f 48, f 49, f 50, f 51, f 52, f 53, f 54, f 55, f 56, f 57, f 58, f 59, f 60, f 61, f 62, f 63, f 64, f 65, f 66, f 67, f 68, f 69, f 70, f 71, f 72, f 73, f 74, f 75, f 76, f 77, f 78, f 79, f 80, f 81], []⟩ := ⟨fun j => a'.tmps.getD j undef, ha⟩
    clear ha
    subst ha2
    have hbp := hT.tp.bp
    have hbq := hT.tp.bq
    obtain ⟨aa, ca, rfl⟩ := hT.mw.ra.form
    obtain ⟨ab, cb, rfl⟩ := hT.mw.rb.form
    obtain ⟨oo, oc, rfl⟩ := hT.mw.out.form
    have hN2 : muL n m al.length bl.length ≤ N := by
      simp only [muT, lenOf, Array.getD_eq_getD_getElem?, List.getElem?_toArray, List.getElem?_cons_zero, List.getElem?_cons_succ, Option.getD_some, stN_st _ _ (show n < 2 ^ 53 by omega), stN_st _ _ (show m < 2 ^ 53 by omega)] at hN
      exact hN
    have HT := hid hT
    have HZ := hid hz
    clear hT hN hz
    go_wp2_with fail
    refine (empty_any q m (by omega) _).mono ?_
    rintro _ w2 ⟨rfl, rfl⟩
    by_cases h0 : m = 0
    case neg =>
      rw [decide_eq_false h0]
      have hn0 : n ≠ 0 := by
        rcases HT.out.tp.over HZ.out (fun h => absurd h h0) with ⟨_, h, _⟩ | ⟨h, _⟩
        · exact absurd h h0
        · exact h
      have hkc := HT.out.tp.hc hn0
      have hkd := HT.out.tp.hd h0
      have hks := HT.out.tp.hs hn0
      have hbs := HT.out.tp.bs
      have HTP := hid (HT.out.tp.both hn0 h0)
      obtain ⟨k, hk⟩ : ∃ k, min n m = k := ⟨_, rfl⟩
      have hk1 : k ≤ n ∧ k ≤ m ∧ (k = n ∨ k = m) := by omega
      rw [hk] at HTP
      have z0 : w2.cell? ⟨g, 0, none⟩ = some (.int .i64 c.k) := HT.out.mw.bc.cell rfl
      have z1 : w2.cell? ⟨g, 1, none⟩ = some (.int .i64 c.n) := HT.out.mw.bc.cell rfl
      have z2 : w2.cell? ⟨g, 2, none⟩ = some (.string c.s) := HT.out.mw.bc.cell rfl
      have x0 : w2.cell? ⟨g + 1, 0, none⟩ = some (.int .i64 d.k) := HT.out.mw.bd.cell rfl
      have x1 : w2.cell? ⟨g + 1, 1, none⟩ = some (.int .i64 d.n) := HT.out.mw.bd.cell rfl
      have x2 : w2.cell? ⟨g + 1, 2, none⟩ = some (.string d.s) := HT.out.mw.bd.cell rfl
      go_wp2_with fail
      refine (empty_any p n (by omega) _).mono ?_
      rintro _ w3 ⟨rfl, rfl⟩
      rw [decide_eq_false hn0]
      go_wp2_with fail
      refine (empty_any q m (by omega) _).mono ?_
      rintro _ w3 ⟨rfl, rfl⟩
      rw [decide_eq_false h0]
      go_wp2_with fail
      refine (first_any p n q m (by omega) (by omega) _).mono ?_
      rintro _ w3 ⟨rfl, rfl⟩
      rw [hk]
      go_wp2_with fail
      refine (joined_any c d p k hkc hkd (fun h => by have := hks h; omega) (by omega) (by omega) _).mono ?_
      rintro _ w4 ⟨v4, rfl, hH4, hb4⟩
      have hjl := jl_len c d p k
      have hlt := HT.out.tp.len
      obtain ⟨a4, c4, rfl⟩ := hH4.form
      have HH4 := hid hH4
      have HM4 := hid (HT.out.mw.later hb4)
      clear hH4 hb4 z0 z1 z2 x0 x1 x2
      go_wp2_with (at_builtin; go_must (refine wpList_append_c rfl _ _ rfl (g + 2) _ l rfl HM4.out.out HM4.out.hi _ (jl c d p k) rfl HH4.out.reads ?hb ?_))
      case hb => omega
      intro v7 w7 hH7 hb7
      have HM7 := hid (HM4.out.app hb7 hH7)
      clear hH7 hb7
      go_wp2_with fail
      refine (behind_any p n p k (by omega) (by omega) _).mono ?_
      rintro _ w8 ⟨rfl, rfl⟩
      go_wp2_with fail
      refine (behind_any q m p k (by omega) (by omega) _).mono ?_
      rintro _ w8 ⟨rfl, rfl⟩
      go_wp2_with fail
      go_step3
      refine ⟨Or.inl ⟨rfl, g, _, _, _, c, d, p + k, n - k, q + k, m - k, al, bl, _, rfl, ⟨HTP.out, HM7.out, HT.out.io⟩⟩, ?_⟩
      simp only [muT, lenOf, Array.getD_eq_getD_getElem?, List.getElem?_toArray, List.getElem?_cons_zero, List.getElem?_cons_succ, Option.getD_some, stN_st _ _ (show n - k < 2 ^ 53 by omega), stN_st _ _ (show m - k < 2 ^ 53 by omega)]
      simp only [muL, if_neg hn0, if_neg h0] at hN2
      have i1 := ite01 (n - k)
      have i2 := ite01 (m - k)
      rcases hk1.2.2 with h | h
      · rw [if_pos (show n - k = 0 by omega)]; omega
      · rw [if_pos (show m - k = 0 by omega)]; omega
    subst h0
    rw [decide_eq_true rfl]
    cases bl with
    | nil =>
      have hov : n = 0 ∧ l = compS a b := by
        rcases HT.out.tp.over HZ.out (fun _ => rfl) with ⟨h, _, h2⟩ | ⟨_, h⟩
        · exact ⟨h, h2⟩
        · exact absurd rfl h
      obtain ⟨h0, hlc⟩ := hov
      subst h0
      have hca := comp_ca HGA.out HGB.out HT.out.io
      have hle := comp_le a b
      have HGL := hid (show Good l by rw [hlc]; exact hca.good)
      have HFL := hid (show Fit l by rw [hlc]; exact fit_of hca.good (by omega) (by rw [hca.ins]; exact HI.out) (by rw [hca.outs]; exact HO.out))
      have HOL := hid (show outS l ≤ 1099511627776 by rw [hlc, hca.outs]; exact HO.out)
      have HLC := hid hlc
      clear hca hle hlc
      go_wp2_with fail
      refine (empty_any p 0 (by omega) _).mono ?_
      rintro _ w3 ⟨rfl, rfl⟩
      rw [decide_eq_true rfl]
      go_wp2_with fail
      refine (Normal_any _ l _ HT.out.mw.out.reads HFL.out HGL.out HOL.out).mono ?_
      rintro _ w4 ⟨v4, rfl, hH4, hb4⟩
      have HH4 := hid hH4
      have Hb4 := hid (below_seq HT.out.mw.below hb4)
      have Hsz := hid HT.out.mw.below.size
      clear hH4 hb4
      go_wp2_with fail
      simp only [jumps]
      go_ret2
      exact ⟨fun h => absurd HT.out.io h, fun _ => ⟨_, rfl, by rw [twoS, ← HLC.out]; exact HH4.out.mono Hsz.out⟩, Hb4.out⟩
    | cons e bl =>
      have hra := HT.out.mw.rb
      simp only [List.length_cons] at hra hN2 ⊢
      obtain ⟨p2, q2, hsl, hrt⟩ := tail_c hra
      obtain ⟨ga, oa, ca', e', hcap, hr, hga⟩ := hra.place (by simp)
      injection e' with e1 e2 e3
      subst e1 e3
      obtain ⟨c0, c1, c2⟩ := RC.cells hr (j := 0) (c := e) rfl
      rw [Nat.zero_mul, Nat.add_zero] at c0 c1 c2
      replace c0 := cell_later HT.out.mw.below c0
      replace c1 := cell_later HT.out.mw.below c1
      replace c2 := cell_later HT.out.mw.below c2
      have z0 : w2.cell? ⟨g + 1, 0, none⟩ = some (.int .i64 d.k) := HT.out.mw.bd.cell rfl
      have z1 : w2.cell? ⟨g + 1, 1, none⟩ = some (.int .i64 d.n) := HT.out.mw.bd.cell rfl
      have z2 : w2.cell? ⟨g + 1, 2, none⟩ = some (.string d.s) := HT.out.mw.bd.cell rfl
      have y0 := HT.out.mw.bd.frozen 0
      have y1 := HT.out.mw.bd.frozen 1
      have y2 := HT.out.mw.bd.frozen 2
      have HRT := hid hrt
      have hlen1 : ((bl.length + 1 : Nat) : Int) = (bl.length : Int) + 1 := by omega
      have hlen2 : (0 : Int) < (bl.length : Int) + 1 := by omega
      clear hr hra hrt e2 hcap
      go_wp2_with fail
      go_region
      obtain ⟨w3, hw3⟩ : ∃ w3, boxed w2 (g + 1) e = w3 := ⟨_, rfl⟩
      have hw4 := hw3
      unfold boxed at hw4
      rw [hw4]
      have HM3 := hid (show MW w w3 g _ _ _ _ _ _ _ _ by rw [← hw3]; exact HT.out.mw.putB e HRT.out)
      clear hw3 hw4 c0 c1 c2 z0 z1 z2 y0 y1 y2 hsl hlen1 hlen2
      have z0 : w3.cell? ⟨g + 1, 0, none⟩ = some (.int .i64 e.k) := HM3.out.bd.cell rfl
      have z1 : w3.cell? ⟨g + 1, 1, none⟩ = some (.int .i64 e.n) := HM3.out.bd.cell rfl
      have z2 : w3.cell? ⟨g + 1, 2, none⟩ = some (.string e.s) := HM3.out.bd.cell rfl
      have hok : e.Ok := HT.out.tp.gb.hd
      have hsz : e.sz ≤ 1099511627776 := HT.out.tp.fb.szle hok
      go_wp2_with fail
      refine (met_any e hok _).mono ?_
      rintro _ w4 ⟨rfl, hb4⟩
      have HM4 := hid (HM3.out.later hb4)
      replace z0 := cell_later hb4 z0
      replace z1 := cell_later hb4 z1
      replace z2 := cell_later hb4 z2
      clear hb4 HM3
      by_cases hk : e.k = 2
      · rw [if_pos hk]
        have HTP := hid (HT.out.tp.bPut HZ.out hk)
        clear hk
        go_wp2_with fail
        refine (whole_any 0 _).mono ?_
        rintro _ w5 ⟨rfl, rfl⟩
        go_wp2_with fail
        refine (empty_any 0 0 (by omega) _).mono ?_
        rintro _ w5 ⟨rfl, rfl⟩
        rw [decide_eq_true rfl]
        have hlt := HT.out.tp.len
        go_wp2_with (at_builtin; go_must (refine wpList_append_c rfl _ _ rfl (g + 2) _ l rfl (HM4.out.out.later ((Below.refl _ _).alloc (Nat.le_refl _) _)) ?hs _ [e] rfl (one_new w5 e (g + 2) HM4.out.hi).reads ?hb ?_))
        case hs => have := HM4.out.hi; simp; omega
        case hb => simp; omega
        intro v7 w7 hH7 hb7
        have HM7 := hid ((HM4.out.later ((Below.refl _ _).alloc (Nat.le_refl _) _)).app hb7 hH7)
        clear hH7 hb7
        go_wp2_with fail
        go_step3
        refine ⟨Or.inr ⟨rfl, g, _, _, _, c, e, p, n, 0, 0, al, bl, _, rfl, ⟨HTP.out, HM7.out, HT.out.io⟩, HZ.out⟩, ?_⟩
        simp only [muT, lenOf, Array.getD_eq_getD_getElem?, List.getElem?_toArray, List.getElem?_cons_zero, List.getElem?_cons_succ, Option.getD_some, stN_st _ _ (show n < 2 ^ 53 by omega), stN_st _ _ (show 0 < 2 ^ 53 by omega)]
        simp only [muL] at hN2
        omega
      · rw [if_neg hk]
        have HTP := hid (HT.out.tp.bTake hk)
        clear hk
        go_wp2_with fail
        refine (whole_any e.sz _).mono ?_
        rintro _ w5 ⟨rfl, rfl⟩
        go_wp2_with fail
        refine (empty_any 0 e.sz (by omega) _).mono ?_
        rintro _ w5 ⟨rfl, rfl⟩
        rw [decide_eq_false (by have := hok.szp; omega)]
        go_wp2_with fail
        go_step3
        refine ⟨Or.inr ⟨rfl, g, _, _, _, c, e, p, n, 0, e.sz, al, bl, _, rfl, ⟨HTP.out, HM4.out, HT.out.io⟩, HZ.out⟩, ?_⟩
        simp only [muT, lenOf, Array.getD_eq_getD_getElem?, List.getElem?_toArray, List.getElem?_cons_zero, List.getElem?_cons_succ, Option.getD_some, stN_st _ _ (show n < 2 ^ 53 by omega), stN_st _ _ (show e.sz < 2 ^ 53 by omega)]
        have h1 := ite01 e.sz
        simp only [muL, if_pos (show (0 : Nat) = 0 from rfl)] at hN2
        omega
end Go.Proofs.Ytcghcocacbglbab

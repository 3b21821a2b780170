/- The contract of the second say's Normal. -/
import Derived.Test.YtlgdllbhddnokabNorm
namespace Go.Proofs.Ytlgdllbhddnokab
open Go.RowKit
set_option linter.unusedSimpArgs false
set_option linter.unusedVariables false

def flP (s : ByteArray) : List Cp := if s.size = 0 then [] else [pP s]
def flX (n : Int) : List Cp := if n = 0 then [] else [pX n]
def flK (n : Int) : List Cp := if 0 < n then [pK n] else []
def opP (s : ByteArray) (r : List Cp) : List Cp := if s.size = 0 then r else pushP s r
def opX (n : Int) (r : List Cp) : List Cp := if n = 0 then r else pushX n r
/-- What is still to come, with what was put, cut or kept and is not written yet. -/
def fin (put : ByteArray) (cut keep : Int) (r : List Cp) : List Cp := if 0 < keep then pushK keep (normS r) else opP put (opX cut (normS r))

theorem em_of {s : ByteArray} (h : s.size = 0) : s = Em := by
  apply ByteArray.ext
  have : s.data.size = 0 := h
  exact Array.eq_empty_of_size_eq_zero this
theorem em_append (s : ByteArray) : Em ++ s = s := by apply ByteArray.ext; simp [Em]
theorem P_at' {s : ByteArray} {r : List Cp} (h : ∀ d ∈ r.head?, d.k ≠ 2) : pushP s r = pP s :: r := by
  cases r with
  | nil => rfl
  | cons d r => simp [pushP, h d (by simp)]

theorem fin_P {put : ByteArray} {cut keep : Int} {c : Cp} (r : List Cp) (hc : c.k = 2) (h1 : 1 ≤ c.s.size) (hk : 0 < keep → put = Em ∧ cut = 0) :
    fin put cut keep (c :: r) = flK keep ++ fin (put ++ c.s) cut 0 r := by
  have hz : ¬ (put ++ c.s).size = 0 := by rw [ByteArray.size_append]; omega
  unfold fin flK
  rw [if_neg (show ¬ (0 : Int) < 0 by omega), normS, push_P hc]
  by_cases h : 0 < keep
  · obtain ⟨rfl, rfl⟩ := hk h
    rw [if_pos h, if_pos h, K_at (NoK_P _ _), em_append, opP, if_neg (by omega), opX, if_pos rfl]
    rfl
  · rw [if_neg h, if_neg h, List.nil_append, opP, opP, if_neg hz]
    have e : opX cut (pushP c.s (normS r)) = pushP c.s (opX cut (normS r)) := by
      unfold opX
      by_cases hx : cut = 0
      · rw [if_pos hx, if_pos hx]
      · rw [if_neg hx, if_neg hx, X_P]
    rw [e]
    by_cases hp : put.size = 0
    · rw [if_pos hp, em_of hp, em_append]
    · rw [if_neg hp, P_P]
theorem fin_X {put : ByteArray} {cut keep : Int} {c : Cp} (r : List Cp) (hc : c.k = 3) (h1 : 1 ≤ c.n) (h0 : 0 ≤ cut) (hk : 0 < keep → put = Em ∧ cut = 0) :
    fin put cut keep (c :: r) = flK keep ++ fin put (cut + c.n) 0 r := by
  unfold fin flK
  rw [if_neg (show ¬ (0 : Int) < 0 by omega), normS, push_X hc]
  by_cases h : 0 < keep
  · obtain ⟨rfl, rfl⟩ := hk h
    rw [if_pos h, if_pos h, K_at (NoK_X _ _), opP, if_pos (show Em.size = 0 from rfl), opX, if_neg (by omega), Int.zero_add]
    rfl
  · rw [if_neg h, if_neg h, List.nil_append]
    have e : opX cut (pushX c.n (normS r)) = opX (cut + c.n) (normS r) := by
      unfold opX
      rw [if_neg (show ¬ cut + c.n = 0 by omega)]
      by_cases hx : cut = 0
      · rw [if_pos hx, hx, Int.zero_add]
      · rw [if_neg hx, X_X]
    rw [e]
theorem op_flush (put : ByteArray) (cut : Int) (r : List Cp) (h : IsK r) : opP put (opX cut r) = flP put ++ (flX cut ++ r) := by
  have e : opX cut r = flX cut ++ r := by
    unfold opX flX
    by_cases hx : cut = 0
    · rw [if_pos hx, if_pos hx]; rfl
    · rw [if_neg hx, if_neg hx, X_at h]; rfl
  rw [e]
  unfold opP flP
  by_cases hp : put.size = 0
  · rw [if_pos hp, if_pos hp]; rfl
  · rw [if_neg hp, if_neg hp, P_at']
    · rfl
    · intro d hd
      unfold flX at hd
      by_cases hx : cut = 0
      · rw [if_pos hx] at hd
        have := h d (by simpa using hd)
        omega
      · rw [if_neg hx] at hd
        simp at hd
        subst hd
        simp [pX]
theorem fin_K {put : ByteArray} {cut keep : Int} {c : Cp} (r : List Cp) (hc : c.k = 1) (h1 : 1 ≤ c.n) (h0 : 0 ≤ keep) (hk : 0 < keep → put = Em ∧ cut = 0) :
    fin put cut keep (c :: r) = flP put ++ (flX cut ++ fin Em 0 (keep + c.n) r) := by
  unfold fin
  rw [if_pos (show 0 < keep + c.n by omega), normS, push_K hc]
  by_cases h : 0 < keep
  · obtain ⟨rfl, rfl⟩ := hk h
    rw [if_pos h, K_K]
    rfl
  · have : keep = 0 := by omega
    subst this
    rw [if_neg h, op_flush _ _ _ (IsK_K _ _), Int.zero_add]
theorem fin_end {put : ByteArray} {cut keep : Int} (hk : 0 < keep → put = Em ∧ cut = 0) : fin put cut keep [] = flP put ++ (flX cut ++ flK keep) := by
  unfold fin flK
  by_cases h : 0 < keep
  · obtain ⟨rfl, rfl⟩ := hk h
    rw [if_pos h, if_pos h]
    rfl
  · rw [if_neg h, if_neg h, op_flush _ _ _ (by intro d hd; simp [normS] at hd), normS]

theorem ne_em {s : ByteArray} (h : 0 < s.size) : s.toList.isEmpty = false := by
  rw [ByteArray.toList_eq]
  cases hl : s.data.toList with
  | nil =>
    have : s.size = 0 := by rw [size_list, hl]; rfl
    omega
  | cons => rfl

theorem flP_len (s : ByteArray) : (flP s).length ≤ 1 := by unfold flP; split <;> simp
theorem flX_len (n : Int) : (flX n).length ≤ 1 := by unfold flX; split <;> simp
theorem flK_len (n : Int) : (flK n).length ≤ 1 := by unfold flK; split <;> simp

theorem one_new2 (w : World) (ob : Obj) (c : Cp) (Bd : Nat) (hB : Bd ≤ w.heap.size) : HasC ((w.alloc ob).alloc (.cells c.vals.toArray 42)) Bd (.slice (some ⟨w.heap.size + 1, 0, none⟩) 1 1) [c] := by
  have := one_new (w.alloc ob) c Bd (by simp; omega)
  rwa [show (w.alloc ob).heap.size = w.heap.size + 1 by simp] at this

/-- What holds at the head of a round. -/
def RN (w wr : World) (o : List Cp) (j : Nat) (vo : Value) (put : ByteArray) (cut keep : Int) (l : List Cp) : Prop :=
  HasC wr w.heap.size vo l ∧ l.length ≤ 2 * j ∧ 0 ≤ cut ∧ 0 ≤ keep ∧ (0 < keep → put = Em ∧ cut = 0) ∧ cut + keep ≤ j * 1099511627776 ∧ (put.size : Int) ≤ j * 1099511627776 ∧
  (j ≤ o.length → l ++ fin put cut keep (o.drop j) = normS o) ∧ (o.length < j → l ++ flK keep = normS o) ∧ Below w.heap.size w wr

set_option maxRecDepth 100000 in
set_option maxHeartbeats 4000000 in
theorem refNormal_any (v : Value) (o : List Cp) (w : World) (hv : RC w v o) (hf : Fit o) (hg : Good o) :
    Calls Try.prog 9 #[v] w fun e w' => ∃ v', e = .returned v' ∧ HasC w' w.heap.size v' (normS o) ∧ Below w.heap.size w w' := by
  obtain ⟨ao, cap, rfl⟩ := hv.form
  have HV := hid hv
  have HF := hid hf
  have HG := hid hg
  have hlen := hf.1
  clear hv hf hg
  go_enter Try.func9, Try.ntmps9
  go_wp2_with fail
  go_loopw [3, 4, 5, 6, 7] (fun vo pv xv kv i wr => ∃ (j : Nat) (put : ByteArray) (cut keep : Int) (l : List Cp), j ≤ o.length + 1 ∧ i = .int .i64 j ∧ pv = .string put ∧ xv = .int .i64 cut ∧ kv = .int .i64 keep ∧ RN w wr o j vo put cut keep l) (fun _ _ _ _ i _ => o.length + 1 - (intOf i).toNat)
  case atStart => exact ⟨0, ⟨#[]⟩, 0, 0, [], Nat.zero_le _, rfl, rfl, rfl, rfl, HasC.nil _ _, by simp, by omega, by omega, fun h => by omega, by simp, by rw [show (⟨#[]⟩ : ByteArray).size = 0 from rfl]; simp, fun _ => rfl, fun h => by omega, Below.refl _ _⟩
  case round =>
    obtain ⟨j, put, cut, keep, l, hj, rfl, rfl, rfl, rfl, hH, hll, hc0, hk0, hkk, hbd, hpb, hx, hx2, hb⟩ := hrel
    obtain ⟨oo, oc, rfl⟩ := hH.form
    have H0 := hid hH
    have Hb := hid hb
    have HK := hid hkk
    clear hH hb hkk
    by_cases hlt : j < o.length
    · have hlt' : (j : Int) < (o.length : Int) := by omega
      have hle' : (j : Int) ≤ (o.length : Int) := by omega
      obtain ⟨c, hc⟩ : ∃ c, o[j]? = some c := ⟨_, List.getElem?_eq_getElem hlt⟩
      obtain ⟨g, off, cap', e, hcap, hr, hgs⟩ := HV.out.place (by omega)
      injection e with e1 e2 e3
      subst e1 e3
      obtain ⟨c0, c1, c2⟩ := RC.cells hr hc
      replace c0 := cell_later Hb.out c0
      replace c1 : ∀ ob, (wr.alloc ob).cell? ⟨g, off + j * 3 + 1, none⟩ = _ := fun ob => cell_later ((Below.refl _ _).alloc (Nat.le_refl _) ob) (cell_later Hb.out c1)
      replace c2 : ∀ ob, (wr.alloc ob).cell? ⟨g, off + j * 3 + 2, none⟩ = _ := fun ob => cell_later ((Below.refl _ _).alloc (Nat.le_refl _) ob) (cell_later Hb.out c2)
      have hok := HG.out.at hc
      have hA := HF.out.at hc
      have HX := hid (show l ++ fin put cut keep (c :: o.drop (j + 1)) = normS o by rw [← drop_cons' o j c hc]; exact hx (by omega))
      clear hr hc e2 hx hx2
      rcases hok with ⟨hk, hn1, hs0⟩ | ⟨hk, hn0, hs1⟩
      · rcases hk with hk | hk
        · -- a Keep
          by_cases hpe : put.size = 0
          case pos =>
            have hpz : put = (⟨#[]⟩ : ByteArray) := em_of hpe
            subst hpz
            by_cases hxe : cut = 0
            case pos =>
              subst hxe
              have HX3 := hid (show l ++ (flP Em ++ (flX 0 ++ fin Em 0 (keep + c.n) (o.drop (j + 1)))) = normS o by have h := HX.out; rw [fin_K _ hk hn1 hk0 HK.out] at h; exact h)
              rw [hk] at c0
              replace c0 : ∀ ob, (wr.alloc ob).cell? ⟨g, off + j * 3, none⟩ = _ := fun ob => cell_later ((Below.refl _ _).alloc (Nat.le_refl _) ob) c0
              clear hk HX
              have HbA := hid (Hb.out.alloc Hb.out.size (.cells #[.int .i64 1, .int .i64 c.n, .string c.s] 42))
              have HA := hid (H0.out.later ((Below.refl _ _).alloc (Nat.le_refl _) (.cells #[.int .i64 1, .int .i64 c.n, .string c.s] 42)))
              go_wp2_with fail
              go_roundw
              case rel =>
                refine ⟨j + 1, Em, 0, keep + c.n, l, by omega, by go_num, rfl, rfl, rfl, HA.out, by omega, by omega, by omega, fun _ => ⟨rfl, rfl⟩, by omega, by rw [show Em.size = 0 from rfl]; omega, fun _ => ?_, fun h => by omega, HbA.out⟩
                have := HX3.out
                simp only [flP, if_pos (show Em.size = 0 from rfl), flX, if_pos (show (0 : Int) = 0 from rfl), List.nil_append, List.cons_append, if_true] at this
                try simp only [List.append_assoc, List.nil_append, List.cons_append]
                exact this
              case measure => simp [intOf]; try omega
            case neg =>
              have hxp : 0 < cut := by omega
              have HX3 := hid (show l ++ (flP Em ++ (flX cut ++ fin Em 0 (keep + c.n) (o.drop (j + 1)))) = normS o by have h := HX.out; rw [fin_K _ hk hn1 hk0 HK.out] at h; exact h)
              rw [hk] at c0
              replace c0 : ∀ ob, (wr.alloc ob).cell? ⟨g, off + j * 3, none⟩ = _ := fun ob => cell_later ((Below.refl _ _).alloc (Nat.le_refl _) ob) c0
              clear hk HX
              have HbA := hid (Hb.out.alloc Hb.out.size (.cells #[.int .i64 1, .int .i64 c.n, .string c.s] 42))
              have HA := hid (H0.out.later ((Below.refl _ _).alloc (Nat.le_refl _) (.cells #[.int .i64 1, .int .i64 c.n, .string c.s] 42)))
              go_wp2_with (at_builtin; go_must (refine wpList_append_c2 rfl _ _ rfl w.heap.size _ _ rfl (HA.out.later ((Below.refl _ _).alloc (Nat.le_refl _) _)) ?hs1 _ [pX cut] rfl (one_new2 wr _ (pX cut) w.heap.size Hb.out.size).reads ?hb1 ?_))
              case hs1 => have := Hb.out.size; first | omega | (simp; omega)
              case hb1 => first | omega | (simp; omega)
              intro v1 w1 hH1 hb1 hk1 hq1
              have hx1 : Blk w1 42 wr.heap.size [.int .i64 1, .int .i64 c.n, .string c.s] := Blk.kept ((Blk.new wr 42 [.int .i64 1, .int .i64 c.n, .string c.s]).alloc _) (hk1 wr.heap.size (by first | omega | (simp; omega) | simp) (fun h => absurd (H0.out.blk h) (by omega)))
              have z1 : w1.cell? ⟨wr.heap.size, 0, none⟩ = _ := hx1.cell rfl
              have y1 : w1.cell? ⟨wr.heap.size, 1, none⟩ = _ := hx1.cell rfl
              have x1 : w1.cell? ⟨wr.heap.size, 2, none⟩ = _ := hx1.cell rfl
              have HB1 := hid hx1
              have HQ1 := hid hq1
              obtain ⟨l1, hl1⟩ : ∃ l1, l ++ [pX cut] = l1 := ⟨_, rfl⟩
              rw [hl1] at hH1
              obtain ⟨a1, c1, rfl⟩ := hH1.form
              have H1 := hid hH1
              have Hb1 := hid (show Below w.heap.size w w1 from (HbA.out.alloc HbA.out.size _).trans hb1)
              have HL1 := hid hl1
              have hn1 : l1.length ≤ 2 * j + 1 := by rw [← hl1, List.length_append]; simp; omega
              clear hH1 hb1 hl1 hk1 hx1 hq1
              go_wp2_with fail
              go_roundw
              case rel =>
                refine ⟨j + 1, Em, 0, keep + c.n, l1, by omega, by go_num, rfl, rfl, rfl, H1.out, by omega, by omega, by omega, fun _ => ⟨rfl, rfl⟩, by omega, by rw [show Em.size = 0 from rfl]; omega, fun _ => ?_, fun h => by omega, Hb1.out⟩
                have := HX3.out
                simp only [flP, if_pos (show Em.size = 0 from rfl), flX, if_neg hxe, List.nil_append, List.cons_append, if_true] at this
                try simp only [← HL1.out, List.append_assoc, List.nil_append, List.cons_append]
                exact this
              case measure => simp [intOf]; try omega
          case neg =>
            have hpn := ne_em (show 0 < put.size by omega)
            by_cases hxe : cut = 0
            case pos =>
              subst hxe
              have HX3 := hid (show l ++ (flP put ++ (flX 0 ++ fin Em 0 (keep + c.n) (o.drop (j + 1)))) = normS o by have h := HX.out; rw [fin_K _ hk hn1 hk0 HK.out] at h; exact h)
              rw [hk] at c0
              replace c0 : ∀ ob, (wr.alloc ob).cell? ⟨g, off + j * 3, none⟩ = _ := fun ob => cell_later ((Below.refl _ _).alloc (Nat.le_refl _) ob) c0
              clear hk HX
              have HbA := hid (Hb.out.alloc Hb.out.size (.cells #[.int .i64 1, .int .i64 c.n, .string c.s] 42))
              have HA := hid (H0.out.later ((Below.refl _ _).alloc (Nat.le_refl _) (.cells #[.int .i64 1, .int .i64 c.n, .string c.s] 42)))
              go_wp2_with (at_builtin; go_must (refine wpList_append_c2 rfl _ _ rfl w.heap.size _ _ rfl (HA.out.later ((Below.refl _ _).alloc (Nat.le_refl _) _)) ?hs1 _ [pP put] rfl (one_new2 wr _ (pP put) w.heap.size Hb.out.size).reads ?hb1 ?_))
              case hs1 => have := Hb.out.size; first | omega | (simp; omega)
              case hb1 => first | omega | (simp; omega)
              intro v1 w1 hH1 hb1 hk1 hq1
              have hx1 : Blk w1 42 wr.heap.size [.int .i64 1, .int .i64 c.n, .string c.s] := Blk.kept ((Blk.new wr 42 [.int .i64 1, .int .i64 c.n, .string c.s]).alloc _) (hk1 wr.heap.size (by first | omega | (simp; omega) | simp) (fun h => absurd (H0.out.blk h) (by omega)))
              have z1 : w1.cell? ⟨wr.heap.size, 0, none⟩ = _ := hx1.cell rfl
              have y1 : w1.cell? ⟨wr.heap.size, 1, none⟩ = _ := hx1.cell rfl
              have x1 : w1.cell? ⟨wr.heap.size, 2, none⟩ = _ := hx1.cell rfl
              have HB1 := hid hx1
              have HQ1 := hid hq1
              obtain ⟨l1, hl1⟩ : ∃ l1, l ++ [pP put] = l1 := ⟨_, rfl⟩
              rw [hl1] at hH1
              obtain ⟨a1, c1, rfl⟩ := hH1.form
              have H1 := hid hH1
              have Hb1 := hid (show Below w.heap.size w w1 from (HbA.out.alloc HbA.out.size _).trans hb1)
              have HL1 := hid hl1
              have hn1 : l1.length ≤ 2 * j + 1 := by rw [← hl1, List.length_append]; simp; omega
              clear hH1 hb1 hl1 hk1 hx1 hq1
              go_wp2_with fail
              go_roundw
              case rel =>
                refine ⟨j + 1, Em, 0, keep + c.n, l1, by omega, by go_num, rfl, rfl, rfl, H1.out, by omega, by omega, by omega, fun _ => ⟨rfl, rfl⟩, by omega, by rw [show Em.size = 0 from rfl]; omega, fun _ => ?_, fun h => by omega, Hb1.out⟩
                have := HX3.out
                simp only [flP, if_neg hpe, flX, if_pos (show (0 : Int) = 0 from rfl), List.nil_append, List.cons_append, if_true] at this
                try simp only [← HL1.out, List.append_assoc, List.nil_append, List.cons_append]
                exact this
              case measure => simp [intOf]; try omega
            case neg =>
              have hxp : 0 < cut := by omega
              have HX3 := hid (show l ++ (flP put ++ (flX cut ++ fin Em 0 (keep + c.n) (o.drop (j + 1)))) = normS o by have h := HX.out; rw [fin_K _ hk hn1 hk0 HK.out] at h; exact h)
              rw [hk] at c0
              replace c0 : ∀ ob, (wr.alloc ob).cell? ⟨g, off + j * 3, none⟩ = _ := fun ob => cell_later ((Below.refl _ _).alloc (Nat.le_refl _) ob) c0
              clear hk HX
              have HbA := hid (Hb.out.alloc Hb.out.size (.cells #[.int .i64 1, .int .i64 c.n, .string c.s] 42))
              have HA := hid (H0.out.later ((Below.refl _ _).alloc (Nat.le_refl _) (.cells #[.int .i64 1, .int .i64 c.n, .string c.s] 42)))
              go_wp2_with (at_builtin; go_must (refine wpList_append_c2 rfl _ _ rfl w.heap.size _ _ rfl (HA.out.later ((Below.refl _ _).alloc (Nat.le_refl _) _)) ?hs1 _ [pP put] rfl (one_new2 wr _ (pP put) w.heap.size Hb.out.size).reads ?hb1 ?_))
              case hs1 => have := Hb.out.size; first | omega | (simp; omega)
              case hb1 => first | omega | (simp; omega)
              intro v1 w1 hH1 hb1 hk1 hq1
              have hx1 : Blk w1 42 wr.heap.size [.int .i64 1, .int .i64 c.n, .string c.s] := Blk.kept ((Blk.new wr 42 [.int .i64 1, .int .i64 c.n, .string c.s]).alloc _) (hk1 wr.heap.size (by first | omega | (simp; omega) | simp) (fun h => absurd (H0.out.blk h) (by omega)))
              have z1 : w1.cell? ⟨wr.heap.size, 0, none⟩ = _ := hx1.cell rfl
              have y1 : w1.cell? ⟨wr.heap.size, 1, none⟩ = _ := hx1.cell rfl
              have x1 : w1.cell? ⟨wr.heap.size, 2, none⟩ = _ := hx1.cell rfl
              have HB1 := hid hx1
              have HQ1 := hid hq1
              obtain ⟨l1, hl1⟩ : ∃ l1, l ++ [pP put] = l1 := ⟨_, rfl⟩
              rw [hl1] at hH1
              obtain ⟨a1, c1, rfl⟩ := hH1.form
              have H1 := hid hH1
              have Hb1 := hid (show Below w.heap.size w w1 from (HbA.out.alloc HbA.out.size _).trans hb1)
              have HL1 := hid hl1
              have hn1 : l1.length ≤ 2 * j + 1 := by rw [← hl1, List.length_append]; simp; omega
              clear hH1 hb1 hl1 hk1 hx1 hq1
              go_wp2_with (at_builtin; go_must (refine wpList_append_c2 rfl _ _ rfl w.heap.size _ _ rfl (H1.out.later ((Below.refl _ _).alloc (Nat.le_refl _) _)) ?hs2 _ [pX cut] rfl (one_new _ (pX cut) w.heap.size Hb1.out.size).reads ?hb2 ?_))
              case hs2 => have := Hb1.out.size; first | omega | (simp; omega)
              case hb2 => first | omega | (simp; omega)
              intro v2 w2 hH2 hb2 hk2 hq2
              have hx2 : Blk w2 42 wr.heap.size [.int .i64 1, .int .i64 c.n, .string c.s] := Blk.kept (HB1.out.alloc _) (hk2 wr.heap.size (by have := HB1.out.lt; first | omega | (simp; omega)) (fun h => by rcases HQ1.out _ h with h | h; exact absurd (H0.out.blk h) (by omega); first | omega | (simp at h; omega)))
              have z2 : w2.cell? ⟨wr.heap.size, 0, none⟩ = _ := hx2.cell rfl
              have y2 : w2.cell? ⟨wr.heap.size, 1, none⟩ = _ := hx2.cell rfl
              have x2 : w2.cell? ⟨wr.heap.size, 2, none⟩ = _ := hx2.cell rfl
              have HB2 := hid hx2
              have HQ2 := hid hq2
              obtain ⟨l2, hl2⟩ : ∃ l2, l1 ++ [pX cut] = l2 := ⟨_, rfl⟩
              rw [hl2] at hH2
              obtain ⟨a2, c2, rfl⟩ := hH2.form
              have H2 := hid hH2
              have Hb2 := hid (show Below w.heap.size w w2 from (Hb1.out.alloc Hb1.out.size _).trans hb2)
              have HL2 := hid hl2
              have hn2 : l2.length ≤ 2 * j + 2 := by rw [← hl2, List.length_append]; simp; omega
              clear hH2 hb2 hl2 hk2 hx2 hq2
              go_wp2_with fail
              go_roundw
              case rel =>
                refine ⟨j + 1, Em, 0, keep + c.n, l2, by omega, by go_num, rfl, rfl, rfl, H2.out, by omega, by omega, by omega, fun _ => ⟨rfl, rfl⟩, by omega, by rw [show Em.size = 0 from rfl]; omega, fun _ => ?_, fun h => by omega, Hb2.out⟩
                have := HX3.out
                simp only [flP, if_neg hpe, flX, if_neg hxe, List.nil_append, List.cons_append, if_true] at this
                try simp only [← HL2.out, ← HL1.out, List.append_assoc, List.nil_append, List.cons_append]
                exact this
              case measure => simp [intOf]; try omega
        · -- a Cut
          by_cases hkp : 0 < keep
          case pos =>
            obtain ⟨hz1, hz2⟩ := HK.out hkp
            replace hz1 : put = (⟨#[]⟩ : ByteArray) := hz1
            subst hz1 hz2
            have HX3 := hid (show l ++ (flK keep ++ fin Em (0 + c.n) 0 (o.drop (j + 1))) = normS o by have h := HX.out; rw [fin_X _ hk hn1 hc0 HK.out] at h; exact h)
            rw [hk] at c0
            replace c0 : ∀ ob, (wr.alloc ob).cell? ⟨g, off + j * 3, none⟩ = _ := fun ob => cell_later ((Below.refl _ _).alloc (Nat.le_refl _) ob) c0
            clear hk HX
            have HbA := hid (Hb.out.alloc Hb.out.size (.cells #[.int .i64 3, .int .i64 c.n, .string c.s] 42))
            have HA := hid (H0.out.later ((Below.refl _ _).alloc (Nat.le_refl _) (.cells #[.int .i64 3, .int .i64 c.n, .string c.s] 42)))
            go_wp2_with (at_builtin; go_must (refine wpList_append_c2 rfl _ _ rfl w.heap.size _ _ rfl (HA.out.later ((Below.refl _ _).alloc (Nat.le_refl _) _)) ?hs1 _ [pK keep] rfl (one_new2 wr _ (pK keep) w.heap.size Hb.out.size).reads ?hb1 ?_))
            case hs1 => have := Hb.out.size; first | omega | (simp; omega)
            case hb1 => first | omega | (simp; omega)
            intro v1 w1 hH1 hb1 hk1 hq1
            have hx1 : Blk w1 42 wr.heap.size [.int .i64 3, .int .i64 c.n, .string c.s] := Blk.kept ((Blk.new wr 42 [.int .i64 3, .int .i64 c.n, .string c.s]).alloc _) (hk1 wr.heap.size (by first | omega | (simp; omega) | simp) (fun h => absurd (H0.out.blk h) (by omega)))
            have z1 : w1.cell? ⟨wr.heap.size, 0, none⟩ = _ := hx1.cell rfl
            have y1 : w1.cell? ⟨wr.heap.size, 1, none⟩ = _ := hx1.cell rfl
            have x1 : w1.cell? ⟨wr.heap.size, 2, none⟩ = _ := hx1.cell rfl
            have HB1 := hid hx1
            have HQ1 := hid hq1
            obtain ⟨l1, hl1⟩ : ∃ l1, l ++ [pK keep] = l1 := ⟨_, rfl⟩
            rw [hl1] at hH1
            obtain ⟨a1, c1, rfl⟩ := hH1.form
            have H1 := hid hH1
            have Hb1 := hid (show Below w.heap.size w w1 from (HbA.out.alloc HbA.out.size _).trans hb1)
            have HL1 := hid hl1
            have hn1 : l1.length ≤ 2 * j + 1 := by rw [← hl1, List.length_append]; simp; omega
            clear hH1 hb1 hl1 hk1 hx1 hq1
            go_wp2_with fail
            go_roundw
            case rel =>
              refine ⟨j + 1, Em, 0 + c.n, 0, l1, by omega, by go_num, rfl, by simp, rfl, H1.out, by omega, by omega, by omega, fun h => by omega, by omega, by rw [show Em.size = 0 from rfl]; omega, fun _ => ?_, fun h => by omega, Hb1.out⟩
              have := HX3.out
              simp only [flK, if_pos hkp, List.nil_append, List.cons_append, if_true] at this
              try simp only [← HL1.out, List.append_assoc, List.nil_append, List.cons_append]
              exact this
            case measure => simp [intOf]; try omega
          case neg =>
            have hkz : keep = 0 := by omega
            subst hkz
            have HX3 := hid (show l ++ (flK 0 ++ fin put (cut + c.n) 0 (o.drop (j + 1))) = normS o by have h := HX.out; rw [fin_X _ hk hn1 hc0 HK.out] at h; exact h)
            rw [hk] at c0
            replace c0 : ∀ ob, (wr.alloc ob).cell? ⟨g, off + j * 3, none⟩ = _ := fun ob => cell_later ((Below.refl _ _).alloc (Nat.le_refl _) ob) c0
            clear hk HX
            have HbA := hid (Hb.out.alloc Hb.out.size (.cells #[.int .i64 3, .int .i64 c.n, .string c.s] 42))
            have HA := hid (H0.out.later ((Below.refl _ _).alloc (Nat.le_refl _) (.cells #[.int .i64 3, .int .i64 c.n, .string c.s] 42)))
            go_wp2_with fail
            go_roundw
            case rel =>
              refine ⟨j + 1, put, cut + c.n, 0, l, by omega, by go_num, rfl, rfl, rfl, HA.out, by omega, by omega, by omega, fun h => by omega, by omega, by omega, fun _ => ?_, fun h => by omega, HbA.out⟩
              have := HX3.out
              simp only [flK, if_neg (show ¬ (0 : Int) < 0 by omega), List.nil_append, List.cons_append, if_true] at this
              try simp only [List.append_assoc, List.nil_append, List.cons_append]
              exact this
            case measure => simp [intOf]; try omega
      · -- a Put
        clear hn0
        by_cases hkp : 0 < keep
        case pos =>
          obtain ⟨hz1, hz2⟩ := HK.out hkp
          replace hz1 : put = (⟨#[]⟩ : ByteArray) := hz1
          subst hz1 hz2
          have HX3 := hid (show l ++ (flK keep ++ fin (Em ++ c.s) 0 0 (o.drop (j + 1))) = normS o by have h := HX.out; rw [fin_P _ hk hs1 HK.out] at h; exact h)
          rw [hk] at c0
          replace c0 : ∀ ob, (wr.alloc ob).cell? ⟨g, off + j * 3, none⟩ = _ := fun ob => cell_later ((Below.refl _ _).alloc (Nat.le_refl _) ob) c0
          clear hk HX
          have HbA := hid (Hb.out.alloc Hb.out.size (.cells #[.int .i64 2, .int .i64 c.n, .string c.s] 42))
          have HA := hid (H0.out.later ((Below.refl _ _).alloc (Nat.le_refl _) (.cells #[.int .i64 2, .int .i64 c.n, .string c.s] 42)))
          go_wp2_with (at_builtin; go_must (refine wpList_append_c2 rfl _ _ rfl w.heap.size _ _ rfl (HA.out.later ((Below.refl _ _).alloc (Nat.le_refl _) _)) ?hs1 _ [pK keep] rfl (one_new2 wr _ (pK keep) w.heap.size Hb.out.size).reads ?hb1 ?_))
          case hs1 => have := Hb.out.size; first | omega | (simp; omega)
          case hb1 => first | omega | (simp; omega)
          intro v1 w1 hH1 hb1 hk1 hq1
          have hx1 : Blk w1 42 wr.heap.size [.int .i64 2, .int .i64 c.n, .string c.s] := Blk.kept ((Blk.new wr 42 [.int .i64 2, .int .i64 c.n, .string c.s]).alloc _) (hk1 wr.heap.size (by first | omega | (simp; omega) | simp) (fun h => absurd (H0.out.blk h) (by omega)))
          have z1 : w1.cell? ⟨wr.heap.size, 0, none⟩ = _ := hx1.cell rfl
          have y1 : w1.cell? ⟨wr.heap.size, 1, none⟩ = _ := hx1.cell rfl
          have x1 : w1.cell? ⟨wr.heap.size, 2, none⟩ = _ := hx1.cell rfl
          have HB1 := hid hx1
          have HQ1 := hid hq1
          obtain ⟨l1, hl1⟩ : ∃ l1, l ++ [pK keep] = l1 := ⟨_, rfl⟩
          rw [hl1] at hH1
          obtain ⟨a1, c1, rfl⟩ := hH1.form
          have H1 := hid hH1
          have Hb1 := hid (show Below w.heap.size w w1 from (HbA.out.alloc HbA.out.size _).trans hb1)
          have HL1 := hid hl1
          have hn1 : l1.length ≤ 2 * j + 1 := by rw [← hl1, List.length_append]; simp; omega
          clear hH1 hb1 hl1 hk1 hx1 hq1
          go_wp2_with fail
          go_roundw
          case rel =>
            refine ⟨j + 1, Em ++ c.s, 0, 0, l1, by omega, by go_num, rfl, rfl, rfl, H1.out, by omega, by omega, by omega, fun h => by omega, by omega, by rw [ByteArray.size_append]; simp only [show Em.size = 0 from rfl]; omega, fun _ => ?_, fun h => by omega, Hb1.out⟩
            have := HX3.out
            simp only [flK, if_pos hkp, List.nil_append, List.cons_append, if_true] at this
            try simp only [← HL1.out, List.append_assoc, List.nil_append, List.cons_append]
            exact this
          case measure => simp [intOf]; try omega
        case neg =>
          have hkz : keep = 0 := by omega
          subst hkz
          have HX3 := hid (show l ++ (flK 0 ++ fin (put ++ c.s) cut 0 (o.drop (j + 1))) = normS o by have h := HX.out; rw [fin_P _ hk hs1 HK.out] at h; exact h)
          rw [hk] at c0
          replace c0 : ∀ ob, (wr.alloc ob).cell? ⟨g, off + j * 3, none⟩ = _ := fun ob => cell_later ((Below.refl _ _).alloc (Nat.le_refl _) ob) c0
          clear hk HX
          have HbA := hid (Hb.out.alloc Hb.out.size (.cells #[.int .i64 2, .int .i64 c.n, .string c.s] 42))
          have HA := hid (H0.out.later ((Below.refl _ _).alloc (Nat.le_refl _) (.cells #[.int .i64 2, .int .i64 c.n, .string c.s] 42)))
          go_wp2_with fail
          go_roundw
          case rel =>
            refine ⟨j + 1, put ++ c.s, cut, 0, l, by omega, by go_num, rfl, rfl, rfl, HA.out, by omega, by omega, by omega, fun h => by omega, by omega, by rw [ByteArray.size_append]; omega, fun _ => ?_, fun h => by omega, HbA.out⟩
            have := HX3.out
            simp only [flK, if_neg (show ¬ (0 : Int) < 0 by omega), List.nil_append, List.cons_append, if_true] at this
            try simp only [List.append_assoc, List.nil_append, List.cons_append]
            exact this
          case measure => simp [intOf]; try omega
    · by_cases hje : j = o.length
      · subst hje
        have hge' : ¬ ((o.length : Int) < (o.length : Int)) := by omega
        have HX := hid (show l ++ fin put cut keep [] = normS o by have := hx (Nat.le_refl _); rwa [List.drop_length] at this)
        clear hx hx2
        by_cases hpe : put.size = 0
        case pos =>
          have hpz : put = (⟨#[]⟩ : ByteArray) := em_of hpe
          subst hpz
          by_cases hxe : cut = 0
          case pos =>
            subst hxe
            have HX3 := hid (show l ++ (flP Em ++ (flX 0 ++ flK keep)) = normS o by have h := HX.out; rw [fin_end HK.out] at h; exact h)
            clear HX
            have HbA := hid (Hb.out.alloc Hb.out.size (.cells #[.int .i64 1, .int .i64 0, .string ⟨#[]⟩] 42))
            have HA := hid (H0.out.later ((Below.refl _ _).alloc (Nat.le_refl _) (.cells #[.int .i64 1, .int .i64 0, .string ⟨#[]⟩] 42)))
            go_wp2_with fail
            go_roundw
            case rel =>
              refine ⟨o.length + 1, Em, 0, keep, l, by omega, by go_num, rfl, rfl, rfl, HA.out, by omega, by omega, by omega, fun _ => ⟨rfl, rfl⟩, by omega, by rw [show Em.size = 0 from rfl]; omega, fun h => by omega, fun _ => ?_, HbA.out⟩
              have := HX3.out
              simp only [flP, if_pos (show Em.size = 0 from rfl), flX, if_pos (show (0 : Int) = 0 from rfl), List.nil_append, List.cons_append, if_true] at this
              try simp only [List.append_assoc, List.nil_append, List.cons_append]
              exact this
            case measure => simp [intOf]; try omega
          case neg =>
            have hxp : 0 < cut := by omega
            have HX3 := hid (show l ++ (flP Em ++ (flX cut ++ flK keep)) = normS o by have h := HX.out; rw [fin_end HK.out] at h; exact h)
            clear HX
            have HbA := hid (Hb.out.alloc Hb.out.size (.cells #[.int .i64 1, .int .i64 0, .string ⟨#[]⟩] 42))
            have HA := hid (H0.out.later ((Below.refl _ _).alloc (Nat.le_refl _) (.cells #[.int .i64 1, .int .i64 0, .string ⟨#[]⟩] 42)))
            go_wp2_with (at_builtin; go_must (refine wpList_append_c2 rfl _ _ rfl w.heap.size _ _ rfl (HA.out.later ((Below.refl _ _).alloc (Nat.le_refl _) _)) ?hs1 _ [pX cut] rfl (one_new2 wr _ (pX cut) w.heap.size Hb.out.size).reads ?hb1 ?_))
            case hs1 => have := Hb.out.size; first | omega | (simp; omega)
            case hb1 => first | omega | (simp; omega)
            intro v1 w1 hH1 hb1 hk1 hq1
            have hx1 : Blk w1 42 wr.heap.size [.int .i64 1, .int .i64 0, .string ⟨#[]⟩] := Blk.kept ((Blk.new wr 42 [.int .i64 1, .int .i64 0, .string ⟨#[]⟩]).alloc _) (hk1 wr.heap.size (by first | omega | (simp; omega) | simp) (fun h => absurd (H0.out.blk h) (by omega)))
            have z1 : w1.cell? ⟨wr.heap.size, 0, none⟩ = _ := hx1.cell rfl
            have y1 : w1.cell? ⟨wr.heap.size, 1, none⟩ = _ := hx1.cell rfl
            have x1 : w1.cell? ⟨wr.heap.size, 2, none⟩ = _ := hx1.cell rfl
            have HB1 := hid hx1
            have HQ1 := hid hq1
            obtain ⟨l1, hl1⟩ : ∃ l1, l ++ [pX cut] = l1 := ⟨_, rfl⟩
            rw [hl1] at hH1
            obtain ⟨a1, c1, rfl⟩ := hH1.form
            have H1 := hid hH1
            have Hb1 := hid (show Below w.heap.size w w1 from (HbA.out.alloc HbA.out.size _).trans hb1)
            have HL1 := hid hl1
            have hn1 : l1.length ≤ 2 * o.length + 1 := by rw [← hl1, List.length_append]; simp; omega
            clear hH1 hb1 hl1 hk1 hx1 hq1
            go_wp2_with fail
            go_roundw
            case rel =>
              refine ⟨o.length + 1, Em, 0, keep, l1, by omega, by go_num, rfl, rfl, rfl, H1.out, by omega, by omega, by omega, fun _ => ⟨rfl, rfl⟩, by omega, by rw [show Em.size = 0 from rfl]; omega, fun h => by omega, fun _ => ?_, Hb1.out⟩
              have := HX3.out
              simp only [flP, if_pos (show Em.size = 0 from rfl), flX, if_neg hxe, List.nil_append, List.cons_append, if_true] at this
              try simp only [← HL1.out, List.append_assoc, List.nil_append, List.cons_append]
              exact this
            case measure => simp [intOf]; try omega
        case neg =>
          have hpn := ne_em (show 0 < put.size by omega)
          by_cases hxe : cut = 0
          case pos =>
            subst hxe
            have HX3 := hid (show l ++ (flP put ++ (flX 0 ++ flK keep)) = normS o by have h := HX.out; rw [fin_end HK.out] at h; exact h)
            clear HX
            have HbA := hid (Hb.out.alloc Hb.out.size (.cells #[.int .i64 1, .int .i64 0, .string ⟨#[]⟩] 42))
            have HA := hid (H0.out.later ((Below.refl _ _).alloc (Nat.le_refl _) (.cells #[.int .i64 1, .int .i64 0, .string ⟨#[]⟩] 42)))
            go_wp2_with (at_builtin; go_must (refine wpList_append_c2 rfl _ _ rfl w.heap.size _ _ rfl (HA.out.later ((Below.refl _ _).alloc (Nat.le_refl _) _)) ?hs1 _ [pP put] rfl (one_new2 wr _ (pP put) w.heap.size Hb.out.size).reads ?hb1 ?_))
            case hs1 => have := Hb.out.size; first | omega | (simp; omega)
            case hb1 => first | omega | (simp; omega)
            intro v1 w1 hH1 hb1 hk1 hq1
            have hx1 : Blk w1 42 wr.heap.size [.int .i64 1, .int .i64 0, .string ⟨#[]⟩] := Blk.kept ((Blk.new wr 42 [.int .i64 1, .int .i64 0, .string ⟨#[]⟩]).alloc _) (hk1 wr.heap.size (by first | omega | (simp; omega) | simp) (fun h => absurd (H0.out.blk h) (by omega)))
            have z1 : w1.cell? ⟨wr.heap.size, 0, none⟩ = _ := hx1.cell rfl
            have y1 : w1.cell? ⟨wr.heap.size, 1, none⟩ = _ := hx1.cell rfl
            have x1 : w1.cell? ⟨wr.heap.size, 2, none⟩ = _ := hx1.cell rfl
            have HB1 := hid hx1
            have HQ1 := hid hq1
            obtain ⟨l1, hl1⟩ : ∃ l1, l ++ [pP put] = l1 := ⟨_, rfl⟩
            rw [hl1] at hH1
            obtain ⟨a1, c1, rfl⟩ := hH1.form
            have H1 := hid hH1
            have Hb1 := hid (show Below w.heap.size w w1 from (HbA.out.alloc HbA.out.size _).trans hb1)
            have HL1 := hid hl1
            have hn1 : l1.length ≤ 2 * o.length + 1 := by rw [← hl1, List.length_append]; simp; omega
            clear hH1 hb1 hl1 hk1 hx1 hq1
            go_wp2_with fail
            go_roundw
            case rel =>
              refine ⟨o.length + 1, Em, 0, keep, l1, by omega, by go_num, rfl, rfl, rfl, H1.out, by omega, by omega, by omega, fun _ => ⟨rfl, rfl⟩, by omega, by rw [show Em.size = 0 from rfl]; omega, fun h => by omega, fun _ => ?_, Hb1.out⟩
              have := HX3.out
              simp only [flP, if_neg hpe, flX, if_pos (show (0 : Int) = 0 from rfl), List.nil_append, List.cons_append, if_true] at this
              try simp only [← HL1.out, List.append_assoc, List.nil_append, List.cons_append]
              exact this
            case measure => simp [intOf]; try omega
          case neg =>
            have hxp : 0 < cut := by omega
            have HX3 := hid (show l ++ (flP put ++ (flX cut ++ flK keep)) = normS o by have h := HX.out; rw [fin_end HK.out] at h; exact h)
            clear HX
            have HbA := hid (Hb.out.alloc Hb.out.size (.cells #[.int .i64 1, .int .i64 0, .string ⟨#[]⟩] 42))
            have HA := hid (H0.out.later ((Below.refl _ _).alloc (Nat.le_refl _) (.cells #[.int .i64 1, .int .i64 0, .string ⟨#[]⟩] 42)))
            go_wp2_with (at_builtin; go_must (refine wpList_append_c2 rfl _ _ rfl w.heap.size _ _ rfl (HA.out.later ((Below.refl _ _).alloc (Nat.le_refl _) _)) ?hs1 _ [pP put] rfl (one_new2 wr _ (pP put) w.heap.size Hb.out.size).reads ?hb1 ?_))
            case hs1 => have := Hb.out.size; first | omega | (simp; omega)
            case hb1 => first | omega | (simp; omega)
            intro v1 w1 hH1 hb1 hk1 hq1
            have hx1 : Blk w1 42 wr.heap.size [.int .i64 1, .int .i64 0, .string ⟨#[]⟩] := Blk.kept ((Blk.new wr 42 [.int .i64 1, .int .i64 0, .string ⟨#[]⟩]).alloc _) (hk1 wr.heap.size (by first | omega | (simp; omega) | simp) (fun h => absurd (H0.out.blk h) (by omega)))
            have z1 : w1.cell? ⟨wr.heap.size, 0, none⟩ = _ := hx1.cell rfl
            have y1 : w1.cell? ⟨wr.heap.size, 1, none⟩ = _ := hx1.cell rfl
            have x1 : w1.cell? ⟨wr.heap.size, 2, none⟩ = _ := hx1.cell rfl
            have HB1 := hid hx1
            have HQ1 := hid hq1
            obtain ⟨l1, hl1⟩ : ∃ l1, l ++ [pP put] = l1 := ⟨_, rfl⟩
            rw [hl1] at hH1
            obtain ⟨a1, c1, rfl⟩ := hH1.form
            have H1 := hid hH1
            have Hb1 := hid (show Below w.heap.size w w1 from (HbA.out.alloc HbA.out.size _).trans hb1)
            have HL1 := hid hl1
            have hn1 : l1.length ≤ 2 * o.length + 1 := by rw [← hl1, List.length_append]; simp; omega
            clear hH1 hb1 hl1 hk1 hx1 hq1
            go_wp2_with (at_builtin; go_must (refine wpList_append_c2 rfl _ _ rfl w.heap.size _ _ rfl (H1.out.later ((Below.refl _ _).alloc (Nat.le_refl _) _)) ?hs2 _ [pX cut] rfl (one_new _ (pX cut) w.heap.size Hb1.out.size).reads ?hb2 ?_))
            case hs2 => have := Hb1.out.size; first | omega | (simp; omega)
            case hb2 => first | omega | (simp; omega)
            intro v2 w2 hH2 hb2 hk2 hq2
            have hx2 : Blk w2 42 wr.heap.size [.int .i64 1, .int .i64 0, .string ⟨#[]⟩] := Blk.kept (HB1.out.alloc _) (hk2 wr.heap.size (by have := HB1.out.lt; first | omega | (simp; omega)) (fun h => by rcases HQ1.out _ h with h | h; exact absurd (H0.out.blk h) (by omega); first | omega | (simp at h; omega)))
            have z2 : w2.cell? ⟨wr.heap.size, 0, none⟩ = _ := hx2.cell rfl
            have y2 : w2.cell? ⟨wr.heap.size, 1, none⟩ = _ := hx2.cell rfl
            have x2 : w2.cell? ⟨wr.heap.size, 2, none⟩ = _ := hx2.cell rfl
            have HB2 := hid hx2
            have HQ2 := hid hq2
            obtain ⟨l2, hl2⟩ : ∃ l2, l1 ++ [pX cut] = l2 := ⟨_, rfl⟩
            rw [hl2] at hH2
            obtain ⟨a2, c2, rfl⟩ := hH2.form
            have H2 := hid hH2
            have Hb2 := hid (show Below w.heap.size w w2 from (Hb1.out.alloc Hb1.out.size _).trans hb2)
            have HL2 := hid hl2
            have hn2 : l2.length ≤ 2 * o.length + 2 := by rw [← hl2, List.length_append]; simp; omega
            clear hH2 hb2 hl2 hk2 hx2 hq2
            go_wp2_with fail
            go_roundw
            case rel =>
              refine ⟨o.length + 1, Em, 0, keep, l2, by omega, by go_num, rfl, rfl, rfl, H2.out, by omega, by omega, by omega, fun _ => ⟨rfl, rfl⟩, by omega, by rw [show Em.size = 0 from rfl]; omega, fun h => by omega, fun _ => ?_, Hb2.out⟩
              have := HX3.out
              simp only [flP, if_neg hpe, flX, if_neg hxe, List.nil_append, List.cons_append, if_true] at this
              try simp only [← HL2.out, ← HL1.out, List.append_assoc, List.nil_append, List.cons_append]
              exact this
            case measure => simp [intOf]; try omega
      · have hje2 : j = o.length + 1 := by omega
        subst hje2
        have HX := hid (show l ++ flK keep = normS o from hx2 (by omega))
        clear hx hx2
        by_cases hkp : 0 < keep
        · have HX2 := hid (show l ++ [pK keep] = normS o by have := HX.out; rwa [flK, if_pos hkp] at this)
          go_wp2_with (at_builtin; go_must (refine wpList_append_c rfl _ _ rfl w.heap.size _ _ rfl (H0.out.later ((Below.refl _ _).alloc (Nat.le_refl _) _)) ?hs _ [pK keep] rfl (one_new wr (pK keep) w.heap.size Hb.out.size).reads ?hb ?_))
          case hs => have := Hb.out.size; simp; omega
          case hb => simp; omega
          intro v1 w1 hH1 hb1
          rw [HX2.out] at hH1
          obtain ⟨a1, c1, rfl⟩ := hH1.form
          have H1 := hid hH1
          have Hb1 := hid (show Below w.heap.size w w1 from (Hb.out.alloc Hb.out.size _).trans hb1)
          clear hH1 hb1
          go_wp2_with fail
          go_ret
          exact ⟨_, rfl, H1.out, Hb1.out⟩
        · have HX2 := hid (show l = normS o by have := HX.out; rwa [flK, if_neg hkp, List.append_nil] at this)
          go_wp2_with fail
          go_ret
          exact ⟨_, rfl, by rw [← HX2.out]; exact H0.out, Hb.out⟩
end Go.Proofs.Ytlgdllbhddnokab

/- Who takes part: what Add and Remove make of a row of users; of no program. -/
import Derived.Test.YtjedajfemhpogaaUserS
namespace Go.Proofs.Ytjedajfemhpogaa
open Go.RowKit
set_option linter.unusedSimpArgs false
set_option linter.unusedVariables false

/-- Does a user stand ahead of another one? -/
def adLt (a b : Ad) : Bool := decide (a.1 < b.1 ∨ a.1 = b.1 ∧ a.2 < b.2)
theorem adLt_iff {a b : Ad} : adLt a b = true ↔ a.1 < b.1 ∨ a.1 = b.1 ∧ a.2 < b.2 := decide_eq_true_iff
theorem adLt_irrefl (a : Ad) : adLt a a = false := by simp [adLt]
theorem adLt_trans {a b c : Ad} (h : adLt a b = true) (k : adLt b c = true) : adLt a c = true := by
  rw [adLt_iff] at *
  omega
theorem adLt_total {a b : Ad} (h : adLt a b = false) (hne : a ≠ b) : adLt b a = true := by
  rw [adLt_iff]
  simp only [adLt, decide_eq_false_iff_not] at h
  have : ¬ (a.1 = b.1 ∧ a.2 = b.2) := fun e => hne (Prod.ext e.1 e.2)
  omega
/-- How many stand ahead of a. -/
def ppN (l : List Ad) (a : Ad) : Nat := (l.takeWhile fun b => adLt b a).length
theorem ppN_le (l : List Ad) (a : Ad) : ppN l a ≤ l.length := (List.takeWhile_prefix _).length_le
theorem ppN_take (l : List Ad) (a : Ad) : l.take (ppN l a) = l.takeWhile fun b => adLt b a := (List.prefix_iff_eq_take.1 (List.takeWhile_prefix _)).symm
theorem ppN_drop (l : List Ad) (a : Ad) : l.drop (ppN l a) = l.dropWhile fun b => adLt b a := by
  have h := List.takeWhile_append_dropWhile (p := fun b => adLt b a) (l := l)
  have h2 := List.take_append_drop (ppN l a) l
  rw [ppN_take] at h2
  exact List.append_cancel_left (h2.trans h.symm)
def ppAdd (l : List Ad) (a : Ad) : List Ad × Int :=
  if userS a.1 a.2 = false then (l, 1) else if a ∈ l then (l, 12) else if 8 ≤ l.length then (l, 4) else (l.take (ppN l a) ++ [a] ++ l.drop (ppN l a), 0)
def ppRem (l : List Ad) (a : Ad) : List Ad × Int := if a ∈ l then (l.filter fun b => decide (b ≠ a), 0) else (l, 2)

/-- Users, each once, in order, at most eight. -/
structure PpOk (l : List Ad) : Prop where
  sorted : l.Pairwise fun a b => adLt a b = true
  user : ∀ a ∈ l, userS a.1 a.2 = true
  len : l.length ≤ 8
theorem PpOk.nil : PpOk [] := ⟨List.Pairwise.nil, fun a h => by simp at h, by simp⟩
theorem PpOk.one {a : Ad} (h : userS a.1 a.2 = true) : PpOk [a] := ⟨List.pairwise_singleton _ _, fun b hb => by simp at hb; subst hb; exact h, by simp⟩
theorem ppAdd_len (l : List Ad) (a : Ad) : (ppAdd l a).1.length ≤ l.length + 1 := by
  unfold ppAdd
  split
  · exact Nat.le_succ _
  · split
    · exact Nat.le_succ _
    · split
      · exact Nat.le_succ _
      · show (l.take (ppN l a) ++ [a] ++ l.drop (ppN l a)).length ≤ _
        have := ppN_le l a
        simp only [List.length_append, List.length_take, List.length_drop, List.length_singleton]
        omega
/-- All behind the place of one who is not there stand behind him. -/
theorem drop_above {a : Ad} : ∀ {l : List Ad}, (l.Pairwise fun a b => adLt a b = true) → a ∉ l → ∀ b ∈ l.dropWhile fun b => adLt b a, adLt a b = true
  | [], _, _, b, hb => by simp at hb
  | c :: l, hs, ha, b, hb => by
    rw [List.dropWhile_cons] at hb
    rw [List.pairwise_cons] at hs
    simp only [List.mem_cons, not_or] at ha
    split at hb
    · exact drop_above hs.2 ha.2 b hb
    · rename_i hc
      have hca : adLt a c = true := adLt_total (by simpa using hc) (Ne.symm ha.1)
      rcases List.mem_cons.1 hb with rfl | hb
      · exact hca
      · exact adLt_trans hca (hs.1 b hb)
theorem take_below {a : Ad} {l : List Ad} : ∀ b ∈ l.takeWhile fun b => adLt b a, adLt b a = true := fun b hb => by
  induction l with
  | nil => simp at hb
  | cons c l ih =>
    rw [List.takeWhile_cons] at hb
    split at hb
    · rename_i hc
      rcases List.mem_cons.1 hb with rfl | hb
      · exact hc
      · exact ih hb
    · simp at hb
theorem ppAdd_mem {l : List Ad} {a x : Ad} : x ∈ (ppAdd l a).1 ↔ x ∈ l ∨ (x = a ∧ (ppAdd l a).2 = 0) := by
  unfold ppAdd
  split
  · simp
  · split
    · simp
    · split
      · simp
      · show x ∈ l.take (ppN l a) ++ [a] ++ l.drop (ppN l a) ↔ _
        have e : x ∈ l ↔ x ∈ l.take (ppN l a) ∨ x ∈ l.drop (ppN l a) := by rw [← List.mem_append, List.take_append_drop]
        rw [e]
        simp only [List.mem_append, List.mem_singleton, and_true]
        constructor
        · rintro ((h | h) | h)
          · exact .inl (.inl h)
          · exact .inr h
          · exact .inl (.inr h)
        · rintro ((h | h) | h)
          · exact .inl (.inl h)
          · exact .inr h
          · exact .inl (.inr h)
theorem ppAdd_ok {l : List Ad} (h : PpOk l) (a : Ad) : PpOk (ppAdd l a).1 := by
  by_cases h1 : userS a.1 a.2 = false
  · rw [ppAdd, if_pos h1]; exact h
  by_cases h2 : a ∈ l
  · rw [ppAdd, if_neg h1, if_pos h2]; exact h
  by_cases h3 : 8 ≤ l.length
  · rw [ppAdd, if_neg h1, if_neg h2, if_pos h3]; exact h
  refine ⟨?_, fun x hx => ?_, by have := ppAdd_len l a; omega⟩
  · rw [ppAdd, if_neg h1, if_neg h2, if_neg h3]
    show (l.take (ppN l a) ++ [a] ++ l.drop (ppN l a)).Pairwise _
    rw [List.append_assoc, List.pairwise_append]
    refine ⟨h.sorted.sublist (List.take_sublist _ _), ?_, ?_⟩
    · rw [List.singleton_append, List.pairwise_cons]
      refine ⟨fun b hb => ?_, h.sorted.sublist (List.drop_sublist _ _)⟩
      rw [ppN_drop] at hb
      exact drop_above h.sorted h2 b hb
    · intro x hx y hy
      rw [ppN_take] at hx
      have hxa := take_below x hx
      rw [List.singleton_append, List.mem_cons] at hy
      rcases hy with rfl | hy
      · exact hxa
      · rw [ppN_drop] at hy
        exact adLt_trans hxa (drop_above h.sorted h2 y hy)
  · rcases ppAdd_mem.1 hx with h4 | ⟨rfl, _⟩
    · exact h.user x h4
    · simpa using h1
theorem ppRem_ok {l : List Ad} (h : PpOk l) (a : Ad) : PpOk (ppRem l a).1 := by
  unfold ppRem
  split
  · exact ⟨h.sorted.sublist List.filter_sublist, fun x hx => h.user x (List.mem_filter.1 hx).1, Nat.le_trans (List.length_filter_le _ _) h.len⟩
  · exact h
/-- Two rows in order with the same users are the same. -/
theorem sorted_ext : ∀ {l m : List Ad}, (l.Pairwise fun a b => adLt a b = true) → (m.Pairwise fun a b => adLt a b = true) → (∀ x, x ∈ l ↔ x ∈ m) → l = m
  | [], [], _, _, _ => rfl
  | [], b :: m, _, _, h => absurd ((h b).2 (by simp)) (by simp)
  | a :: l, [], _, _, h => absurd ((h a).1 (by simp)) (by simp)
  | a :: l, b :: m, hl, hm, h => by
    rw [List.pairwise_cons] at hl hm
    have hab : a = b := by
      rcases List.mem_cons.1 ((h a).1 (by simp)) with e | e
      · exact e
      · rcases List.mem_cons.1 ((h b).2 (by simp)) with e2 | e2
        · exact e2.symm
        · have h1 := hm.1 a e
          have h2 := hl.1 b e2
          have h3 := adLt_trans h1 h2
          rw [adLt_irrefl] at h3; cases h3
    subst hab
    congr 1
    refine sorted_ext hl.2 hm.2 fun x => ⟨fun hx => ?_, fun hx => ?_⟩
    · rcases List.mem_cons.1 ((h x).1 (by simp [hx])) with e | e
      · subst e
        have h3 := hl.1 x hx
        rw [adLt_irrefl] at h3; cases h3
      · exact e
    · rcases List.mem_cons.1 ((h x).2 (by simp [hx])) with e | e
      · subst e
        have h3 := hm.1 x hx
        rw [adLt_irrefl] at h3; cases h3
      · exact e
/-- All of a row, one behind the other. -/
def addAll : List Ad → List Ad → List Ad
  | l, [] => l
  | l, a :: r => addAll (ppAdd l a).1 r
theorem addAll_snoc : ∀ (l r : List Ad) (a : Ad), addAll l (r ++ [a]) = (ppAdd (addAll l r) a).1
  | l, [], a => rfl
  | l, b :: r, a => by rw [List.cons_append, addAll, addAll, addAll_snoc]
theorem addAll_ok : ∀ {l r : List Ad}, PpOk l → PpOk (addAll l r)
  | l, [], h => h
  | l, a :: r, h => addAll_ok (l := (ppAdd l a).1) (r := r) (ppAdd_ok h a)
theorem ppAdd_zero {l : List Ad} {a : Ad} (h : l.length < 8) (ha : a ∉ l) : (ppAdd l a).2 = 0 ↔ userS a.1 a.2 = true := by
  unfold ppAdd
  by_cases h1 : userS a.1 a.2 = false
  · rw [if_pos h1, h1]; simp
  · rw [if_neg h1, if_neg ha, if_neg (by omega)]
    simpa using h1
/-- While there are at most eight who is a user is there then. -/
theorem addAll_mem : ∀ {l r : List Ad}, l.length + r.length ≤ 8 → ∀ x, x ∈ addAll l r ↔ x ∈ l ∨ (x ∈ r ∧ userS x.1 x.2 = true)
  | l, [], _, x => by simp [addAll]
  | l, a :: r, h, x => by
    rw [List.length_cons] at h
    have hl := ppAdd_len l a
    rw [addAll, addAll_mem (by omega) x, ppAdd_mem]
    by_cases ha : a ∈ l
    · have : (ppAdd l a).2 ≠ 0 := by
        unfold ppAdd
        split
        · show (1 : Int) ≠ 0; decide
        · show (12 : Int) ≠ 0; decide
      simp only [this, and_false, or_false, List.mem_cons]
      constructor
      · rintro (h1 | ⟨h1, h2⟩)
        · exact .inl h1
        · exact .inr ⟨.inr h1, h2⟩
      · rintro (h1 | ⟨rfl | h1, h2⟩)
        · exact .inl h1
        · exact .inl ha
        · exact .inr ⟨h1, h2⟩
    · rw [ppAdd_zero (by omega) ha, List.mem_cons]
      constructor
      · rintro ((h1 | ⟨rfl, h2⟩) | ⟨h1, h2⟩)
        · exact .inl h1
        · exact .inr ⟨.inl rfl, h2⟩
        · exact .inr ⟨.inr h1, h2⟩
      · rintro (h1 | ⟨rfl | h1, h2⟩)
        · exact .inl (.inl h1)
        · exact .inl (.inr ⟨rfl, h2⟩)
        · exact .inr ⟨h1, h2⟩
/-- In whatever order they come they stand the same. -/
theorem addAll_perm {r r' : List Ad} (h : r.length ≤ 8) (hp : ∀ x, x ∈ r ↔ x ∈ r') (hl : r'.length ≤ 8) : addAll [] r = addAll [] r' := by
  refine sorted_ext (addAll_ok PpOk.nil).sorted (addAll_ok PpOk.nil).sorted fun x => ?_
  rw [addAll_mem (by simpa using h), addAll_mem (by simpa using hl), hp]
theorem ppN_at {l : List Ad} {a x : Ad} {j : Nat} (hx : l[j]? = some x) (hj : j ≤ ppN l a) : (adLt x a = true ↔ j < ppN l a) := by
  have hsp := List.takeWhile_append_dropWhile (p := fun b => adLt b a) (l := l)
  constructor
  · intro h
    rcases Nat.lt_or_ge j (ppN l a) with h1 | h1
    · exact h1
    · have he : j = ppN l a := by omega
      rw [← hsp, List.getElem?_append_right (by unfold ppN at he; omega), he] at hx
      have h0 : ppN l a - (l.takeWhile fun b => adLt b a).length = 0 := by unfold ppN; omega
      rw [h0] at hx
      cases hd : l.dropWhile fun b => adLt b a with
      | nil => rw [hd] at hx; simp at hx
      | cons y t =>
        rw [hd] at hx
        cases hx
        have := List.head_dropWhile_not (p := fun b => adLt b a) (l := l) (by rw [hd]; simp)
        simp only [hd, List.head_cons] at this
        rw [h] at this; cases this
  · intro h
    rw [← hsp, List.getElem?_append_left (by unfold ppN at h; exact h)] at hx
    exact take_below x (List.mem_of_getElem? hx)
theorem ppN_cons (c : Ad) (l : List Ad) (a : Ad) : ppN (c :: l) a = if adLt c a then ppN l a + 1 else 0 := by
  unfold ppN
  rw [List.takeWhile_cons]
  split <;> rfl
/-- Who is there stands at his place. -/
theorem ppN_is {a : Ad} : ∀ {l : List Ad}, (l.Pairwise fun a b => adLt a b = true) → a ∈ l → l[ppN l a]? = some a
  | [], _, h => by simp at h
  | c :: l, hs, h => by
    rw [List.pairwise_cons] at hs
    rcases List.mem_cons.1 h with rfl | h
    · rw [ppN_cons, adLt_irrefl]; rfl
    · rw [ppN_cons, if_pos (hs.1 a h), List.getElem?_cons_succ]
      exact ppN_is hs.2 h
/-- Without who is there. -/
theorem cut_is {a : Ad} : ∀ {l : List Ad}, (l.Pairwise fun a b => adLt a b = true) → a ∈ l → l.take (ppN l a) ++ l.drop (ppN l a + 1) = l.filter fun b => decide (b ≠ a)
  | [], _, h => by simp at h
  | c :: l, hs, h => by
    rw [List.pairwise_cons] at hs
    by_cases hc : a = c
    · subst hc
      rw [ppN_cons, adLt_irrefl, List.filter_cons_of_neg (by simp)]
      show l = _
      refine (List.filter_eq_self.2 fun b hb => ?_).symm
      rw [decide_eq_true_eq]
      intro e
      have := hs.1 b hb
      rw [e, adLt_irrefl] at this
      cases this
    · have h2 : a ∈ l := by
        rcases List.mem_cons.1 h with e | e
        · exact absurd e hc
        · exact e
      rw [ppN_cons, if_pos (hs.1 a h2), List.filter_cons_of_pos (by simpa using Ne.symm hc), ← cut_is hs.2 h2]
      rfl
end Go.Proofs.Ytjedajfemhpogaa

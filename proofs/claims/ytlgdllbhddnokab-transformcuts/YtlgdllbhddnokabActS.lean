/- Operations over any alphabet: what they do says how they are written in the one way; of no program. -/
import Derived.Test.YtlgdllbhddnokabNormT
namespace Go.Proofs.Ytlgdllbhddnokab
set_option linter.unusedSimpArgs false
set_option linter.unusedVariables false

theorem em0 {s : ByteArray} (h : s.size = 0) : s = Em := by
  apply ByteArray.ext
  have : s.data.size = 0 := h
  exact Array.eq_empty_of_size_eq_zero this
/-- A part that does something is one of three. -/
theorem ok_cases {c : Cp} (h : c.Ok) : (∃ n : Nat, 1 ≤ n ∧ c = pK n) ∨ (∃ s, 1 ≤ s.size ∧ c = pP s) ∨ ∃ n : Nat, 1 ≤ n ∧ c = pX n := by
  obtain ⟨k, n, s⟩ := c
  rcases h with ⟨hk | hk, hn, hs⟩ | ⟨hk, hn, hs⟩
  · simp only at hk hn hs
    obtain ⟨m, rfl⟩ : ∃ m : Nat, n = (m : Int) := Int.eq_ofNat_of_zero_le (by omega)
    exact .inl ⟨m, by omega, by rw [hk, em0 hs]; rfl⟩
  · simp only at hk hn hs
    obtain ⟨m, rfl⟩ : ∃ m : Nat, n = (m : Int) := Int.eq_ofNat_of_zero_le (by omega)
    exact .inr (.inr ⟨m, by omega, by rw [hk, em0 hs]; rfl⟩)
  · simp only at hk hn hs
    exact .inr (.inl ⟨s, hs, by rw [hk, hn]; rfl⟩)

section
variable {α : Type}
def act (f : UInt8 → α) : List α → List Cp → List α
  | _, [] => []
  | d, c :: o => if c.k = 1 then d.take c.n.toNat ++ act f (d.drop c.n.toNat) o else if c.k = 2 then c.s.data.toList.map f ++ act f d o else act f (d.drop c.n.toNat) o
variable {f : UInt8 → α}
theorem ac_nil (d : List α) : act f d [] = [] := rfl
theorem ac_K (n : Nat) (d : List α) (r : List Cp) : act f d (pK n :: r) = d.take n ++ act f (d.drop n) r := by simp [act, pK]
theorem ac_P (s : ByteArray) (d : List α) (r : List Cp) : act f d (pP s :: r) = s.data.toList.map f ++ act f d r := by simp [act, pP]
theorem ac_X (n : Nat) (d : List α) (r : List Cp) : act f d (pX n :: r) = act f (d.drop n) r := by simp [act, pX]

theorem pushK_act (n : Nat) {r : List Cp} (hg : Good r) (d : List α) : act f d (pushK n r) = act f d (pK n :: r) := by
  cases r with
  | nil => rfl
  | cons c r =>
    rcases ok_cases hg.hd with ⟨m, hm, rfl⟩ | ⟨s, hs, rfl⟩ | ⟨m, hm, rfl⟩
    · have e : pushK n (pK m :: r) = pK ((n + m : Nat) : Int) :: r := by simp [pushK, pK]
      rw [e, ac_K, ac_K, ac_K, List.drop_drop, ← List.append_assoc, List.take_add]
    · have e : pushK n (pP s :: r) = pK n :: pP s :: r := by simp [pushK, pP]
      rw [e]
    · have e : pushK n (pX m :: r) = pK n :: pX m :: r := by simp [pushK, pX]
      rw [e]
theorem pushP_act (s : ByteArray) {r : List Cp} (hg : Good r) (d : List α) : act f d (pushP s r) = act f d (pP s :: r) := by
  cases r with
  | nil => rfl
  | cons c r =>
    rcases ok_cases hg.hd with ⟨m, hm, rfl⟩ | ⟨u, hu, rfl⟩ | ⟨m, hm, rfl⟩
    · have e : pushP s (pK m :: r) = pP s :: pK m :: r := by simp [pushP, pK]
      rw [e]
    · have e : pushP s (pP u :: r) = pP (s ++ u) :: r := by simp [pushP, pP]
      rw [e, ac_P, ac_P, ac_P, ← List.append_assoc]
      simp
    · have e : pushP s (pX m :: r) = pP s :: pX m :: r := by simp [pushP, pX]
      rw [e]
theorem pushX0_act (n : Nat) {r : List Cp} (hg : Good r) (d : List α) : act f d (pushX0 n r) = act f d (pX n :: r) := by
  cases r with
  | nil => rfl
  | cons c r =>
    rcases ok_cases hg.hd with ⟨m, hm, rfl⟩ | ⟨u, hu, rfl⟩ | ⟨m, hm, rfl⟩
    · have e : pushX0 n (pK m :: r) = pX n :: pK m :: r := by simp [pushX0, pK]
      rw [e]
    · have e : pushX0 n (pP u :: r) = pX n :: pP u :: r := by simp [pushX0, pP]
      rw [e]
    · have e : pushX0 n (pX m :: r) = pX ((n + m : Nat) : Int) :: r := by simp [pushX0, pX]
      rw [e, ac_X, ac_X, ac_X, List.drop_drop]
theorem pushX_act (n : Nat) {r : List Cp} (hg : Good r) (d : List α) : act f d (pushX n r) = act f d (pX n :: r) := by
  cases r with
  | nil => rfl
  | cons c r =>
    rcases ok_cases hg.hd with ⟨m, hm, rfl⟩ | ⟨u, hu, rfl⟩ | ⟨m, hm, rfl⟩
    · have e : pushX n (pK m :: r) = pushX0 n (pK m :: r) := by simp [pushX, pK]
      rw [e, pushX0_act n hg]
    · have e : pushX n (pP u :: r) = pP u :: pushX0 n r := by simp [pushX, pP]
      rw [e, ac_P, pushX0_act n hg.tl, ac_X, ac_X, ac_P]
    · have e : pushX n (pX m :: r) = pushX0 n (pX m :: r) := by simp [pushX, pX]
      rw [e, pushX0_act n hg]
theorem norm_act : ∀ (o : List Cp), Good o → ∀ d : List α, act f d (normS o) = act f d o
  | [], _, _ => rfl
  | c :: o, h, d => by
    have ih := norm_act o h.tl
    have hg := norm_good h.tl
    rw [normS]
    rcases ok_cases h.hd with ⟨m, hm, rfl⟩ | ⟨s, hs, rfl⟩ | ⟨m, hm, rfl⟩
    · rw [push_K rfl, show (pK (m : Int)).n = (m : Int) from rfl, pushK_act m hg, ac_K, ac_K, ih]
    · rw [push_P rfl, show (pP s).s = s from rfl, pushP_act s hg, ac_P, ac_P, ih]
    · rw [push_X rfl, show (pX (m : Int)).n = (m : Int) from rfl, pushX_act m hg, ac_X, ac_X, ih]
end
theorem act_len {α : Type} {f : UInt8 → α} : ∀ (o : List Cp) (d : List α), Good o → inS o ≤ d.length → ((act f d o).length : Int) = outS o
  | [], d, _, _ => by simp [act, outS]
  | c :: o, d, hg, hi => by
    have hnn := hg.tl.inS_nn
    rcases ok_cases hg.hd with ⟨m, hm, rfl⟩ | ⟨s, hs, rfl⟩ | ⟨m, hm, rfl⟩
    · rw [in_cons, over_K] at hi
      have ih := act_len (f := f) o (d.drop m) hg.tl (by rw [List.length_drop]; omega)
      rw [ac_K, out_cons, outl_K, List.length_append, List.length_take]
      omega
    · rw [in_cons, over_P, Int.zero_add] at hi
      have ih := act_len (f := f) o d hg.tl hi
      rw [ac_P, out_cons, outl_P, List.length_append, List.length_map]
      have : s.data.toList.length = s.size := by simp
      omega
    · rw [in_cons, over_X] at hi
      have ih := act_len (f := f) o (d.drop m) hg.tl (by rw [List.length_drop]; omega)
      rw [ac_X, out_cons, outl_X]
      omega
theorem act_id : ∀ (o : List Cp) (d : List UInt8), act id d o = applyS d o
  | [], _ => rfl
  | c :: o, d => by simp only [act, applyS, List.map_id, act_id o]

/-- Signs that are all unlike, from i on. -/
def syms : Nat → Nat → List (Nat ⊕ UInt8)
  | 0, _ => []
  | k + 1, i => .inl i :: syms k (i + 1)
theorem syms_len : ∀ (k i : Nat), (syms k i).length = k
  | 0, _ => rfl
  | k + 1, i => by simp [syms, syms_len k]
theorem syms_add : ∀ (m k i : Nat), syms (m + k) i = syms m i ++ syms k (i + m)
  | 0, k, i => by simp [syms]
  | m + 1, k, i => by
    rw [show m + 1 + k = (m + k) + 1 by omega, syms, syms_add m k, syms, show i + 1 + m = i + (m + 1) by omega]
    rfl
theorem syms_ge : ∀ (k i j : Nat), Sum.inl j ∈ syms k i → i ≤ j
  | 0, _, _, h => by simp [syms] at h
  | k + 1, i, j, h => by
    rw [syms, List.mem_cons] at h
    rcases h with h | h
    · injection h with h; omega
    · have := syms_ge k (i + 1) j h; omega
theorem act_mem : ∀ (o : List Cp) (d : List (Nat ⊕ UInt8)) (j : Nat), Sum.inl j ∈ act .inr d o → Sum.inl j ∈ d
  | [], _, _, h => by simp [act] at h
  | c :: o, d, j, h => by
    rw [act] at h
    split at h
    · rcases List.mem_append.1 h with h | h
      · exact List.mem_of_mem_take h
      · exact List.mem_of_mem_drop (act_mem o _ j h)
    · split at h
      · rcases List.mem_append.1 h with h | h
        · simp at h
        · exact act_mem o _ j h
      · exact List.mem_of_mem_drop (act_mem o _ j h)

/-- What was done, read back: the operation written in the one way. -/
def back (e : Nat) : Nat → List (Nat ⊕ UInt8) → List Cp
  | i, [] => if i < e then pushX ((e - i : Nat) : Int) [] else []
  | i, .inr b :: t => pushP ⟨#[b]⟩ (back e i t)
  | i, .inl j :: t => if i < j then pushX ((j - i : Nat) : Int) (pushK 1 (back e (j + 1) t)) else pushK 1 (back e (j + 1) t)
theorem back_K (e : Nat) (t : List (Nat ⊕ UInt8)) : ∀ (m i : Nat), back e i (syms (m + 1) i ++ t) = pushK ((m + 1 : Nat) : Int) (back e (i + (m + 1)) t)
  | 0, i => by simp [syms, back]
  | m + 1, i => by
    rw [syms, List.cons_append, back, if_neg (by omega), back_K e t m (i + 1), K_K, show i + 1 + (m + 1) = i + (m + 1 + 1) by omega]
    congr 1
    omega
theorem back_P (e i : Nat) (t : List (Nat ⊕ UInt8)) : ∀ (l : List UInt8), l ≠ [] → back e i (l.map .inr ++ t) = pushP ⟨l.toArray⟩ (back e i t)
  | [], h => absurd rfl h
  | [b], _ => by simp [back]
  | b :: c :: l, _ => by
    have := back_P e i t (c :: l) (by simp)
    rw [List.map_cons, List.cons_append, back, this, P_P, show (⟨#[b]⟩ : ByteArray) = ⟨[b].toArray⟩ from rfl, ba_mk]
    rfl
theorem back_X (e m : Nat) (hm : 1 ≤ m) : ∀ (t : List (Nat ⊕ UInt8)) (i : Nat), i + m ≤ e → (∀ j, Sum.inl j ∈ t → i + m ≤ j) → back e i t = pushX (m : Int) (back e (i + m) t)
  | [], i, h, _ => by
    rw [back, back, if_pos (by omega)]
    by_cases h2 : i + m < e
    · rw [if_pos h2, X_X]; congr 1; omega
    · rw [if_neg h2]; congr 1; omega
  | .inr b :: t, i, h, hj => by
    rw [back, back, back_X e m hm t i h (fun j hx => hj j (by simp [hx])), X_P]
  | .inl j :: t, i, h, hj => by
    have := hj j (by simp)
    rw [back, back, if_pos (by omega)]
    by_cases h2 : i + m < j
    · rw [if_pos h2, X_X]; congr 1; omega
    · rw [if_neg h2]; congr 1; omega
theorem back_norm : ∀ (o : List Cp), Good o → ∀ (k i e : Nat), inS o = (k : Int) → e = i + k → back e i (act .inr (syms k i) o) = normS o
  | [], _, k, i, e, hk, he => by
    have : k = 0 := by simp [inS] at hk; omega
    subst this
    rw [act, back, if_neg (by omega), normS]
  | c :: o, h, k, i, e, hk, he => by
    have hnn := h.tl.inS_nn
    rw [normS]
    rcases ok_cases h.hd with ⟨m, hm, rfl⟩ | ⟨s, hs, rfl⟩ | ⟨m, hm, rfl⟩
    · rw [in_cons, over_K] at hk
      obtain ⟨k', hk'⟩ : ∃ k' : Nat, inS o = (k' : Int) := Int.eq_ofNat_of_zero_le hnn
      have hkk : k = m + k' := by omega
      have ih := back_norm o h.tl k' (i + m) e hk' (by omega)
      obtain ⟨m', rfl⟩ : ∃ m', m = m' + 1 := ⟨m - 1, by omega⟩
      rw [push_K rfl, show (pK ((m' + 1 : Nat) : Int)).n = ((m' + 1 : Nat) : Int) from rfl, ac_K, hkk, syms_add, List.take_left' (syms_len _ _), List.drop_left' (syms_len _ _), back_K, ih]
    · rw [in_cons, over_P, Int.zero_add] at hk
      have ih := back_norm o h.tl k i e hk he
      have hne : s.data.toList ≠ [] := by
        intro hx
        have := congrArg List.length hx
        simp at this
        have : s.size = 0 := by simp [ByteArray.size, this]
        omega
      rw [push_P rfl, show (pP s).s = s from rfl, ac_P, back_P _ _ _ _ hne, ih, ba_eta]
    · rw [in_cons, over_X] at hk
      obtain ⟨k', hk'⟩ : ∃ k' : Nat, inS o = (k' : Int) := Int.eq_ofNat_of_zero_le hnn
      have hkk : k = m + k' := by omega
      have ih := back_norm o h.tl k' (i + m) e hk' (by omega)
      rw [push_X rfl, show (pX (m : Int)).n = (m : Int) from rfl, ac_X, hkk, syms_add, List.drop_left' (syms_len _ _), back_X e m hm _ i (by omega) (fun j hj => syms_ge _ _ _ (act_mem _ _ _ hj)), ih]
/-- Two operations that do the same are written in one way. -/
theorem uniq {o p : List Cp} (ho : Good o) (hp : Good p) (hi : inS o = inS p) (h : ∀ d : List (Nat ⊕ UInt8), inS o = d.length → act .inr d o = act .inr d p) : normS o = normS p := by
  obtain ⟨k, hk⟩ : ∃ k : Nat, inS o = (k : Int) := Int.eq_ofNat_of_zero_le ho.inS_nn
  rw [← back_norm o ho k 0 k hk (by omega), ← back_norm p hp k 0 k (by rw [← hi, hk]) (by omega), h (syms k 0) (by rw [syms_len, hk])]
end Go.Proofs.Ytlgdllbhddnokab

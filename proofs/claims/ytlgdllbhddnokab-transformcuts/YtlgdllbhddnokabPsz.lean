/- How many bytes are put, and cut; of no program. -/
import Derived.Test.YtlgdllbhddnokabActS
namespace Go.Proofs.Ytlgdllbhddnokab
set_option linter.unusedSimpArgs false
set_option linter.unusedVariables false

/-- How many bytes are put. -/
def psz : List Cp → Int
  | [] => 0
  | c :: o => (c.s.size : Int) + psz o
theorem psz_append : ∀ (o p : List Cp), psz (o ++ p) = psz o + psz p
  | [], p => by simp [psz]
  | c :: o, p => by rw [List.cons_append, psz, psz, psz_append o p]; omega
theorem psz_take_succ (o : List Cp) (j : Nat) (c : Cp) (h : o[j]? = some c) : psz (o.take (j + 1)) = psz (o.take j) + (c.s.size : Int) := by
  rw [take_succ' o j c h, psz_append]; simp [psz]
theorem psz_le : ∀ {o : List Cp}, Good o → 0 ≤ psz o ∧ psz o ≤ outS o
  | [], _ => by simp [psz, outS]
  | c :: o, h => by
    have ih := psz_le h.tl
    rw [psz, out_cons]
    rcases ok_cases h.hd with ⟨m, hm, rfl⟩ | ⟨s, hs, rfl⟩ | ⟨m, hm, rfl⟩
    · rw [outl_K]; simp [pK, em_sz]; omega
    · rw [outl_P]; simp [pP]; omega
    · rw [outl_X]; simp [pX, em_sz]; omega
theorem psz_take {o : List Cp} (h : Good o) (j : Nat) : 0 ≤ psz (o.take j) ∧ psz (o.take j) ≤ outS o := by
  have h1 := psz_le (h.take j)
  have h2 := outS_split o j
  have h3 := (h.drop j).outS_nn
  omega
/-- How many bytes are cut. -/
def csz : List Cp → Int
  | [] => 0
  | c :: o => (if c.k = 3 then c.n else 0) + csz o
theorem csz_append : ∀ (o p : List Cp), csz (o ++ p) = csz o + csz p
  | [], p => by simp [csz]
  | c :: o, p => by rw [List.cons_append, csz, csz, csz_append o p]; omega
theorem csz_take_succ (o : List Cp) (j : Nat) (c : Cp) (h : o[j]? = some c) : csz (o.take (j + 1)) = csz (o.take j) + (if c.k = 3 then c.n else 0) := by
  rw [take_succ' o j c h, csz_append]; simp [csz]
theorem csz_K (n : Int) (o : List Cp) : csz (pK n :: o) = csz o := by simp [csz, pK]
theorem csz_P (s : ByteArray) (o : List Cp) : csz (pP s :: o) = csz o := by simp [csz, pP]
theorem csz_X (n : Int) (o : List Cp) : csz (pX n :: o) = n + csz o := by simp [csz, pX]
theorem psz_K (n : Int) (o : List Cp) : psz (pK n :: o) = psz o := by simp [psz, pK, em_sz]
theorem psz_P (s : ByteArray) (o : List Cp) : psz (pP s :: o) = s.size + psz o := by simp [psz, pP]
theorem psz_X (n : Int) (o : List Cp) : psz (pX n :: o) = psz o := by simp [psz, pX, em_sz]
/-- What is not cut of what goes in is what is not put of what comes out. -/
theorem sizes : ∀ {o : List Cp}, Good o → inS o - csz o = outS o - psz o ∧ 0 ≤ csz o ∧ csz o ≤ inS o
  | [], _ => by simp [csz, psz, inS, outS]
  | c :: o, h => by
    have ih := sizes h.tl
    rcases ok_cases h.hd with ⟨m, hm, rfl⟩ | ⟨s, hs, rfl⟩ | ⟨m, hm, rfl⟩
    · rw [in_cons, out_cons, over_K, outl_K, csz_K, psz_K]; omega
    · rw [in_cons, out_cons, over_P, outl_P, csz_P, psz_P]; omega
    · rw [in_cons, out_cons, over_X, outl_X, csz_X, psz_X]; omega
theorem csz_take {o : List Cp} (h : Good o) (j : Nat) : 0 ≤ csz (o.take j) ∧ csz (o.take j) ≤ inS o := by
  have h1 := sizes (h.take j)
  have h2 := inS_split o j
  have h3 := (h.drop j).inS_nn
  omega
theorem csz_pushK (n : Int) (r : List Cp) : csz (pushK n r) = csz r := by
  cases r with
  | nil => simp [pushK, csz_K]
  | cons d r =>
    by_cases h : d.k = 1
    · have e : pushK n (d :: r) = pK (n + d.n) :: r := by simp [pushK, h]
      rw [e, csz_K, csz, if_neg (by omega)]; omega
    · have e : pushK n (d :: r) = pK n :: d :: r := by simp [pushK, h]
      rw [e, csz_K]
theorem csz_pushP (s : ByteArray) (r : List Cp) : csz (pushP s r) = csz r := by
  cases r with
  | nil => simp [pushP, csz_P]
  | cons d r =>
    by_cases h : d.k = 2
    · have e : pushP s (d :: r) = pP (s ++ d.s) :: r := by simp [pushP, h]
      rw [e, csz_P, csz, if_neg (by omega)]; omega
    · have e : pushP s (d :: r) = pP s :: d :: r := by simp [pushP, h]
      rw [e, csz_P]
theorem csz_pushX0 (n : Int) (r : List Cp) : csz (pushX0 n r) = n + csz r := by
  cases r with
  | nil => simp [pushX0, csz_X]
  | cons d r =>
    by_cases h : d.k = 3
    · have e : pushX0 n (d :: r) = pX (n + d.n) :: r := by simp [pushX0, h]
      rw [e, csz_X, csz, if_pos h]; omega
    · have e : pushX0 n (d :: r) = pX n :: d :: r := by simp [pushX0, h]
      rw [e, csz_X]
theorem csz_pushX (n : Int) (r : List Cp) : csz (pushX n r) = n + csz r := by
  cases r with
  | nil => simp [pushX, csz_X]
  | cons d r =>
    by_cases h : d.k = 2
    · have e : pushX n (d :: r) = d :: pushX0 n r := by simp [pushX, h]
      rw [e, csz, csz, csz_pushX0, if_neg (by omega)]; omega
    · rw [show pushX n (d :: r) = pushX0 n (d :: r) by simp [pushX, h], csz_pushX0]
theorem csz_norm : ∀ (o : List Cp), Good o → csz (normS o) = csz o
  | [], _ => rfl
  | c :: o, h => by
    have ih := csz_norm o h.tl
    rw [normS, csz]
    rcases h c (by simp) with ⟨hk | hk, hn, hs⟩ | ⟨hk, hn, hs⟩
    · rw [push_K hk, csz_pushK, ih, if_neg (by omega)]; omega
    · rw [push_X hk, csz_pushX, ih, if_pos hk]
    · rw [push_P hk, csz_pushP, ih, if_neg (by omega)]; omega
theorem psz_norm (o : List Cp) (h : Good o) : psz (normS o) = psz o := by
  have h1 := sizes h
  have h2 := sizes (norm_good h)
  rw [in_norm o h, out_norm o h, csz_norm o h] at h2
  omega
end Go.Proofs.Ytlgdllbhddnokab

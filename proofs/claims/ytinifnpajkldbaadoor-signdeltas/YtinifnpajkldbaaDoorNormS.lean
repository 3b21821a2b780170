/- An operation written in the one way, as a function of lists; of no program. -/
import Derived.Test.YtinifnpajkldbaaDoorPk1
namespace Go.Proofs.YtinifnpajkldbaaDoor
set_option linter.unusedSimpArgs false
set_option linter.unusedVariables false

def Em : ByteArray := ⟨#[]⟩
def pK (n : Int) : Cp := ⟨1, n, Em⟩
def pP (s : ByteArray) : Cp := ⟨2, 0, s⟩
def pX (n : Int) : Cp := ⟨3, n, Em⟩

def pushK (n : Int) : List Cp → List Cp
  | [] => [pK n]
  | d :: r => if d.k = 1 then pK (n + d.n) :: r else pK n :: d :: r
def pushP (s : ByteArray) : List Cp → List Cp
  | [] => [pP s]
  | d :: r => if d.k = 2 then pP (s ++ d.s) :: r else pP s :: d :: r
/-- A Cut ahead of parts that begin with no Put. -/
def pushX0 (n : Int) : List Cp → List Cp
  | [] => [pX n]
  | d :: r => if d.k = 3 then pX (n + d.n) :: r else pX n :: d :: r
def pushX (n : Int) : List Cp → List Cp
  | [] => [pX n]
  | d :: r => if d.k = 2 then d :: pushX0 n r else pushX0 n (d :: r)
def push (c : Cp) (r : List Cp) : List Cp := if c.k = 1 then pushK c.n r else if c.k = 2 then pushP c.s r else pushX c.n r
/-- Normal. -/
def normS : List Cp → List Cp
  | [] => []
  | c :: o => push c (normS o)

theorem push_K {c : Cp} (h : c.k = 1) (r : List Cp) : push c r = pushK c.n r := by rw [push, if_pos h]
theorem push_P {c : Cp} (h : c.k = 2) (r : List Cp) : push c r = pushP c.s r := by rw [push, if_neg (by omega), if_pos h]
theorem push_X {c : Cp} (h : c.k = 3) (r : List Cp) : push c r = pushX c.n r := by rw [push, if_neg (by omega), if_neg (by omega)]

theorem ba_assoc (a b c : ByteArray) : (a ++ b) ++ c = a ++ (b ++ c) := ByteArray.append_assoc

theorem K_K (a b : Int) (r : List Cp) : pushK a (pushK b r) = pushK (a + b) r := by
  cases r with
  | nil => simp [pushK, pK]
  | cons d r =>
    by_cases h : d.k = 1
    · simp [pushK, pK, h, Int.add_assoc]
    · simp [pushK, pK, h]
theorem P_P (a b : ByteArray) (r : List Cp) : pushP a (pushP b r) = pushP (a ++ b) r := by
  cases r with
  | nil => simp [pushP, pP]
  | cons d r =>
    by_cases h : d.k = 2
    · simp [pushP, pP, h, ba_assoc]
    · simp [pushP, pP, h]
theorem X0_X0 (a b : Int) (r : List Cp) : pushX0 a (pushX0 b r) = pushX0 (a + b) r := by
  cases r with
  | nil => simp [pushX0, pX]
  | cons d r =>
    by_cases h : d.k = 3
    · simp [pushX0, pX, h, Int.add_assoc]
    · simp [pushX0, pX, h]
theorem X_of_X0 (a b : Int) (r : List Cp) : pushX a (pushX0 b r) = pushX0 a (pushX0 b r) := by
  cases r with
  | nil => simp [pushX, pushX0, pX]
  | cons d r =>
    by_cases h : d.k = 3
    · simp [pushX, pushX0, pX, h]
    · simp [pushX, pushX0, pX, h]
theorem X_X (a b : Int) (r : List Cp) : pushX a (pushX b r) = pushX (a + b) r := by
  cases r with
  | nil => simp [pushX, pushX0, pX]
  | cons d r =>
    by_cases h : d.k = 2
    · simp only [pushX, h, if_true, X0_X0]
    · have e1 : pushX b (d :: r) = pushX0 b (d :: r) := by simp only [pushX, h, if_false]
      have e2 : pushX (a + b) (d :: r) = pushX0 (a + b) (d :: r) := by simp only [pushX, h, if_false]
      rw [e1, e2, X_of_X0, X0_X0]
theorem X_P (n : Int) (s : ByteArray) (r : List Cp) : pushX n (pushP s r) = pushP s (pushX n r) := by
  cases r with
  | nil => simp [pushX, pushX0, pushP, pX, pP]
  | cons d r =>
    by_cases h : d.k = 2
    · simp [pushX, pushP, pP, h]
    · by_cases h3 : d.k = 3
      · simp [pushX, pushX0, pushP, pP, pX, h, h3]
      · simp [pushX, pushX0, pushP, pP, pX, h, h3]

/-- What r begins with is no Keep. -/
def NoK (r : List Cp) : Prop := ∀ d ∈ r.head?, d.k ≠ 1
/-- r is empty or begins with a Keep. -/
def IsK (r : List Cp) : Prop := ∀ d ∈ r.head?, d.k = 1

theorem NoK_P (s : ByteArray) (r : List Cp) : NoK (pushP s r) := by
  cases r with
  | nil => simp [NoK, pushP, pP]
  | cons d r => by_cases h : d.k = 2 <;> simp [NoK, pushP, pP, h]
theorem NoK_X (n : Int) (r : List Cp) : NoK (pushX n r) := by
  cases r with
  | nil => simp [NoK, pushX, pX]
  | cons d r =>
    by_cases h : d.k = 2
    · simp [NoK, pushX, h]
    · by_cases h3 : d.k = 3 <;> simp [NoK, pushX, pushX0, pX, h, h3]
theorem IsK_K (n : Int) (r : List Cp) : IsK (pushK n r) := by
  cases r with
  | nil => simp [IsK, pushK, pK]
  | cons d r => by_cases h : d.k = 1 <;> simp [IsK, pushK, pK, h]
theorem K_at {n : Int} {r : List Cp} (h : NoK r) : pushK n r = pK n :: r := by
  cases r with
  | nil => rfl
  | cons d r => simp [pushK, h d (by simp)]
theorem P_at {s : ByteArray} {r : List Cp} (h : IsK r) : pushP s r = pP s :: r := by
  cases r with
  | nil => rfl
  | cons d r => simp [pushP, h d (by simp)]
theorem X_at {n : Int} {r : List Cp} (h : IsK r) : pushX n r = pX n :: r := by
  cases r with
  | nil => rfl
  | cons d r => simp [pushX, pushX0, h d (by simp)]

theorem NoK_norm {o : List Cp} (h : Good o) (hh : NoK o) : NoK (normS o) := by
  cases o with
  | nil => exact hh
  | cons c o =>
    have hc := hh c (by simp)
    rcases (h c (by simp)).kind with hk | hk | hk
    · exact absurd hk hc
    · rw [normS, push_P hk]; exact NoK_P _ _
    · rw [normS, push_X hk]; exact NoK_X _ _

/-- All that is put, and that a run without a Keep is. -/
def putsL (l : List Cp) : List UInt8 := l.flatMap fun c => if c.k = 2 then c.s.data.toList else []
def changedS (l : List Cp) : List Cp := (if putsL l = [] then [] else [pP ⟨(putsL l).toArray⟩]) ++ (if inS l = 0 then [] else [pX (inS l)])
def keptS (l : List Cp) : List Cp := if l = [] then [] else [pK (inS l)]

theorem norm_append (a b : List Cp) : normS (a ++ b) = a.foldr push (normS b) := by
  induction a with
  | nil => rfl
  | cons c a ih => rw [List.cons_append, normS, ih]; rfl

theorem kept_norm (m r : List Cp) (hm : ∀ c ∈ m, c.k = 1) (hr : NoK r) : m.foldr push r = keptS m ++ r := by
  induction m with
  | nil => rfl
  | cons c m ih =>
    have hc := hm c (by simp)
    have ho : c.over = c.n := by rw [Cp.over, if_pos (.inl hc)]
    rw [List.foldr_cons, ih (fun d hd => hm d (by simp [hd])), push_K hc]
    by_cases h0 : m = []
    · subst h0
      rw [show keptS [] = [] from rfl, List.nil_append, K_at hr]
      simp [keptS, inS, ho]
    · rw [keptS, if_neg h0, keptS, if_neg (by simp)]
      simp only [List.cons_append, List.nil_append, pushK, pK, if_true, inS, ho]

theorem ba_mk (a b : List UInt8) : (⟨a.toArray⟩ : ByteArray) ++ ⟨b.toArray⟩ = ⟨(a ++ b).toArray⟩ := by
  apply ByteArray.ext; simp
theorem ba_eta (s : ByteArray) : (⟨s.data.toList.toArray⟩ : ByteArray) = s := by
  apply ByteArray.ext; simp

theorem changed_norm (l r : List Cp) (hg : Good l) (hl : ∀ c ∈ l, c.k ≠ 1) (hr : IsK r) : l.foldr push r = changedS l ++ r := by
  induction l with
  | nil => simp [changedS, putsL, inS]
  | cons c l ih =>
    have hc := hl c (by simp)
    have hok := hg c (by simp)
    have hg' : Good l := fun d hd => hg d (by simp [hd])
    have hn0 : 0 ≤ inS l := by
      clear ih hl
      induction l with
      | nil => simp [inS]
      | cons d l ih2 =>
        have := ih2 (fun e he => by rcases List.mem_cons.1 he with rfl | he; exact hok; exact hg e (by simp [he])) (fun e he => hg' e (by simp [he]))
        rcases hg' d (by simp) with ⟨h1, h2, _⟩ | ⟨h1, h2, _⟩
        · have : d.over = d.n := by rw [Cp.over, if_pos h1]
          simp only [inS]; omega
        · have : d.over = 0 := by rw [Cp.over, if_neg (by omega)]
          simp only [inS]; omega
    rw [List.foldr_cons, ih hg' (fun d hd => hl d (by simp [hd]))]
    rcases hok with ⟨hk, h1, _⟩ | ⟨hk, _, h1⟩
    · have hk3 : c.k = 3 := by omega
      have ho : c.over = c.n := by rw [Cp.over, if_pos hk]
      have hp : putsL (c :: l) = putsL l := by simp [putsL, hk3]
      have hne : c.n + inS l ≠ 0 := by omega
      rw [push_X hk3]
      unfold changedS
      rw [hp]
      simp only [inS, ho, if_neg hne]
      by_cases hpl : putsL l = []
      · simp only [if_pos hpl, List.nil_append]
        by_cases hz : inS l = 0
        · rw [if_pos hz, List.nil_append, X_at hr, hz]; simp
        · rw [if_neg hz]; simp [pushX, pushX0, pX]
      · simp only [if_neg hpl]
        by_cases hz : inS l = 0
        · rw [if_pos hz, hz, Int.add_zero, List.append_nil]
          have : pushX0 c.n r = pX c.n :: r := by
            cases r with
            | nil => rfl
            | cons d r => simp [pushX0, hr d (by simp)]
          simp [pushX, pP, this]
        · rw [if_neg hz]; simp [pushX, pushX0, pX, pP]
    · have ho : c.over = 0 := by rw [Cp.over, if_neg (by omega)]
      have hp : putsL (c :: l) = c.s.data.toList ++ putsL l := by simp [putsL, hk]
      have hne : c.s.data.toList ++ putsL l ≠ [] := by
        intro h
        have := congrArg List.length h
        simp at this
        have : c.s.size = 0 := by simp [ByteArray.size, this]
        omega
      rw [push_P hk]
      unfold changedS
      rw [hp]
      simp only [inS, ho, if_neg hne, Int.zero_add]
      by_cases hpl : putsL l = []
      · simp only [if_pos hpl, List.nil_append, hpl, List.append_nil, ba_eta]
        by_cases hz : inS l = 0
        · simp [hz, P_at hr]
        · simp [hz, pushP, pX]
      · simp only [if_neg hpl]
        simp only [List.cons_append, List.nil_append, pushP, pP, if_true]
        rw [← ba_mk, ba_eta]
end Go.Proofs.YtinifnpajkldbaaDoor

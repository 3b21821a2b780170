/- Operations as lists: how long, what they make, written in the one way; of no program. -/
import Derived.Test.YtajkjbhfkeakhaaCp
namespace Go.Proofs.Ytajkjbhfkeakhaa
set_option linter.unusedSimpArgs false
set_option linter.unusedVariables false

theorem size_list (s : ByteArray) : s.size = s.data.toList.length := by simp
theorem em0 {s : ByteArray} (h : s.size = 0) : s = ⟨#[]⟩ := by
  apply ByteArray.ext
  have : s.data.size = 0 := h
  exact Array.eq_empty_of_size_eq_zero this
def Cp.over (c : Cp) : Int := if c.k = 1 ∨ c.k = 3 then c.n else 0
def Cp.outl (c : Cp) : Int := (c.s.size : Int) + (if c.k = 1 then c.n else 0)
def inS : List Cp → Int
  | [] => 0
  | c :: o => c.over + inS o
def outS : List Cp → Int
  | [] => 0
  | c :: o => c.outl + outS o

theorem inS_append (o p : List Cp) : inS (o ++ p) = inS o + inS p := by
  induction o with
  | nil => simp [inS]
  | cons c o ih => simp only [List.cons_append, inS, ih]; omega
theorem outS_append (o p : List Cp) : outS (o ++ p) = outS o + outS p := by
  induction o with
  | nil => simp [outS]
  | cons c o ih => simp only [List.cons_append, outS, ih]; omega
theorem take_succ' {α : Type} (o : List α) (j : Nat) (c : α) (h : o[j]? = some c) : o.take (j + 1) = o.take j ++ [c] := by
  rw [List.take_add_one, h]; rfl
theorem inS_take_succ (o : List Cp) (j : Nat) (c : Cp) (h : o[j]? = some c) : inS (o.take (j + 1)) = inS (o.take j) + c.over := by
  rw [take_succ' o j c h, inS_append]; simp [inS]
theorem outS_take_succ (o : List Cp) (j : Nat) (c : Cp) (h : o[j]? = some c) : outS (o.take (j + 1)) = outS (o.take j) + c.outl := by
  rw [take_succ' o j c h, outS_append]; simp [outS]

/-- Not too great. -/
def Fit (o : List Cp) : Prop := o.length ≤ 1048576 ∧ ∀ c ∈ o, 0 ≤ c.n ∧ c.n ≤ 1099511627776 ∧ c.s.size ≤ 1099511627776

theorem Cp.over_le {c : Cp} (h : 0 ≤ c.n ∧ c.n ≤ 1099511627776 ∧ c.s.size ≤ 1099511627776) : 0 ≤ c.over ∧ c.over ≤ 1099511627776 := by
  unfold Cp.over; split <;> omega
theorem Cp.outl_le {c : Cp} (h : 0 ≤ c.n ∧ c.n ≤ 1099511627776 ∧ c.s.size ≤ 1099511627776) : 0 ≤ c.outl ∧ c.outl ≤ 2199023255552 := by
  unfold Cp.outl; split <;> omega
theorem inS_le : ∀ (o : List Cp), (∀ c ∈ o, 0 ≤ c.n ∧ c.n ≤ 1099511627776 ∧ c.s.size ≤ 1099511627776) → 0 ≤ inS o ∧ inS o ≤ o.length * 1099511627776
  | [], _ => by simp [inS]
  | c :: o, h => by
    have h1 := Cp.over_le (h c (by simp))
    have h2 := inS_le o (fun d hd => h d (by simp [hd]))
    simp only [inS, List.length_cons]
    omega
theorem outS_le : ∀ (o : List Cp), (∀ c ∈ o, 0 ≤ c.n ∧ c.n ≤ 1099511627776 ∧ c.s.size ≤ 1099511627776) → 0 ≤ outS o ∧ outS o ≤ o.length * 2199023255552
  | [], _ => by simp [outS]
  | c :: o, h => by
    have h1 := Cp.outl_le (h c (by simp))
    have h2 := outS_le o (fun d hd => h d (by simp [hd]))
    simp only [outS, List.length_cons]
    omega
theorem Fit.take {o : List Cp} (h : Fit o) (j : Nat) : Fit (o.take j) := ⟨by rw [List.length_take]; have := h.1; omega, fun c hc => h.2 c (List.mem_of_mem_take hc)⟩
theorem Fit.drop {o : List Cp} (h : Fit o) (j : Nat) : Fit (o.drop j) := ⟨by rw [List.length_drop]; have := h.1; omega, fun c hc => h.2 c (List.mem_of_mem_drop hc)⟩
theorem Fit.at {o : List Cp} (h : Fit o) {j : Nat} {c : Cp} (hj : o[j]? = some c) : 0 ≤ c.n ∧ c.n ≤ 1099511627776 ∧ c.s.size ≤ 1099511627776 := h.2 c (List.mem_of_getElem? hj)
theorem Fit.inB {o : List Cp} (h : Fit o) (j : Nat) : 0 ≤ inS (o.take j) ∧ inS (o.take j) ≤ 1152921504606846976 := by
  have := inS_le _ (h.take j).2
  have := (h.take j).1
  omega
theorem Fit.outB {o : List Cp} (h : Fit o) (j : Nat) : 0 ≤ outS (o.take j) ∧ outS (o.take j) ≤ 2305843009213693952 := by
  have := outS_le _ (h.take j).2
  have := (h.take j).1
  omega
theorem take_all' {α : Type} (o : List α) : o.take o.length = o := List.take_length

/-- A part that does something: a Keep or a Cut of at least one byte, or a Put of at least one. -/
def Cp.Ok (c : Cp) : Prop := ((c.k = 1 ∨ c.k = 3) ∧ 1 ≤ c.n ∧ c.s.size = 0) ∨ (c.k = 2 ∧ c.n = 0 ∧ 1 ≤ c.s.size)
def Good (o : List Cp) : Prop := ∀ c ∈ o, c.Ok
theorem Good.at {o : List Cp} (h : Good o) {j : Nat} {c : Cp} (hj : o[j]? = some c) : c.Ok := h c (List.mem_of_getElem? hj)
theorem Cp.Ok.kind {c : Cp} (h : c.Ok) : c.k = 1 ∨ c.k = 2 ∨ c.k = 3 := by
  rcases h with ⟨h | h, _⟩ | ⟨h, _⟩ <;> simp [h]
theorem Good.append {o p : List Cp} (h : Good o) (k : Good p) : Good (o ++ p) := fun c hc => (List.mem_append.1 hc).elim (h c) (k c)
theorem Good.left {o p : List Cp} (h : Good (o ++ p)) : Good o := fun c hc => h c (List.mem_append.2 (.inl hc))
theorem Good.right {o p : List Cp} (h : Good (o ++ p)) : Good p := fun c hc => h c (List.mem_append.2 (.inr hc))
theorem Good.take {o : List Cp} (h : Good o) (j : Nat) : Good (o.take j) := fun c hc => h c (List.mem_of_mem_take hc)
theorem Good.drop {o : List Cp} (h : Good o) (j : Nat) : Good (o.drop j) := fun c hc => h c (List.mem_of_mem_drop hc)

/-- What an operation makes of bytes. -/
def applyS : List UInt8 → List Cp → List UInt8
  | _, [] => []
  | d, c :: o => if c.k = 1 then d.take c.n.toNat ++ applyS (d.drop c.n.toNat) o else if c.k = 2 then c.s.data.toList ++ applyS d o else applyS (d.drop c.n.toNat) o
/-- Apply's answer. -/
def apS (d : ByteArray) (o : List Cp) : ByteArray × Int :=
  if inS o ≠ d.size then (⟨#[]⟩, 7) else if 120 < outS o then (⟨#[]⟩, 5) else (⟨(applyS d.data.toList o).toArray⟩, 0)

theorem drop_cons' {α : Type} (o : List α) (j : Nat) (c : α) (h : o[j]? = some c) : o.drop j = c :: o.drop (j + 1) := by
  have hj := (List.getElem?_eq_some_iff.1 h)
  rw [List.drop_eq_getElem_cons hj.1, hj.2]
theorem inS_split (o : List Cp) (j : Nat) : inS o = inS (o.take j) + inS (o.drop j) := by rw [← inS_append, List.take_append_drop]
theorem outS_split (o : List Cp) (j : Nat) : outS o = outS (o.take j) + outS (o.drop j) := by rw [← outS_append, List.take_append_drop]

theorem Good.inS_nn : ∀ {o : List Cp}, Good o → 0 ≤ inS o
  | [], _ => by simp [inS]
  | c :: o, h => by
    have h2 := Good.inS_nn (o := o) (fun d hd => h d (by simp [hd]))
    have : 0 ≤ c.over := by
      rcases h c (by simp) with ⟨hk, hn, hs⟩ | ⟨hk, hn, hs⟩
      · rw [Cp.over, if_pos hk]; omega
      · rw [Cp.over, if_neg (by omega)]; omega
    rw [inS]; omega
theorem applyS_length : ∀ (o : List Cp) (d : List UInt8), Good o → inS o ≤ d.length → ((applyS d o).length : Int) = outS o
  | [], d, _, _ => by simp [applyS, outS]
  | c :: o, d, hg, hi => by
    have hg' : Good o := fun e he => hg e (by simp [he])
    have hnn : 0 ≤ inS o := hg'.inS_nn
    rw [inS] at hi
    rw [outS]
    rcases hg c (by simp) with ⟨hk, hn, hs⟩ | ⟨hk, hn, hs⟩
    · have ho : c.over = c.n := by rw [Cp.over, if_pos hk]
      obtain ⟨m, hm⟩ : ∃ m : Nat, c.n = (m : Int) := Int.eq_ofNat_of_zero_le (by omega)
      have ih := applyS_length o (d.drop m) hg' (by rw [List.length_drop]; omega)
      rcases hk with hk | hk
      · rw [applyS, if_pos hk, Cp.outl, if_pos hk, hs, hm, Int.toNat_natCast, List.length_append, List.length_take]
        omega
      · rw [applyS, if_neg (by omega), if_neg (by omega), Cp.outl, if_neg (by omega), hs, hm, Int.toNat_natCast, ih]
        simp
    · have ho : c.over = 0 := by rw [Cp.over, if_neg (by omega)]
      have ih := applyS_length o d hg' (by omega)
      rw [applyS, if_neg (by omega), if_pos hk, Cp.outl, if_neg (by omega), List.length_append]
      have : c.s.data.toList.length = c.s.size := by simp
      omega

/-- The three cells of one part. -/
theorem RC.at {w : World} {g off : Nat} {o : List Cp} (h : w.rangeAt g off (C o)) {j : Nat} {c : Cp} (hj : o[j]? = some c) : w.rangeAt g (off + j * 3) c.vals := fun i u hu => by
  have := h _ _ (C_get o j c hj i u hu)
  rwa [← Nat.add_assoc] at this
theorem RC.cells {w : World} {g off : Nat} {o : List Cp} (h : w.rangeAt g off (C o)) {j : Nat} {c : Cp} (hj : o[j]? = some c) :
    w.cell? ⟨g, off + j * 3, none⟩ = some (.int .i64 c.k) ∧ w.cell? ⟨g, off + j * 3 + 1, none⟩ = some (.int .i64 c.n) ∧ w.cell? ⟨g, off + j * 3 + 2, none⟩ = some (.string c.s) :=
  ⟨RC.at h hj 0 _ rfl, RC.at h hj 1 _ rfl, RC.at h hj 2 _ rfl⟩
end Go.Proofs.Ytajkjbhfkeakhaa

/- Slices of addresses: as cells, read, of the call's own, cut, appended. -/
import Derived.Test.YtjedajfemhpogaaHasK
import Derived.Deep.DeepCutAuto
import Derived.Test.YtjedajfemhpogaaUserS
namespace Go.Proofs.Ytjedajfemhpogaa
open Go.RowKit
set_option linter.unusedSimpArgs false
set_option linter.unusedVariables false

def adV (a : Ad) : List Value := [.int .i64 a.1, .int .i64 a.2]
/-- The cells of addresses. -/
def A2 (l : List Ad) : List Value := l.flatMap adV
theorem A2_cons (a : Ad) (l : List Ad) : A2 (a :: l) = adV a ++ A2 l := rfl
theorem A2_append (l m : List Ad) : A2 (l ++ m) = A2 l ++ A2 m := by simp [A2]
theorem A2_length (l : List Ad) : (A2 l).length = l.length * 2 := by
  induction l with
  | nil => rfl
  | cons a l ih => rw [A2_cons, List.length_append, ih]; simp [adV]; omega
theorem A2_one (l : List Ad) : ∀ u ∈ A2 l, u.oneCell' = true := by
  intro u hu
  simp only [A2, List.mem_flatMap, adV, List.mem_cons, List.not_mem_nil, or_false] at hu
  obtain ⟨c, _, rfl | rfl⟩ := hu <;> rfl
theorem A2_get : ∀ (l : List Ad) (j : Nat) (a : Ad), l[j]? = some a → ∀ i u, (adV a)[i]? = some u → (A2 l)[j * 2 + i]? = some u
  | [], j, a, h, i, u, hu => by simp at h
  | b :: l, 0, a, h, i, u, hu => by
    cases h
    have hi : i < (adV b).length := (List.getElem?_eq_some_iff.1 hu).1
    rw [A2_cons, Nat.zero_mul, Nat.zero_add, List.getElem?_append_left hi]
    exact hu
  | b :: l, j + 1, a, h, i, u, hu => by
    rw [A2_cons, List.getElem?_append_right (by simp [adV]; omega)]
    have := A2_get l j a (by simpa using h) i u hu
    rw [← this]
    congr 1
    simp [adV]; omega

/-- The slice v reads as the addresses l. -/
def RA (w : World) (v : Value) (l : List Ad) : Prop :=
  (∃ ao cap, v = .slice ao 0 cap ∧ l = [] ∧ (ao = none → cap = 0)) ∨ ∃ g off cap, v = .slice (some ⟨g, off, none⟩) l.length cap ∧ l.length ≤ cap ∧ w.rangeAt g off (A2 l) ∧ g < w.heap.size
/-- v is nil, or the addresses l in a block from Bd on. -/
def HA (w : World) (Bd : Nat) (v : Value) (l : List Ad) : Prop := HasK 2 w 29 Bd v l.length (A2 l)
section
variable {w w' : World} {Bd : Nat} {v : Value} {l : List Ad}
theorem RA.nil (w : World) : RA w (.slice none 0 0) [] := .inl ⟨none, 0, rfl, rfl, fun _ => rfl⟩
theorem RA.later (h : RA w v l) (hb : Below w.heap.size w w') : RA w' v l := by
  rcases h with h | ⟨g, off, cap, rfl, h1, h2, h3⟩
  · exact .inl h
  · exact .inr ⟨g, off, cap, rfl, h1, fun j u hj => cell_later hb (h2 j u hj), Nat.lt_of_lt_of_le h3 hb.size⟩
theorem RA.form (h : RA w v l) : ∃ ao cap, v = .slice ao l.length cap := by
  rcases h with ⟨ao, cap, rfl, rfl, _⟩ | ⟨g, off, cap, rfl, _⟩
  · exact ⟨_, _, rfl⟩
  · exact ⟨_, _, rfl⟩
theorem RA.place (h : RA w v l) (h0 : 0 < l.length) : ∃ g off cap, v = .slice (some ⟨g, off, none⟩) l.length cap ∧ l.length ≤ cap ∧ w.rangeAt g off (A2 l) ∧ g < w.heap.size := by
  rcases h with ⟨ao, cap, rfl, rfl, _⟩ | h
  · simp at h0
  · exact h
/-- The two cells of one address. -/
theorem RA.cells {g off : Nat} (h : w.rangeAt g off (A2 l)) {j : Nat} {a : Ad} (hj : l[j]? = some a) :
    w.cell? ⟨g, off + j * 2, none⟩ = some (.int .i64 a.1) ∧ w.cell? ⟨g, off + j * 2 + 1, none⟩ = some (.int .i64 a.2) :=
  ⟨h _ _ (A2_get l j a hj 0 _ rfl), by have := h _ _ (A2_get l j a hj 1 _ rfl); rwa [← Nat.add_assoc] at this⟩
theorem HA.nil (w : World) (Bd : Nat) : HA w Bd (.slice none 0 0) [] := HasK.nil _ _ _ _
theorem HA.later (h : HA w Bd v l) (hb : Below w.heap.size w w') : HA w' Bd v l := HasK.later h hb
theorem HA.mono (h : HA w Bd v l) {B2 : Nat} (hb : B2 ≤ Bd) : HA w B2 v l := HasK.mono h hb
theorem HA.form (h : HA w Bd v l) : ∃ a cap, v = .slice a l.length cap := HasK.form h
theorem HA.reads (h : HA w Bd v l) : RA w v l := by
  have h0 := h
  rcases h with ⟨rfl, h1, h2⟩ | ⟨g, cap, cur, rfl, h1, h2, h3, h4, h5, h6⟩
  · exact .inl ⟨none, 0, rfl, List.eq_nil_of_length_eq_zero h1, fun _ => rfl⟩
  · exact .inr ⟨g, 0, cap, rfl, h3, fun j u hj => by rw [Nat.zero_add]; exact HasK.cell h0 hj, (Array.getElem?_eq_some_iff.1 h4).1⟩
end
theorem Try.infoAddr : (Try.prog.info? 29).map (fun i => (i.size, i.bytes, i.zero.map fun z => z.cells.size)) = some (2, 16, some 2) := by kernel_rfl
theorem info_addr : ∃ i z, Try.prog.info? 29 = some i ∧ i.zero = some z ∧ i.size = 2 ∧ z.cells.size = 2 ∧ i.bytes = 16 := by
  have h := Try.infoAddr
  cases hi : Try.prog.info? 29 with
  | none => simp [hi] at h
  | some i =>
    cases hz : i.zero with
    | none => simp [hi, hz] at h
    | some z =>
      simp [hi, hz] at h
      exact ⟨i, z, rfl, hz, h.1, h.2.2, h.2.1⟩
/-- What reads as addresses, as what an append takes. -/
theorem RA.src {w : World} {v : Value} {l : List Ad} (h : RA w v l) : Src Try.prog 2 24 v l.length (A2 l) w := by
  rcases h with ⟨ao, cap, rfl, rfl, h0⟩ | ⟨g, off, cap, rfl, h1, h2, h3⟩
  · cases ao with
    | none =>
      have := h0 rfl
      subst this
      exact Src.ofNil w Try.underlying24 0
    | some ad => exact Src.ofSlice w Try.underlying24 ad 0 cap [] rfl (fun j u hj => by simp at hj) (fun u hu => by simp at hu)
  · exact Src.ofSlice w Try.underlying24 ⟨g, off, none⟩ l.length cap (A2 l) (A2_length l) (fun j u hj => by rw [Addr.add_lit]; exact h2 j u hj) (A2_one l)
/-- An append of addresses; the other blocks stay. -/
theorem wpList_append_a {w : World} {ops : Array Oper} {rest : List Oper} {op : Oper} {a : Act} {Q : Exit → Act → World → Prop} (hgd : op.guard = none) (s x : Operand)
    (ho : op.op = .call { callee := .builtin .append, args := #[s, x], argTypes := #[24, 24] })
    (Bd : Nat) (v : Value) (l : List Ad) (hs : a.eval s = v) (hown : HA w Bd v l) (hBd : Bd ≤ w.heap.size)
    (y : Value) (p : List Ad) (hx : a.eval x = y) (hsrc : RA w y p) (hb : l.length + p.length ≤ 4398046511104)
    (h : ∀ v' w', HA w' Bd v' (l ++ p) → Below Bd w w' → (∀ k, k < w.heap.size → blkOf v ≠ some k → w'.heap[k]? = w.heap[k]?) → (∀ k, blkOf v' = some k → blkOf v = some k ∨ w.heap.size ≤ k) → wpList Try.prog ops Q rest (a.put op.dst v') w') : wpList Try.prog ops Q (op :: rest) a w := by
  obtain ⟨i, z, hi, hz, hsz, hzs, hby⟩ := info_addr
  refine wpList_append_k 2 16 hgd s x 24 24 ho 29 i z Try.underlying24 hi hz hsz hzs hby Bd v _ _ hs hown hBd y _ _ hx hsrc.src (by omega) (by omega) ?_
  intro v' w' hH hB hK hK2
  refine h v' w' ?_ hB hK hK2
  unfold HA
  rw [List.length_append, A2_append]
  exact hH
/-- Addresses that are built at once. -/
theorem addrs_new (w : World) (l : List Ad) (n : Nat) (hn : l.length = n) : HA (w.alloc (.cells (A2 l).toArray 29)) w.heap.size (.slice (some ⟨w.heap.size, 0, none⟩) n n) l := by
  subst hn
  exact HasK.built (heap_alloc_new w _) (A2_length l) (Nat.le_refl _)
theorem addr_new (w : World) (a : Ad) (Bd : Nat) (hB : Bd ≤ w.heap.size) : HA (w.alloc (.cells (adV a).toArray 29)) Bd (.slice (some ⟨w.heap.size, 0, none⟩) 1 1) [a] :=
  HasK.built (by rw [show A2 [a] = adV a by simp [A2]]; exact heap_alloc_new w _) (by rw [A2_length]; rfl) hB
/-- l[:n]. -/
theorem cut_a1 {w : World} {v : Value} {l : List Ad} (h : RA w v l) (n : Nat) (hn : n ≤ l.length) :
    ∃ ao cap, (∀ wx, (Instr.slice 24 v none (some (.int .i64 (n : Int))) none).run Try.prog wx = .ok (.slice ao n cap) wx) ∧ RA w (.slice ao n cap) (l.take n) := by
  have hl : (l.take n).length = n := by rw [List.length_take]; omega
  rcases h with ⟨ao, cap, rfl, rfl, h0⟩ | ⟨g, off, cap, rfl, h1, hr, hg⟩
  · have hn0 : n = 0 := by simpa using hn
    subst hn0
    by_cases hc : cap = 0
    · subst hc
      exact ⟨ao, 0, fun wx => by go_simp, .inl ⟨ao, 0, rfl, by simp, fun _ => rfl⟩⟩
    · have hne : ao ≠ none := fun e => hc (h0 e)
      obtain ⟨ad, rfl⟩ : ∃ ad, ao = some ad := by cases ao with | none => exact absurd rfl hne | some ad => exact ⟨ad, rfl⟩
      exact ⟨some ad, cap, fun wx => by go_simp, .inl ⟨some ad, cap, rfl, by simp, fun e => by cases e⟩⟩
  · by_cases hc : cap = 0
    · have hn0 : n = 0 := by omega
      subst hn0 hc
      exact ⟨some ⟨g, off, none⟩, 0, fun wx => by go_simp, .inl ⟨some ⟨g, off, none⟩, 0, rfl, by simp, fun _ => rfl⟩⟩
    · refine ⟨some ⟨g, off, none⟩, cap, fun wx => ?_, .inr ⟨g, off, cap, by rw [hl], by rw [hl]; omega, fun j u hj => ?_, hg⟩⟩
      · have hkc : (n : Int) ≤ (cap : Int) := by omega
        go_simp
      · refine hr j u ?_
        have e : A2 l = A2 (l.take n) ++ A2 (l.drop n) := by rw [← A2_append, List.take_append_drop]
        rw [e, List.getElem?_append_left (List.getElem?_eq_some_iff.1 hj).1]
        exact hj
/-- l[p:]. -/
theorem cut_a2 {w : World} {v : Value} {l : List Ad} (h : RA w v l) (p : Nat) (hp : p ≤ l.length) :
    ∃ ao cap, (∀ wx, (Instr.slice 24 v (some (.int .i64 (p : Int))) none none).run Try.prog wx = .ok (.slice ao (l.length - p) cap) wx) ∧ RA w (.slice ao (l.length - p) cap) (l.drop p) := by
  have hl : (l.drop p).length = l.length - p := List.length_drop
  rcases h with ⟨ao, cap, rfl, rfl, h0⟩ | ⟨g, off, cap, rfl, h1, hr, hg⟩
  · have hp0 : p = 0 := by simpa using hp
    subst hp0
    by_cases hc : cap = 0
    · subst hc
      exact ⟨ao, 0, fun wx => by go_simp, .inl ⟨ao, 0, rfl, by simp, fun _ => rfl⟩⟩
    · have hne : ao ≠ none := fun e => hc (h0 e)
      obtain ⟨ad, rfl⟩ : ∃ ad, ao = some ad := by cases ao with | none => exact absurd rfl hne | some ad => exact ⟨ad, rfl⟩
      exact ⟨some ad, cap, fun wx => by go_simp, .inl ⟨some ad, cap, rfl, by simp, fun e => by cases e⟩⟩
  · by_cases hc : cap = p
    · subst hc
      have hlc : l.length = cap := by omega
      refine ⟨some ⟨g, off, none⟩, 0, fun wx => ?_, .inl ⟨some ⟨g, off, none⟩, 0, by rw [hlc, Nat.sub_self], by rw [← hlc, List.drop_length], fun _ => rfl⟩⟩
      rw [hlc]
      go_simp
    · refine ⟨some ⟨g, off + p * 2, none⟩, cap - p, fun wx => ?_, .inr ⟨g, off + p * 2, cap - p, by rw [hl], by rw [hl]; omega, fun j u hj => ?_, hg⟩⟩
      · have hkc : (p : Int) ≤ (l.length : Int) := by omega
        go_simp
      · have := hr (p * 2 + j) u (by
          have e : A2 l = A2 (l.take p) ++ A2 (l.drop p) := by rw [← A2_append, List.take_append_drop]
          have e2 : (A2 (l.take p)).length = p * 2 := by rw [A2_length, List.length_take]; congr 1; omega
          rw [e, List.getElem?_append_right (by omega), e2, Nat.add_sub_cancel_left]
          exact hj)
        rwa [← Nat.add_assoc] at this
end Go.Proofs.Ytjedajfemhpogaa

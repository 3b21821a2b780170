/- What the one way of writing keeps: it does the same, is as long, and is its own; of no program. -/
import Derived.Test.YtlgdllbhddnokabNormS
namespace Go.Proofs.Ytlgdllbhddnokab
set_option linter.unusedSimpArgs false
set_option linter.unusedVariables false

def Canon (c : Cp) : Prop := (∃ n, c = pK n) ∨ (∃ s, c = pP s) ∨ ∃ n, c = pX n
def CanonL (r : List Cp) : Prop := ∀ d ∈ r, Canon d
def NFp (c d : Cp) : Prop := c.k ≠ d.k ∧ ¬ (c.k = 3 ∧ d.k = 2)
def NF : List Cp → Prop
  | [] => True
  | c :: r => (∀ d ∈ r.head?, NFp c d) ∧ NF r

theorem CanonL.tail {c : Cp} {r : List Cp} (h : CanonL (c :: r)) : CanonL r := fun d hd => h d (by simp [hd])
theorem CanonL.head {c : Cp} {r : List Cp} (h : CanonL (c :: r)) : Canon c := h c (by simp)
theorem CanonL.mk {c : Cp} {r : List Cp} (hc : Canon c) (h : CanonL r) : CanonL (c :: r) := fun d hd => by
  rcases List.mem_cons.1 hd with rfl | hd
  · exact hc
  · exact h d hd
theorem canK (n : Int) : Canon (pK n) := .inl ⟨n, rfl⟩
theorem canP (s : ByteArray) : Canon (pP s) := .inr (.inl ⟨s, rfl⟩)
theorem canX (n : Int) : Canon (pX n) := .inr (.inr ⟨n, rfl⟩)

theorem can_pushK (n : Int) {r : List Cp} (h : CanonL r) : CanonL (pushK n r) := by
  cases r with
  | nil => exact CanonL.mk (canK n) h
  | cons d r =>
    simp only [pushK]
    split
    · exact CanonL.mk (canK _) h.tail
    · exact CanonL.mk (canK _) h
theorem can_pushP (s : ByteArray) {r : List Cp} (h : CanonL r) : CanonL (pushP s r) := by
  cases r with
  | nil => exact CanonL.mk (canP s) h
  | cons d r =>
    simp only [pushP]
    split
    · exact CanonL.mk (canP _) h.tail
    · exact CanonL.mk (canP _) h
theorem can_pushX0 (n : Int) {r : List Cp} (h : CanonL r) : CanonL (pushX0 n r) := by
  cases r with
  | nil => exact CanonL.mk (canX n) h
  | cons d r =>
    simp only [pushX0]
    split
    · exact CanonL.mk (canX _) h.tail
    · exact CanonL.mk (canX _) h
theorem can_pushX (n : Int) {r : List Cp} (h : CanonL r) : CanonL (pushX n r) := by
  cases r with
  | nil => exact CanonL.mk (canX n) h
  | cons d r =>
    simp only [pushX]
    split
    · exact CanonL.mk h.head (can_pushX0 n h.tail)
    · exact can_pushX0 n h
theorem can_push (c : Cp) {r : List Cp} (h : CanonL r) : CanonL (push c r) := by
  unfold push
  split
  · exact can_pushK _ h
  · split
    · exact can_pushP _ h
    · exact can_pushX _ h
theorem can_norm : ∀ (o : List Cp), CanonL (normS o)
  | [] => fun d hd => by simp [normS] at hd
  | c :: o => can_push c (can_norm o)

theorem nf_pushK (n : Int) {r : List Cp} (h : NF r) : NF (pushK n r) := by
  cases r with
  | nil => exact ⟨fun d hd => by simp at hd, trivial⟩
  | cons d r =>
    simp only [pushK]
    split
    · rename_i hk
      refine ⟨fun e he => ?_, h.2⟩
      have := h.1 e he
      unfold NFp at this ⊢
      rw [hk] at this
      exact this
    · rename_i hk
      refine ⟨fun e he => ?_, h⟩
      simp only [List.head?_cons, Option.mem_some_iff] at he
      subst he
      exact ⟨fun e => hk e.symm, fun e => by simp [pK] at e⟩
theorem nf_pushP (s : ByteArray) {r : List Cp} (h : NF r) : NF (pushP s r) := by
  cases r with
  | nil => exact ⟨fun d hd => by simp at hd, trivial⟩
  | cons d r =>
    simp only [pushP]
    split
    · rename_i hk
      refine ⟨fun e he => ?_, h.2⟩
      have := h.1 e he
      unfold NFp at this ⊢
      rw [hk] at this
      exact this
    · rename_i hk
      refine ⟨fun e he => ?_, h⟩
      simp only [List.head?_cons, Option.mem_some_iff] at he
      subst he
      exact ⟨fun e => hk e.symm, fun e => by simp [pP] at e⟩
theorem nf_pushX0 (n : Int) {r : List Cp} (h : NF r) (hr : ∀ d ∈ r.head?, d.k ≠ 2) : NF (pushX0 n r) := by
  cases r with
  | nil => exact ⟨fun d hd => by simp at hd, trivial⟩
  | cons d r =>
    simp only [pushX0]
    split
    · rename_i hk
      refine ⟨fun e he => ?_, h.2⟩
      have := h.1 e he
      unfold NFp at this ⊢
      rw [hk] at this
      exact this
    · rename_i hk
      refine ⟨fun e he => ?_, h⟩
      simp only [List.head?_cons, Option.mem_some_iff] at he
      subst he
      exact ⟨fun e => hk e.symm, fun e => hr d (by simp) e.2⟩
theorem head_X0 (n : Int) (r : List Cp) : ∀ d ∈ (pushX0 n r).head?, d.k = 3 := by
  cases r with
  | nil => simp [pushX0, pX]
  | cons d r => simp only [pushX0]; split <;> simp [pX]
theorem nf_pushX (n : Int) {r : List Cp} (h : NF r) : NF (pushX n r) := by
  cases r with
  | nil => exact ⟨fun d hd => by simp at hd, trivial⟩
  | cons d r =>
    simp only [pushX]
    split
    · rename_i hk
      refine ⟨fun e he => ?_, nf_pushX0 n h.2 (fun e he => ?_)⟩
      · have := head_X0 n r e he
        exact ⟨by omega, by omega⟩
      · have := (h.1 e he).1
        omega
    · rename_i hk
      exact nf_pushX0 n h (fun e he => by simp at he; subst he; exact hk)
theorem nf_push (c : Cp) {r : List Cp} (h : NF r) : NF (push c r) := by
  unfold push
  split
  · exact nf_pushK _ h
  · split
    · exact nf_pushP _ h
    · exact nf_pushX _ h
theorem nf_norm : ∀ (o : List Cp), NF (normS o)
  | [] => trivial
  | c :: o => nf_push c (nf_norm o)

theorem norm_of_nf : ∀ (r : List Cp), CanonL r → NF r → normS r = r
  | [], _, _ => rfl
  | c :: r, hc, h => by
    rw [normS, norm_of_nf r hc.tail h.2]
    rcases hc.head with ⟨n, rfl⟩ | ⟨s, rfl⟩ | ⟨n, rfl⟩
    · rw [push_K rfl]
      exact K_at (fun d hd => fun e => (h.1 d hd).1 (by rw [e]; rfl))
    · rw [push_P rfl]
      cases r with
      | nil => rfl
      | cons d r => simp only [pP, pushP]; rw [if_neg (fun e => (h.1 d (by simp)).1 (by rw [e]; rfl))]
    · rw [push_X rfl]
      refine X_at (fun d hd => ?_)
      have h1 := h.1 d hd
      rcases hc.tail d (List.mem_of_mem_head? hd) with ⟨m, rfl⟩ | ⟨s, rfl⟩ | ⟨m, rfl⟩
      · rfl
      · exact absurd ⟨rfl, rfl⟩ h1.2
      · exact absurd rfl h1.1
theorem norm_norm (o : List Cp) : normS (normS o) = normS o := norm_of_nf _ (can_norm o) (nf_norm o)

theorem in_cons (c : Cp) (r : List Cp) : inS (c :: r) = c.over + inS r := rfl
theorem out_cons (c : Cp) (r : List Cp) : outS (c :: r) = c.outl + outS r := rfl
theorem over_K (n : Int) : (pK n).over = n := by simp [Cp.over, pK]
theorem over_X (n : Int) : (pX n).over = n := by simp [Cp.over, pX]
theorem over_P (s : ByteArray) : (pP s).over = 0 := by simp [Cp.over, pP]
theorem em_sz : Em.size = 0 := rfl
theorem outl_K (n : Int) : (pK n).outl = n := by simp [Cp.outl, pK, em_sz]
theorem outl_X (n : Int) : (pX n).outl = 0 := by simp [Cp.outl, pX, em_sz]
theorem outl_P (s : ByteArray) : (pP s).outl = s.size := by simp [Cp.outl, pP]

theorem in_pushK (n : Int) (r : List Cp) : inS (pushK n r) = n + inS r := by
  cases r with
  | nil => simp [pushK, inS, over_K]
  | cons d r =>
    by_cases h : d.k = 1
    · have : d.over = d.n := by rw [Cp.over, if_pos (.inl h)]
      simp [pushK, h, in_cons, over_K, this]; omega
    · simp [pushK, h, in_cons, over_K]
theorem in_pushP (s : ByteArray) (r : List Cp) : inS (pushP s r) = inS r := by
  cases r with
  | nil => simp [pushP, inS, over_P]
  | cons d r =>
    by_cases h : d.k = 2
    · have : d.over = 0 := by rw [Cp.over, if_neg (by omega)]
      simp [pushP, h, in_cons, over_P, this]
    · simp [pushP, h, in_cons, over_P]
theorem in_pushX0 (n : Int) (r : List Cp) : inS (pushX0 n r) = n + inS r := by
  cases r with
  | nil => simp [pushX0, inS, over_X]
  | cons d r =>
    by_cases h : d.k = 3
    · have : d.over = d.n := by rw [Cp.over, if_pos (.inr h)]
      simp [pushX0, h, in_cons, over_X, this]; omega
    · simp [pushX0, h, in_cons, over_X]
theorem in_pushX (n : Int) (r : List Cp) : inS (pushX n r) = n + inS r := by
  cases r with
  | nil => simp [pushX, inS, over_X]
  | cons d r =>
    by_cases h : d.k = 2
    · simp [pushX, h, in_cons, in_pushX0]; omega
    · rw [show pushX n (d :: r) = pushX0 n (d :: r) by simp [pushX, h], in_pushX0]
theorem out_pushK (n : Int) {r : List Cp} (hc : CanonL r) : outS (pushK n r) = n + outS r := by
  cases r with
  | nil => simp [pushK, outS, outl_K]
  | cons d r =>
    rcases hc.head with ⟨m, rfl⟩ | ⟨s, rfl⟩ | ⟨m, rfl⟩
    · have e : pushK n (pK m :: r) = pK (n + m) :: r := by simp [pushK, pK]
      rw [e, out_cons, out_cons, outl_K, outl_K]; omega
    · have e : pushK n (pP s :: r) = pK n :: pP s :: r := by simp [pushK, pP]
      rw [e, out_cons, outl_K]
    · have e : pushK n (pX m :: r) = pK n :: pX m :: r := by simp [pushK, pX]
      rw [e, out_cons, outl_K]
theorem out_pushP (s : ByteArray) {r : List Cp} (hc : CanonL r) : outS (pushP s r) = s.size + outS r := by
  cases r with
  | nil => simp [pushP, outS, outl_P]
  | cons d r =>
    rcases hc.head with ⟨m, rfl⟩ | ⟨u, rfl⟩ | ⟨m, rfl⟩
    · have e : pushP s (pK m :: r) = pP s :: pK m :: r := by simp [pushP, pK]
      rw [e, out_cons, outl_P]
    · have e : pushP s (pP u :: r) = pP (s ++ u) :: r := by simp [pushP, pP]
      rw [e, out_cons, out_cons, outl_P, outl_P, ByteArray.size_append]; omega
    · have e : pushP s (pX m :: r) = pP s :: pX m :: r := by simp [pushP, pX]
      rw [e, out_cons, outl_P]
theorem out_pushX0 (n : Int) {r : List Cp} (hc : CanonL r) : outS (pushX0 n r) = outS r := by
  cases r with
  | nil => simp [pushX0, outS, outl_X]
  | cons d r =>
    rcases hc.head with ⟨m, rfl⟩ | ⟨u, rfl⟩ | ⟨m, rfl⟩
    · have e : pushX0 n (pK m :: r) = pX n :: pK m :: r := by simp [pushX0, pK]
      rw [e, out_cons, outl_X]; omega
    · have e : pushX0 n (pP u :: r) = pX n :: pP u :: r := by simp [pushX0, pP]
      rw [e, out_cons, outl_X]; omega
    · have e : pushX0 n (pX m :: r) = pX (n + m) :: r := by simp [pushX0, pX]
      rw [e, out_cons, out_cons, outl_X, outl_X]
theorem out_pushX (n : Int) {r : List Cp} (hc : CanonL r) : outS (pushX n r) = outS r := by
  cases r with
  | nil => simp [pushX, outS, outl_X]
  | cons d r =>
    by_cases h : d.k = 2
    · simp [pushX, h, out_cons, out_pushX0 n hc.tail]
    · rw [show pushX n (d :: r) = pushX0 n (d :: r) by simp [pushX, h], out_pushX0 n hc]

theorem in_norm : ∀ (o : List Cp), Good o → inS (normS o) = inS o
  | [], _ => rfl
  | c :: o, h => by
    have ih := in_norm o (fun d hd => h d (by simp [hd]))
    rw [normS, in_cons]
    rcases h c (by simp) with ⟨hk | hk, hn, hs⟩ | ⟨hk, hn, hs⟩
    · rw [push_K hk, in_pushK, ih, Cp.over, if_pos (.inl hk)]
    · rw [push_X hk, in_pushX, ih, Cp.over, if_pos (.inr hk)]
    · rw [push_P hk, in_pushP, ih, Cp.over, if_neg (by omega)]; omega
theorem out_norm : ∀ (o : List Cp), Good o → outS (normS o) = outS o
  | [], _ => rfl
  | c :: o, h => by
    have ih := out_norm o (fun d hd => h d (by simp [hd]))
    rw [normS, out_cons]
    rcases h c (by simp) with ⟨hk | hk, hn, hs⟩ | ⟨hk, hn, hs⟩
    · rw [push_K hk, out_pushK _ (can_norm o), ih, Cp.outl, if_pos hk, hs]; simp
    · rw [push_X hk, out_pushX _ (can_norm o), ih, Cp.outl, if_neg (by omega), hs]; simp
    · rw [push_P hk, out_pushP _ (can_norm o), ih, Cp.outl, if_neg (by omega)]; omega

theorem ap_K (n : Nat) (d : List UInt8) (r : List Cp) : applyS d (pK n :: r) = d.take n ++ applyS (d.drop n) r := by simp [applyS, pK]
theorem ap_P (s : ByteArray) (d : List UInt8) (r : List Cp) : applyS d (pP s :: r) = s.data.toList ++ applyS d r := by simp [applyS, pP]
theorem ap_X (n : Nat) (d : List UInt8) (r : List Cp) : applyS d (pX n :: r) = applyS (d.drop n) r := by simp [applyS, pX]

theorem good_can {c : Cp} (h : c.Ok) (hc : Canon c) : (∃ n : Nat, 1 ≤ n ∧ c = pK n) ∨ (∃ s, 1 ≤ s.size ∧ c = pP s) ∨ ∃ n : Nat, 1 ≤ n ∧ c = pX n := by
  rcases hc with ⟨n, rfl⟩ | ⟨s, rfl⟩ | ⟨n, rfl⟩
  · rcases h with ⟨_, h, _⟩ | ⟨h, _⟩
    · simp only [pK] at h
      exact .inl ⟨n.toNat, by omega, by rw [Int.toNat_of_nonneg (by omega)]⟩
    · simp [pK] at h
  · rcases h with ⟨h | h, _⟩ | ⟨_, _, h⟩
    · simp [pP] at h
    · simp [pP] at h
    · exact .inr (.inl ⟨s, h, rfl⟩)
  · rcases h with ⟨_, h, _⟩ | ⟨h, _⟩
    · simp only [pX] at h
      exact .inr (.inr ⟨n.toNat, by omega, by rw [Int.toNat_of_nonneg (by omega)]⟩)
    · simp [pX] at h

theorem okK {n : Int} (h : 1 ≤ n) : (pK n).Ok := .inl ⟨.inl rfl, h, rfl⟩
theorem okX {n : Int} (h : 1 ≤ n) : (pX n).Ok := .inl ⟨.inr rfl, h, rfl⟩
theorem okP {s : ByteArray} (h : 1 ≤ s.size) : (pP s).Ok := .inr ⟨rfl, rfl, h⟩
theorem good_mk {c : Cp} {r : List Cp} (hc : c.Ok) (h : Good r) : Good (c :: r) := fun d hd => by
  rcases List.mem_cons.1 hd with rfl | hd
  · exact hc
  · exact h d hd
theorem Good.tl {c : Cp} {r : List Cp} (h : Good (c :: r)) : Good r := fun d hd => h d (by simp [hd])
theorem Good.hd {c : Cp} {r : List Cp} (h : Good (c :: r)) : c.Ok := h c (by simp)

theorem pushK_all (n : Nat) (hn : 1 ≤ n) {r : List Cp} (hg : Good r) (hc : CanonL r) : Good (pushK n r) ∧ (∀ d, applyS d (pushK n r) = applyS d (pK n :: r)) := by
  cases r with
  | nil => exact ⟨good_mk (okK (by omega)) hg, fun d => rfl⟩
  | cons c r =>
    rcases good_can hg.hd hc.head with ⟨m, hm, rfl⟩ | ⟨s, hs, rfl⟩ | ⟨m, hm, rfl⟩
    · have e : pushK n (pK m :: r) = pK ((n + m : Nat) : Int) :: r := by simp [pushK, pK]
      rw [e]
      refine ⟨good_mk (okK (by omega)) hg.tl, fun d => ?_⟩
      rw [ap_K, ap_K, ap_K, List.drop_drop, ← List.append_assoc, List.take_add]
    · have e : pushK n (pP s :: r) = pK n :: pP s :: r := by simp [pushK, pP]
      rw [e]
      exact ⟨good_mk (okK (by omega)) hg, fun d => rfl⟩
    · have e : pushK n (pX m :: r) = pK n :: pX m :: r := by simp [pushK, pX]
      rw [e]
      exact ⟨good_mk (okK (by omega)) hg, fun d => rfl⟩
theorem pushP_all (s : ByteArray) (hs : 1 ≤ s.size) {r : List Cp} (hg : Good r) (hc : CanonL r) : Good (pushP s r) ∧ (∀ d, applyS d (pushP s r) = applyS d (pP s :: r)) := by
  cases r with
  | nil => exact ⟨good_mk (okP hs) hg, fun d => rfl⟩
  | cons c r =>
    rcases good_can hg.hd hc.head with ⟨m, hm, rfl⟩ | ⟨u, hu, rfl⟩ | ⟨m, hm, rfl⟩
    · have e : pushP s (pK m :: r) = pP s :: pK m :: r := by simp [pushP, pK]
      rw [e]
      exact ⟨good_mk (okP hs) hg, fun d => rfl⟩
    · have e : pushP s (pP u :: r) = pP (s ++ u) :: r := by simp [pushP, pP]
      rw [e]
      refine ⟨good_mk (okP (by rw [ByteArray.size_append]; omega)) hg.tl, fun d => ?_⟩
      rw [ap_P, ap_P, ap_P, ← List.append_assoc]
      simp
    · have e : pushP s (pX m :: r) = pP s :: pX m :: r := by simp [pushP, pX]
      rw [e]
      exact ⟨good_mk (okP hs) hg, fun d => rfl⟩
theorem pushX0_all (n : Nat) (hn : 1 ≤ n) {r : List Cp} (hg : Good r) (hc : CanonL r) : Good (pushX0 n r) ∧ (∀ d, applyS d (pushX0 n r) = applyS d (pX n :: r)) := by
  cases r with
  | nil => exact ⟨good_mk (okX (by omega)) hg, fun d => rfl⟩
  | cons c r =>
    rcases good_can hg.hd hc.head with ⟨m, hm, rfl⟩ | ⟨u, hu, rfl⟩ | ⟨m, hm, rfl⟩
    · have e : pushX0 n (pK m :: r) = pX n :: pK m :: r := by simp [pushX0, pK]
      rw [e]
      exact ⟨good_mk (okX (by omega)) hg, fun d => rfl⟩
    · have e : pushX0 n (pP u :: r) = pX n :: pP u :: r := by simp [pushX0, pP]
      rw [e]
      exact ⟨good_mk (okX (by omega)) hg, fun d => rfl⟩
    · have e : pushX0 n (pX m :: r) = pX ((n + m : Nat) : Int) :: r := by simp [pushX0, pX]
      rw [e]
      refine ⟨good_mk (okX (by omega)) hg.tl, fun d => ?_⟩
      rw [ap_X, ap_X, ap_X, List.drop_drop]
theorem pushX_all (n : Nat) (hn : 1 ≤ n) {r : List Cp} (hg : Good r) (hc : CanonL r) : Good (pushX n r) ∧ (∀ d, applyS d (pushX n r) = applyS d (pX n :: r)) := by
  cases r with
  | nil => exact ⟨good_mk (okX (by omega)) hg, fun d => rfl⟩
  | cons c r =>
    by_cases h : c.k = 2
    · have e : pushX n (c :: r) = c :: pushX0 n r := by simp [pushX, h]
      have h0 := pushX0_all n hn hg.tl hc.tail
      rw [e]
      refine ⟨good_mk hg.hd h0.1, fun d => ?_⟩
      rcases hc.head with ⟨m, rfl⟩ | ⟨u, rfl⟩ | ⟨m, rfl⟩
      · simp [pK] at h
      · rw [ap_P, ap_X, ap_P, h0.2, ap_X]
      · simp [pX] at h
    · have e : pushX n (c :: r) = pushX0 n (c :: r) := by simp [pushX, h]
      rw [e]
      exact pushX0_all n hn hg hc

theorem norm_all : ∀ (o : List Cp), Good o → Good (normS o) ∧ ∀ d, applyS d (normS o) = applyS d o
  | [], h => ⟨h, fun d => rfl⟩
  | c :: o, h => by
    obtain ⟨ih1, ih2⟩ := norm_all o h.tl
    rw [normS]
    rcases h.hd with ⟨hk | hk, hn, hs⟩ | ⟨hk, hn, hs⟩
    · obtain ⟨m, hm⟩ : ∃ m : Nat, c.n = (m : Int) := Int.eq_ofNat_of_zero_le (by omega)
      rw [push_K hk, hm]
      have := pushK_all m (by omega) ih1 (can_norm o)
      refine ⟨this.1, fun d => ?_⟩
      rw [this.2, ap_K, ih2]
      simp [applyS, hk, hm]
    · obtain ⟨m, hm⟩ : ∃ m : Nat, c.n = (m : Int) := Int.eq_ofNat_of_zero_le (by omega)
      rw [push_X hk, hm]
      have := pushX_all m (by omega) ih1 (can_norm o)
      refine ⟨this.1, fun d => ?_⟩
      rw [this.2, ap_X, ih2]
      simp [applyS, hk, hm]
    · rw [push_P hk]
      have := pushP_all c.s hs ih1 (can_norm o)
      refine ⟨this.1, fun d => ?_⟩
      rw [this.2, ap_P, ih2]
      simp [applyS, hk]
theorem norm_good {o : List Cp} (h : Good o) : Good (normS o) := (norm_all o h).1
theorem norm_apS {o : List Cp} (h : Good o) (d : ByteArray) : apS d (normS o) = apS d o := by
  unfold apS
  rw [in_norm o h, out_norm o h, (norm_all o h).2]

theorem len_push (c : Cp) (r : List Cp) : (push c r).length ≤ r.length + 1 := by
  unfold push
  cases r with
  | nil => split <;> (try split) <;> simp [pushK, pushP, pushX]
  | cons d r =>
    split
    · simp only [pushK]; split <;> simp
    · split
      · simp only [pushP]; split <;> simp
      · simp only [pushX]
        have h0 : ∀ n (q : List Cp), (pushX0 n q).length ≤ q.length + 1 := by
          intro n q
          cases q with
          | nil => simp [pushX0]
          | cons e q => simp only [pushX0]; split <;> simp
        split
        · simp only [List.length_cons]; have := h0 c.n r; omega
        · exact h0 _ _
theorem len_norm : ∀ (o : List Cp), (normS o).length ≤ o.length
  | [] => by simp [normS]
  | c :: o => by
    have := len_push c (normS o)
    have := len_norm o
    rw [normS, List.length_cons]
    omega

theorem over_nn {c : Cp} (h : c.Ok) : 0 ≤ c.over ∧ 0 ≤ c.outl := by
  rcases h with ⟨hk, hn, hs⟩ | ⟨hk, hn, hs⟩
  · refine ⟨by rw [Cp.over, if_pos hk]; omega, ?_⟩
    rw [Cp.outl]; split <;> omega
  · exact ⟨by rw [Cp.over, if_neg (by omega)]; omega, by rw [Cp.outl, if_neg (by omega)]; omega⟩
theorem Good.outS_nn : ∀ {o : List Cp}, Good o → 0 ≤ outS o
  | [], _ => by simp [outS]
  | c :: o, h => by
    have := over_nn h.hd
    have := Good.outS_nn h.tl
    rw [outS]; omega
theorem mem_le : ∀ {o : List Cp}, Good o → ∀ c ∈ o, c.over ≤ inS o ∧ c.outl ≤ outS o
  | [], _, c, hc => by simp at hc
  | e :: o, h, c, hc => by
    have h1 := over_nn h.hd
    have h2 := Good.inS_nn h.tl
    have h3 := Good.outS_nn h.tl
    rw [inS, outS]
    rcases List.mem_cons.1 hc with rfl | hc
    · omega
    · have := mem_le h.tl c hc
      omega
end Go.Proofs.Ytlgdllbhddnokab

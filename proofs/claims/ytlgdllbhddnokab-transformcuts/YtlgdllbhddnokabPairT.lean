/- Operations led over one another: over what keeps all, over itself, of those that cut alone; of no program. -/
import Derived.Test.YtlgdllbhddnokabPairS
namespace Go.Proofs.Ytlgdllbhddnokab
set_option linter.unusedSimpArgs false
set_option linter.unusedVariables false

theorem pushK_id (k m : Nat) (hk : 1 ≤ k) : pushK k (idS m) = idS (k + m) := by
  unfold idS
  rw [if_neg (show ¬ k + m = 0 by omega)]
  by_cases h : m = 0
  · rw [if_pos h, h]; rfl
  · rw [if_neg h]; simp [pushK, pK]
theorem id_norm (n : Nat) : normS (idS n) = idS n := by
  unfold idS
  split
  · rfl
  · rfl
theorem id_cons {n : Nat} {c : Cp} {a : List Cp} (h : c :: a = idS n) : 1 ≤ n ∧ c = pK n ∧ a = [] := by
  unfold idS at h
  split at h
  · cases h
  · cases h; exact ⟨by omega, rfl, rfl⟩
theorem id_nil {n : Nat} (h : [] = idS n) : n = 0 := by
  unfold idS at h
  split at h
  · assumption
  · cases h
theorem rest_id (m i : Nat) (h : i ≤ m) : restL i (pK m) [] = idS (m - i) := by
  unfold restL idS
  rw [sz_K, rs_K i m h]
  by_cases e : m = i
  · rw [if_pos e, if_pos (by omega)]
  · rw [if_neg e, if_neg (by omega)]
theorem rest_self {c : Cp} (a : List Cp) : restL c.sz c a = a := by unfold restL; rw [if_pos rfl]
theorem outS_toNat {a : List Cp} (h : Good a) : ∃ k : Nat, outS a = k := Int.eq_ofNat_of_zero_le h.outS_nn

/-- Beside what keeps all. -/
theorem pr_idR {a b x y : List Cp} (h : PR a b x y) : Good a → ∀ m : Nat, b = idS m → inS a = m → x = a ∧ normS y = idS (outS a).toNat := by
  refine h (fun a b x y => Good a → ∀ m : Nat, b = idS m → inS a = m → x = a ∧ normS y = idS (outS a).toNat) ⟨?_, ?_, ?_, ?_⟩
  · intro _ m _ _
    exact ⟨rfl, rfl⟩
  · intro c a b x y hc ih ha m hb hi
    rcases ok_cases ha.hd with ⟨k, hk, rfl⟩ | ⟨s, hs, rfl⟩ | ⟨k, hk, rfl⟩
    · simp [pK] at hc
    · rw [in_cons, over_P, Int.zero_add] at hi
      obtain ⟨e1, e2⟩ := ih ha.tl m hb hi
      obtain ⟨k, hk⟩ := outS_toNat ha.tl
      rw [hk, Int.toNat_natCast] at e2
      refine ⟨by rw [e1], ?_⟩
      rw [normS, e2, push_K rfl, show (pK ((pP s).s.size : Int)).n = ((s.size : Nat) : Int) from rfl, pushK_id _ _ hs, out_cons, outl_P, hk, ← Int.natCast_add, Int.toNat_natCast]
    · simp [pX] at hc
  · intro d a b x y hd _ ih ha m hb hi
    obtain ⟨_, e, _⟩ := id_cons hb
    subst e
    simp [pK] at hd
  · intro c d a b x y hc hd ih ha m hb hi
    obtain ⟨hm, rfl, rfl⟩ := id_cons hb
    have hnn := ha.tl.inS_nn
    rw [in_cons, over_sz ha.hd hc] at hi
    have e : min c.sz (pK (m : Int)).sz = c.sz := by rw [sz_K]; omega
    rw [e] at ih ⊢
    rw [rest_self, rest_id _ _ (by omega)] at ih
    obtain ⟨e1, e2⟩ := ih ha.tl (m - c.sz) rfl (by omega)
    obtain ⟨k, hk⟩ := outS_toNat ha.tl
    rw [hk, Int.toNat_natCast] at e2
    obtain ⟨i, hi1, rfl | rfl⟩ := ok_kx ha.hd hc
    · rw [sz_K]
      refine ⟨by rw [e1]; rfl, ?_⟩
      show normS (pK i :: y) = _
      rw [normS, e2, push_K rfl, show (pK (i : Int)).n = (i : Int) from rfl, pushK_id _ _ hi1, out_cons, outl_K, hk, ← Int.natCast_add, Int.toNat_natCast]
    · rw [sz_X]
      refine ⟨by rw [e1]; rfl, ?_⟩
      show normS y = _
      rw [e2, out_cons, outl_X, hk, Int.zero_add, Int.toNat_natCast]
theorem pr_idL {a b x y : List Cp} (h : PR a b x y) : Good b → ∀ m : Nat, a = idS m → inS b = m → y = b ∧ normS x = idS (outS b).toNat := by
  refine h (fun a b x y => Good b → ∀ m : Nat, a = idS m → inS b = m → y = b ∧ normS x = idS (outS b).toNat) ⟨?_, ?_, ?_, ?_⟩
  · intro _ m _ _
    exact ⟨rfl, rfl⟩
  · intro c a b x y hc ih hb m ha hi
    obtain ⟨_, e, _⟩ := id_cons ha
    subst e
    simp [pK] at hc
  · intro d a b x y hd _ ih hb m ha hi
    rcases ok_cases hb.hd with ⟨k, hk, rfl⟩ | ⟨s, hs, rfl⟩ | ⟨k, hk, rfl⟩
    · simp [pK] at hd
    · rw [in_cons, over_P, Int.zero_add] at hi
      obtain ⟨e1, e2⟩ := ih hb.tl m ha hi
      obtain ⟨k, hk⟩ := outS_toNat hb.tl
      rw [hk, Int.toNat_natCast] at e2
      refine ⟨by rw [e1], ?_⟩
      rw [normS, e2, push_K rfl, show (pK ((pP s).s.size : Int)).n = ((s.size : Nat) : Int) from rfl, pushK_id _ _ hs, out_cons, outl_P, hk, ← Int.natCast_add, Int.toNat_natCast]
    · simp [pX] at hd
  · intro c d a b x y hc hd ih hb m ha hi
    obtain ⟨hm, rfl, rfl⟩ := id_cons ha
    have hnn := hb.tl.inS_nn
    rw [in_cons, over_sz hb.hd hd] at hi
    have e : min (pK (m : Int)).sz d.sz = d.sz := by rw [sz_K]; omega
    rw [e] at ih ⊢
    rw [rest_self, rest_id _ _ (by omega)] at ih
    obtain ⟨e1, e2⟩ := ih hb.tl (m - d.sz) rfl (by omega)
    obtain ⟨k, hk⟩ := outS_toNat hb.tl
    rw [hk, Int.toNat_natCast] at e2
    obtain ⟨i, hi1, rfl | rfl⟩ := ok_kx hb.hd hd
    · rw [sz_K]
      refine ⟨by rw [e1]; rfl, ?_⟩
      show normS (pK i :: x) = _
      rw [normS, e2, push_K rfl, show (pK (i : Int)).n = (i : Int) from rfl, pushK_id _ _ hi1, out_cons, outl_K, hk, ← Int.natCast_add, Int.toNat_natCast]
    · rw [sz_X]
      refine ⟨by rw [e1]; rfl, ?_⟩
      show normS x = _
      rw [e2, out_cons, outl_X, hk, Int.zero_add, Int.toNat_natCast]

/-- An operation without what it puts. -/
def strip : List Cp → List Cp
  | [] => []
  | c :: o => if c.k = 2 then strip o else c :: strip o
theorem pr_self {a b x y : List Cp} (h : PR a b x y) : strip a = strip b → csz y = 0 := by
  refine h (fun a b x y => strip a = strip b → csz y = 0) ⟨?_, ?_, ?_, ?_⟩
  · intro _; rfl
  · intro c a b x y hc ih hs
    rw [strip, if_pos hc] at hs
    rw [csz_K, ih hs]
  · intro d a b x y hd _ ih hs
    rw [strip, if_pos hd] at hs
    rw [csz, if_neg (by omega), ih hs]; omega
  · intro c d a b x y hc hd ih hs
    rw [strip, if_neg hc, strip, if_neg hd] at hs
    injection hs with e1 e2
    subst e1
    rw [Nat.min_self, rest_self, rest_self] at ih
    have := ih e2
    rw [csz_append, this]
    unfold ledS
    split
    · rfl
    · rename_i h3
      simp [csz, h3]

/-- What is chosen of d. -/
def sel {α : Type} : List α → List Bool → List α
  | x :: d, f :: l => if f then x :: sel d l else sel d l
  | _, _ => []
/-- Which bytes an operation that puts nothing keeps. -/
def flags : List Cp → List Bool
  | [] => []
  | c :: o => List.replicate c.sz (decide (c.k = 1)) ++ flags o
def NoP (o : List Cp) : Prop := ∀ c ∈ o, c.k ≠ 2
theorem NoP.tl {c : Cp} {o : List Cp} (h : NoP (c :: o)) : NoP o := fun d hd => h d (by simp [hd])
theorem NoP.hd {c : Cp} {o : List Cp} (h : NoP (c :: o)) : c.k ≠ 2 := h c (by simp)
theorem NoP.mk {c : Cp} {o : List Cp} (hc : c.k ≠ 2) (h : NoP o) : NoP (c :: o) := fun d hd => by
  rcases List.mem_cons.1 hd with rfl | hd
  · exact hc
  · exact h d hd
theorem sel_keep {α : Type} : ∀ (n : Nat) (d : List α) (l : List Bool), n ≤ d.length → sel d (List.replicate n true ++ l) = d.take n ++ sel (d.drop n) l
  | 0, d, l, _ => by simp
  | n + 1, [], l, h => by simp at h
  | n + 1, x :: d, l, h => by
    rw [List.replicate_succ, List.cons_append, sel, if_pos rfl, sel_keep n d l (by simpa using h)]
    rfl
theorem sel_cut {α : Type} : ∀ (n : Nat) (d : List α) (l : List Bool), n ≤ d.length → sel d (List.replicate n false ++ l) = sel (d.drop n) l
  | 0, d, l, _ => by simp
  | n + 1, [], l, h => by simp at h
  | n + 1, x :: d, l, h => by
    rw [List.replicate_succ, List.cons_append, sel, if_neg (by simp), sel_cut n d l (by simpa using h)]
    rfl
theorem flags_rest {c : Cp} (hc : c.Ok) (hk : c.k ≠ 2) (a : List Cp) (n : Nat) (h : n ≤ c.sz) : flags (c :: a) = List.replicate n (decide (c.k = 1)) ++ flags (restL n c a) := by
  obtain ⟨m, hm, rfl | rfl⟩ := ok_kx hc hk
  · rw [sz_K] at h
    unfold restL
    rw [sz_K]
    split
    · rename_i e; subst e; rw [flags, sz_K]
    · rw [rs_K n m h, flags, flags, sz_K, sz_K, ← List.append_assoc]
      show List.replicate m true ++ flags a = List.replicate n true ++ List.replicate (m - n) true ++ flags a
      rw [List.replicate_append_replicate, show n + (m - n) = m by omega]
  · rw [sz_X] at h
    unfold restL
    rw [sz_X]
    split
    · rename_i e; subst e; rw [flags, sz_X]
    · rw [rs_X n m h, flags, flags, sz_X, sz_X, ← List.append_assoc]
      show List.replicate m false ++ flags a = List.replicate n false ++ List.replicate (m - n) false ++ flags a
      rw [List.replicate_append_replicate, show n + (m - n) = m by omega]
theorem rest_NoP {c : Cp} {a : List Cp} (h : NoP (c :: a)) (n : Nat) : NoP (restL n c a) := by
  unfold restL
  split
  · exact h.tl
  · refine NoP.mk ?_ h.tl
    have := h.hd
    rw [Cp.rs, if_neg this]
    exact this
theorem zip_rep (f : Bool → Bool → Bool) (n : Nat) (p q : Bool) (l m : List Bool) : List.zipWith f (List.replicate n p ++ l) (List.replicate n q ++ m) = List.replicate n (f p q) ++ List.zipWith f l m := by
  induction n with
  | zero => simp
  | succ n ih => rw [List.replicate_succ, List.replicate_succ, List.replicate_succ]; simp [ih]
/-- Of two that cut alone: what neither cuts is left. -/
theorem pr_cuts {a b x y : List Cp} (h : PR a b x y) : Good a → Good b → NoP a → NoP b → inS a = inS b → ∀ (α : Type) (f : UInt8 → α) (d : List α), inS a = d.length →
    act f (act f d a) y = sel d (List.zipWith (fun p q => p && q) (flags a) (flags b)) := by
  refine h (fun a b x y => Good a → Good b → NoP a → NoP b → inS a = inS b → ∀ (α : Type) (f : UInt8 → α) (d : List α), inS a = d.length → act f (act f d a) y = sel d (List.zipWith (fun p q => p && q) (flags a) (flags b))) ⟨?_, ?_, ?_, ?_⟩
  · intro _ _ _ _ _ α f d hd
    simp [act, flags, sel]
  · intro c a b x y hc _ _ _ hn
    exact absurd hc hn.hd
  · intro d a b x y hd _ _ _ _ _ hn
    exact absurd hd hn.hd
  · intro c d a b x y hc hd ih ha hb na nb hi α f e he
    have z1 := ha.hd.szp
    have z2 := hb.hd.szp
    obtain ⟨n, hn⟩ : ∃ n, min c.sz d.sz = n := ⟨_, rfl⟩
    rw [hn] at ih ⊢
    obtain ⟨ra, ri, _⟩ := rest_kx ha.hd hc ha.tl n (by omega) (by omega)
    obtain ⟨rb, rj, _⟩ := rest_kx hb.hd hd hb.tl n (by omega) (by omega)
    obtain ⟨_, _, _, _, aa⟩ := rest_all ha.hd ha.tl n (by omega) (by omega)
    have n1 := ra.inS_nn
    rw [ri] at he
    have hl : (e.drop n).length = e.length - n := List.length_drop
    have I := ih ra rb (rest_NoP na n) (rest_NoP nb n) (by omega) α f (e.drop n) (by omega)
    rw [flags_rest ha.hd hc a n (by omega), flags_rest hb.hd hd b n (by omega), zip_rep, aa]
    obtain ⟨t1, t2⟩ := take_act (n := n) (d := e) (by omega) (act f (e.drop n) (restL n c a))
    obtain ⟨i, hi1, rfl | rfl⟩ := ok_kx ha.hd hc <;> obtain ⟨j, hj1, rfl | rfl⟩ := ok_kx hb.hd hd
    · show act f (act f e ((pK i).fr n :: _)) (pK n :: y) = sel e (List.replicate n true ++ _)
      rw [fr_K, ac_K, ac_K, t1, t2, I, sel_keep n e _ (by omega)]
    · show act f (act f e ((pK i).fr n :: _)) (pX n :: y) = sel e (List.replicate n false ++ _)
      rw [fr_K, ac_K, ac_X, t2, I, sel_cut n e _ (by omega)]
    · show act f (act f e ((pX i).fr n :: _)) y = sel e (List.replicate n false ++ _)
      rw [fr_X, ac_X, I, sel_cut n e _ (by omega)]
    · show act f (act f e ((pX i).fr n :: _)) y = sel e (List.replicate n false ++ _)
      rw [fr_X, ac_X, I, sel_cut n e _ (by omega)]

theorem push_NoP {c : Cp} (hc : c.Ok) (hk : c.k ≠ 2) {r : List Cp} (hg : Good r) (hr : NoP r) : NoP (push c r) ∧ flags (push c r) = List.replicate c.sz (decide (c.k = 1)) ++ flags r := by
  obtain ⟨m, hm, rfl | rfl⟩ := ok_kx hc hk
  · rw [push_K rfl, sz_K, show (pK (m : Int)).n = (m : Int) from rfl, show decide ((pK (m : Int)).k = 1) = true from rfl]
    cases r with
    | nil => exact ⟨NoP.mk (by simp [pK]) hr, by show List.replicate (pK (m : Int)).sz true ++ flags [] = _; rw [sz_K]⟩
    | cons d r =>
      obtain ⟨j, hj, rfl | rfl⟩ := ok_kx hg.hd hr.hd
      · have e : pushK m (pK j :: r) = pK ((m + j : Nat) : Int) :: r := by simp [pushK, pK]
        rw [e, flags, flags, sz_K, sz_K, ← List.append_assoc]
        refine ⟨NoP.mk (by simp [pK]) hr.tl, ?_⟩
        show List.replicate (m + j) true ++ flags r = List.replicate m true ++ List.replicate j true ++ flags r
        rw [List.replicate_append_replicate]
      · have e : pushK m (pX j :: r) = pK m :: pX j :: r := by simp [pushK, pX]
        rw [e, flags, sz_K]
        exact ⟨NoP.mk (by simp [pK]) hr, rfl⟩
  · rw [push_X rfl, sz_X, show (pX (m : Int)).n = (m : Int) from rfl, show decide ((pX (m : Int)).k = 1) = false from rfl]
    cases r with
    | nil => exact ⟨NoP.mk (by simp [pX]) hr, by show List.replicate (pX (m : Int)).sz false ++ flags [] = _; rw [sz_X]⟩
    | cons d r =>
      obtain ⟨j, hj, rfl | rfl⟩ := ok_kx hg.hd hr.hd
      · have e : pushX m (pK j :: r) = pX m :: pK j :: r := by simp [pushX, pushX0, pK]
        rw [e, flags, sz_X]
        exact ⟨NoP.mk (by simp [pX]) hr, rfl⟩
      · have e : pushX m (pX j :: r) = pX ((m + j : Nat) : Int) :: r := by simp [pushX, pushX0, pX]
        rw [e, flags, flags, sz_X, sz_X, ← List.append_assoc]
        refine ⟨NoP.mk (by simp [pX]) hr.tl, ?_⟩
        show List.replicate (m + j) false ++ flags r = List.replicate m false ++ List.replicate j false ++ flags r
        rw [List.replicate_append_replicate]
theorem norm_flags : ∀ (o : List Cp), Good o → NoP o → NoP (normS o) ∧ flags (normS o) = flags o
  | [], _, h => ⟨h, rfl⟩
  | c :: o, hg, hn => by
    obtain ⟨h1, h2⟩ := norm_flags o hg.tl hn.tl
    have := push_NoP hg.hd hn.hd (norm_good hg.tl) h1
    rw [h2] at this
    exact this

/-- Two that put at one place. -/
def putF (n m : Nat) (s : ByteArray) : List Cp := idS n ++ (pP s :: idS m)
theorem pr_id (m : Nat) : PR (idS m) (idS m) (idS m) (idS m) := by
  unfold idS
  split
  · exact pr_steps.nil
  · have := pr_steps.pj (pK m) (pK m) [] [] [] [] (by simp [pK]) (by simp [pK]) (by rw [Nat.min_self, rest_self]; exact pr_steps.nil)
    rw [Nat.min_self, sz_K] at this
    exact this
theorem pr_first (n m : Nat) (s t : ByteArray) : PR (putF n m s) (putF n m t) (idS n ++ (pP s :: pK t.size :: idS m)) (idS n ++ (pK s.size :: pP t :: idS m)) := by
  have h1 : PR (idS m) (pP t :: idS m) (pK t.size :: idS m) (pP t :: idS m) := pr_steps.pb (pP t) (idS m) (idS m) _ _ rfl (fun c hc => by
    unfold idS at hc
    split at hc
    · simp at hc
    · simp at hc; subst hc; simp [pK]) (pr_id m)
  have h2 : PR (pP s :: idS m) (pP t :: idS m) (pP s :: pK t.size :: idS m) (pK s.size :: pP t :: idS m) := pr_steps.pa (pP s) (idS m) _ _ _ rfl h1
  unfold putF
  by_cases h : n = 0
  · subst h; exact h2
  · have e : idS n = [pK n] := if_neg h
    rw [e]
    have := pr_steps.pj (pK n) (pK n) (pP s :: idS m) (pP t :: idS m) _ _ (by simp [pK]) (by simp [pK]) (by rw [Nat.min_self, rest_self, rest_self]; exact h2)
    rw [Nat.min_self, sz_K] at this
    exact this
theorem pr_cut (n : Nat) : PR [pX n] [pX n] [] [] :=
  pr_steps.pj (pX n) (pX n) [] [] [] [] (by simp [pX]) (by simp [pX]) (by rw [Nat.min_self, rest_self]; exact pr_steps.nil)
end Go.Proofs.Ytlgdllbhddnokab

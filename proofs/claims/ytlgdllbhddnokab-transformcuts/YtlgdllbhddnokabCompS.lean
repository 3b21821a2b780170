/- One operation behind another, as a function of lists; of no program. -/
import Derived.Test.YtlgdllbhddnokabActS
import Derived.Lib.Strings
namespace Go.Proofs.Ytlgdllbhddnokab
set_option linter.unusedSimpArgs false
set_option linter.unusedVariables false

/-- How many bytes a part goes over. -/
def Cp.sz (c : Cp) : Nat := c.n.toNat + c.s.size
/-- As much of a part as n bytes. -/
def Cp.fr (n : Nat) (c : Cp) : Cp := if c.k = 2 then pP (c.s.extract 0 n) else ⟨c.k, n, Em⟩
/-- What is left of it. -/
def Cp.rs (n : Nat) (c : Cp) : Cp := if c.k = 2 then pP (c.s.extract n c.s.size) else ⟨c.k, c.n - n, Em⟩
def joint (n : Nat) (c d : Cp) : List Cp := if d.k = 1 then [c.fr n] else if c.k = 1 then [d.fr n] else []
def restL (n : Nat) (c : Cp) (a : List Cp) : List Cp := if c.sz = n then a else c.rs n :: a
theorem restL_le (n : Nat) (c : Cp) (a : List Cp) : (restL n c a).length ≤ a.length + 1 := by unfold restL; split <;> simp
theorem restL_two (c d : Cp) (a b : List Cp) : (restL (min c.sz d.sz) c a).length + (restL (min c.sz d.sz) d b).length < a.length + 1 + (b.length + 1) := by
  have h1 := restL_le (min c.sz d.sz) c a
  have h2 := restL_le (min c.sz d.sz) d b
  by_cases h : c.sz ≤ d.sz
  · have : (restL (min c.sz d.sz) c a).length = a.length := by rw [restL, if_pos (by omega)]
    omega
  · have : (restL (min c.sz d.sz) d b).length = b.length := by rw [restL, if_pos (by omega)]
    omega
/-- Two, ahead of Normal, in n rounds. -/
def compF : Nat → List Cp → List Cp → List Cp
  | 0, _, _ => []
  | _ + 1, [], [] => []
  | n + 1, [], d :: b => if d.k = 2 then d :: compF n [] b else []
  | n + 1, c :: a, [] => if c.k = 3 then c :: compF n a [] else []
  | n + 1, c :: a, d :: b => if c.k = 3 then c :: compF n a (d :: b) else if d.k = 2 then d :: compF n (c :: a) b else joint (min c.sz d.sz) c d ++ compF n (restL (min c.sz d.sz) c a) (restL (min c.sz d.sz) d b)
theorem compF_eq : ∀ (n m : Nat) (a b : List Cp), a.length + b.length ≤ n → a.length + b.length ≤ m → compF n a b = compF m a b := by
  intro n
  induction n with
  | zero =>
    intro m a b h1 h2
    have e1 : a = [] := List.eq_nil_of_length_eq_zero (by omega)
    have e2 : b = [] := List.eq_nil_of_length_eq_zero (by omega)
    subst e1 e2
    cases m <;> rfl
  | succ n ih =>
    intro m a b h1 h2
    cases m with
    | zero =>
      have e1 : a = [] := List.eq_nil_of_length_eq_zero (by omega)
      have e2 : b = [] := List.eq_nil_of_length_eq_zero (by omega)
      subst e1 e2
      rfl
    | succ m =>
      cases a with
      | nil =>
        cases b with
        | nil => rfl
        | cons d b =>
          simp only [List.length_cons, List.length_nil] at h1 h2
          rw [compF, compF, ih m [] b (by simp; omega) (by simp; omega)]
      | cons c a =>
        cases b with
        | nil =>
          simp only [List.length_cons, List.length_nil] at h1 h2
          rw [compF, compF, ih m a [] (by simp; omega) (by simp; omega)]
        | cons d b =>
          have hlt := restL_two c d a b
          simp only [List.length_cons] at h1 h2
          rw [compF, compF, ih m a (d :: b) (by simp; omega) (by simp; omega), ih m (c :: a) b (by simp; omega) (by simp; omega), ih m (restL (min c.sz d.sz) c a) (restL (min c.sz d.sz) d b) (by omega) (by omega)]
/-- Two, ahead of Normal. -/
def compS (a b : List Cp) : List Cp := compF (a.length + b.length) a b
theorem comp_of {n : Nat} {a b : List Cp} (h : a.length + b.length ≤ n) : compF n a b = compS a b := compF_eq _ _ a b h (Nat.le_refl _)

theorem comp_nil : compS [] [] = [] := rfl
theorem comp_nilD (d : Cp) (b : List Cp) : compS [] (d :: b) = if d.k = 2 then d :: compS [] b else [] := by
  rw [← comp_of (n := b.length + 1) (by simp), compF, comp_of (by simp)]
theorem comp_Cnil (c : Cp) (a : List Cp) : compS (c :: a) [] = if c.k = 3 then c :: compS a [] else [] := by
  rw [← comp_of (n := a.length + 1) (by simp), compF, comp_of (by simp)]
theorem comp_CD (c d : Cp) (a b : List Cp) : compS (c :: a) (d :: b) = if c.k = 3 then c :: compS a (d :: b) else if d.k = 2 then d :: compS (c :: a) b else joint (min c.sz d.sz) c d ++ compS (restL (min c.sz d.sz) c a) (restL (min c.sz d.sz) d b) := by
  have hlt := restL_two c d a b
  rw [← comp_of (a := c :: a) (b := d :: b) (n := (a.length + b.length + 1) + 1) (by simp; omega), compF, comp_of (by simp; omega), comp_of (by simp; omega), comp_of (by omega)]
theorem comp_X {c : Cp} (h : c.k = 3) (a b : List Cp) : compS (c :: a) b = c :: compS a b := by
  cases b with
  | nil => rw [comp_Cnil, if_pos h]
  | cons d b => rw [comp_CD, if_pos h]
theorem comp_P {d : Cp} (h : d.k = 2) (a b : List Cp) (ha : ∀ c ∈ a.head?, c.k ≠ 3) : compS a (d :: b) = d :: compS a b := by
  cases a with
  | nil => rw [comp_nilD, if_pos h]
  | cons c a => rw [comp_CD, if_neg (ha c (by simp)), if_pos h]
theorem comp_J {c d : Cp} (hc : c.k ≠ 3) (hd : d.k ≠ 2) (a b : List Cp) : compS (c :: a) (d :: b) = joint (min c.sz d.sz) c d ++ compS (restL (min c.sz d.sz) c a) (restL (min c.sz d.sz) d b) := by
  rw [comp_CD, if_neg hc, if_neg hd]

theorem sz_K (n : Nat) : (pK n).sz = n := by simp [Cp.sz, pK, em_sz]
theorem sz_X (n : Nat) : (pX n).sz = n := by simp [Cp.sz, pX, em_sz]
theorem sz_P (s : ByteArray) : (pP s).sz = s.size := by simp [Cp.sz, pP]
theorem fr_K (n m : Nat) : (pK m).fr n = pK n := by simp [Cp.fr, pK]
theorem fr_X (n m : Nat) : (pX m).fr n = pX n := by simp [Cp.fr, pX]
theorem fr_P (n : Nat) (s : ByteArray) : (pP s).fr n = pP (s.extract 0 n) := by simp [Cp.fr, pP]
theorem rs_K (n m : Nat) (h : n ≤ m) : (pK m).rs n = pK ((m - n : Nat) : Int) := by simp [Cp.rs, pK]; omega
theorem rs_X (n m : Nat) (h : n ≤ m) : (pX m).rs n = pX ((m - n : Nat) : Int) := by simp [Cp.rs, pX]; omega
theorem rs_P (n : Nat) (s : ByteArray) : (pP s).rs n = pP (s.extract n s.size) := by simp [Cp.rs, pP]
theorem ext_len (s : ByteArray) (a b : Nat) (h : b ≤ s.size) : (s.extract a b).size = b - a := by
  rw [ByteArray.size_extract]; omega
theorem ext_list (s : ByteArray) (a b : Nat) : (s.extract a b).data.toList = (s.data.toList.drop a).take (b - a) := Lib.extract_data s a b

/-- A part that is cut in two does the same. -/
theorem rest_all {c : Cp} (hc : c.Ok) {a : List Cp} (ha : Good a) (n : Nat) (h1 : 1 ≤ n) (h2 : n ≤ c.sz) :
    Good (restL n c a) ∧ (c.fr n).Ok ∧ inS (c :: a) = (c.fr n).over + inS (restL n c a) ∧ outS (c :: a) = (c.fr n).outl + outS (restL n c a) ∧
    ∀ (α : Type) (f : UInt8 → α) (d : List α), act f d (c :: a) = act f d (c.fr n :: restL n c a) := by
  unfold restL
  rcases ok_cases hc with ⟨m, hm, rfl⟩ | ⟨s, hs, rfl⟩ | ⟨m, hm, rfl⟩
  · rw [sz_K] at h2 ⊢
    rw [fr_K, in_cons, out_cons, over_K, outl_K, over_K, outl_K]
    by_cases h : m = n
    · subst h
      rw [if_pos rfl]
      exact ⟨ha, okK (by omega), rfl, rfl, fun _ _ _ => rfl⟩
    · simp only [if_neg h, rs_K n m h2]
      refine ⟨good_mk (okK (by omega)) ha, okK (by omega), by rw [in_cons, over_K]; omega, by rw [out_cons, outl_K]; omega, fun α f d => ?_⟩
      rw [ac_K, ac_K, ac_K, List.drop_drop, ← List.append_assoc, ← List.take_add, show n + (m - n) = m by omega]
  · rw [sz_P] at h2 ⊢
    rw [fr_P, in_cons, out_cons, over_P, outl_P, over_P, outl_P]
    by_cases h : s.size = n
    · subst h
      rw [if_pos rfl]
      have e : s.extract 0 s.size = s := by
        apply ByteArray.ext; apply Array.ext'; rw [ext_list, List.drop_zero, List.take_of_length_le (by simp)]
      rw [e]
      exact ⟨ha, okP hs, rfl, rfl, fun _ _ _ => rfl⟩
    · simp only [if_neg h, rs_P n s]
      have e1 := ext_len s 0 n h2
      have e2 := ext_len s n s.size (Nat.le_refl _)
      refine ⟨good_mk (okP (by omega)) ha, okP (by omega), by rw [in_cons, over_P]; omega, by rw [out_cons, outl_P]; omega, fun α f d => ?_⟩
      rw [ac_P, ac_P, ac_P, ← List.append_assoc, ← List.map_append, ext_list, ext_list]
      congr 2
      rw [List.drop_zero, Nat.sub_zero]
      conv => lhs; rw [← List.take_append_drop n s.data.toList]
      congr 1
      rw [List.take_of_length_le (by simp)]
  · rw [sz_X] at h2 ⊢
    rw [fr_X, in_cons, out_cons, over_X, outl_X, over_X, outl_X]
    by_cases h : m = n
    · subst h
      rw [if_pos rfl]
      exact ⟨ha, okX (by omega), rfl, rfl, fun _ _ _ => rfl⟩
    · simp only [if_neg h, rs_X n m h2]
      refine ⟨good_mk (okX (by omega)) ha, okX (by omega), by rw [in_cons, over_X]; omega, by rw [out_cons, outl_X]; omega, fun α f d => ?_⟩
      rw [ac_X, ac_X, ac_X, List.drop_drop, show n + (m - n) = m by omega]

/-- What is known of a, and of b behind it, taken together. -/
structure CA (a b : List Cp) : Prop where
  good : Good (compS a b)
  ins : inS (compS a b) = inS a
  outs : outS (compS a b) = outS b
  acts : ∀ (α : Type) (f : UInt8 → α) (d : List α), inS a ≤ d.length → act f d (compS a b) = act f (act f d a) b

theorem Cp.Ok.szp {c : Cp} (h : c.Ok) : 1 ≤ c.sz := by
  rcases ok_cases h with ⟨m, hm, rfl⟩ | ⟨s, hs, rfl⟩ | ⟨m, hm, rfl⟩
  · rw [sz_K]; exact hm
  · rw [sz_P]; exact hs
  · rw [sz_X]; exact hm
theorem comp_all : ∀ (n : Nat) (a b : List Cp), a.length + b.length ≤ n → Good a → Good b → inS b = outS a → CA a b := by
  intro n
  induction n with
  | zero =>
    intro a b hn ha hb hi
    have h1 : a = [] := List.eq_nil_of_length_eq_zero (by omega)
    have h2 : b = [] := List.eq_nil_of_length_eq_zero (by omega)
    subst h1 h2
    exact ⟨by rw [comp_nil]; exact ha, by rw [comp_nil], by rw [comp_nil], fun α f d _ => by rw [comp_nil]; rfl⟩
  | succ n ih =>
    intro a b hn ha hb hi
    cases a with
    | nil =>
      cases b with
      | nil => exact ⟨by rw [comp_nil]; exact ha, by rw [comp_nil], by rw [comp_nil], fun α f d _ => by rw [comp_nil]; rfl⟩
      | cons d b =>
        have hnn := hb.tl.inS_nn
        rw [in_cons, outS] at hi
        rcases ok_cases hb.hd with ⟨m, hm, rfl⟩ | ⟨s, hs, rfl⟩ | ⟨m, hm, rfl⟩
        · rw [over_K] at hi; omega
        · rw [over_P, Int.zero_add] at hi
          have I := ih [] b (by simp at hn ⊢; omega) ha hb.tl (by rw [hi]; rfl)
          have e : compS [] (pP s :: b) = pP s :: compS [] b := comp_P rfl _ _ (by simp)
          refine ⟨by rw [e]; exact good_mk (okP hs) I.good, by rw [e, in_cons, over_P, Int.zero_add, I.ins], by rw [e, out_cons, out_cons, I.outs], fun α f x hx => ?_⟩
          rw [e, ac_P, I.acts α f x hx, ac_P]
        · rw [over_X] at hi; omega
    | cons c a =>
      by_cases hc3 : c.k = 3
      · rcases ok_cases ha.hd with ⟨m, hm, rfl⟩ | ⟨s, hs, rfl⟩ | ⟨m, hm, rfl⟩
        · simp [pK] at hc3
        · simp [pP] at hc3
        · rw [out_cons, outl_X, Int.zero_add] at hi
          have hnn := ha.tl.inS_nn
          have I := ih a b (by simp at hn ⊢; omega) ha.tl hb hi
          have e : compS (pX m :: a) b = pX m :: compS a b := comp_X rfl _ _
          refine ⟨by rw [e]; exact good_mk (okX (by omega)) I.good, by rw [e, in_cons, in_cons, I.ins], by rw [e, out_cons, outl_X, Int.zero_add, I.outs], fun α f x hx => ?_⟩
          rw [in_cons, over_X] at hx
          rw [e, ac_X, I.acts α f _ (by rw [List.length_drop]; omega), ac_X]
      · have hon := ha.tl.outS_nn
        cases b with
        | nil =>
          exfalso
          rw [out_cons, inS] at hi
          rcases ok_cases ha.hd with ⟨m, hm, rfl⟩ | ⟨s, hs, rfl⟩ | ⟨m, hm, rfl⟩
          · rw [outl_K] at hi; omega
          · rw [outl_P] at hi; omega
          · exact hc3 rfl
        | cons d b =>
          by_cases hd2 : d.k = 2
          · rcases ok_cases hb.hd with ⟨m, hm, rfl⟩ | ⟨s, hs, rfl⟩ | ⟨m, hm, rfl⟩
            · simp [pK] at hd2
            · rw [in_cons, over_P, Int.zero_add] at hi
              have I := ih (c :: a) b (by simp at hn ⊢; omega) ha hb.tl hi
              have e : compS (c :: a) (pP s :: b) = pP s :: compS (c :: a) b := comp_P rfl _ _ (by simpa using hc3)
              refine ⟨by rw [e]; exact good_mk (okP hs) I.good, by rw [e, in_cons, over_P, Int.zero_add, I.ins], by rw [e, out_cons, out_cons, I.outs], fun α f x hx => ?_⟩
              rw [e, ac_P, I.acts α f x hx, ac_P]
            · simp [pX] at hd2
          · have hlt := restL_two c d a b
            have hc1 := ha.hd.szp
            have hd1 := hb.hd.szp
            have e := comp_J hc3 hd2 a b
            obtain ⟨k, hk⟩ : ∃ k, min c.sz d.sz = k := ⟨_, rfl⟩
            rw [hk] at hlt e
            obtain ⟨ra1, ra2, ra3, ra4, ra5⟩ := rest_all ha.hd ha.tl k (by omega) (by omega)
            obtain ⟨rb1, rb2, rb3, rb4, rb5⟩ := rest_all hb.hd hb.tl k (by omega) (by omega)
            have hu : ∀ s : ByteArray, c = pP s → (s.extract 0 k).size = k := fun s h => by
              rw [ext_len s 0 k (by rw [h, sz_P] at hk; omega)]; omega
            have hin := ra1.inS_nn
            have hk1 : 1 ≤ k := by omega
            obtain ⟨A, hA⟩ : ∃ A, restL k c a = A := ⟨_, rfl⟩
            obtain ⟨B, hB⟩ : ∃ B, restL k d b = B := ⟨_, rfl⟩
            rw [hA] at ra1 ra3 ra4 ra5 hlt e hin
            rw [hB] at rb1 rb3 rb4 rb5 hlt e
            have I : (inS B = outS A → CA A B) := fun h => ih A B (by simp at hn; omega) ra1 rb1 h
            rcases ok_cases ha.hd with ⟨m, hm, rfl⟩ | ⟨s, hs, rfl⟩ | ⟨m, hm, rfl⟩
            · rw [fr_K] at ra2 ra3 ra4 ra5
              rw [over_K] at ra3
              rw [outl_K] at ra4
              rcases ok_cases hb.hd with ⟨p, hp, rfl⟩ | ⟨u, hu, rfl⟩ | ⟨p, hp, rfl⟩
              · rw [fr_K] at rb2 rb3 rb4 rb5
                rw [over_K] at rb3
                rw [outl_K] at rb4
                have J := I (by omega)
                rw [show joint k (pK m) (pK p) = [pK k] by simp [joint, pK, Cp.fr], List.singleton_append] at e
                refine ⟨by rw [e]; exact good_mk ra2 J.good, by rw [e, in_cons, over_K, J.ins, ra3], by rw [e, out_cons, outl_K, J.outs, rb4], fun α f x hx => ?_⟩
                rw [ra3] at hx
                have hl : (x.take k).length = k := by rw [List.length_take]; omega
                rw [e, ac_K, J.acts α f _ (by rw [List.length_drop]; omega), ra5, rb5, ac_K, ac_K, List.take_left' hl, List.drop_left' hl]
              · exact absurd rfl hd2
              · rw [fr_X] at rb2 rb3 rb4 rb5
                rw [over_X] at rb3
                rw [outl_X, Int.zero_add] at rb4
                have J := I (by omega)
                rw [show joint k (pK m) (pX p) = [pX k] by simp [joint, pK, pX, Cp.fr], List.singleton_append] at e
                refine ⟨by rw [e]; exact good_mk rb2 J.good, by rw [e, in_cons, over_X, J.ins, ra3], by rw [e, out_cons, outl_X, Int.zero_add, J.outs, rb4], fun α f x hx => ?_⟩
                rw [ra3] at hx
                have hl : (x.take k).length = k := by rw [List.length_take]; omega
                rw [e, ac_X, J.acts α f _ (by rw [List.length_drop]; omega), ra5, rb5, ac_K, ac_X, List.drop_left' hl]
            · have hsz := hu s rfl
              rw [fr_P] at ra2 ra3 ra4 ra5
              rw [over_P, Int.zero_add] at ra3
              rw [outl_P, hsz] at ra4
              have hl : ∀ (α : Type) (f : UInt8 → α), ((s.extract 0 k).data.toList.map f).length = k := fun α f => by
                rw [List.length_map]
                have : (s.extract 0 k).data.toList.length = (s.extract 0 k).size := by simp
                omega
              rcases ok_cases hb.hd with ⟨p, hp, rfl⟩ | ⟨u, hu, rfl⟩ | ⟨p, hp, rfl⟩
              · rw [fr_K] at rb2 rb3 rb4 rb5
                rw [over_K] at rb3
                rw [outl_K] at rb4
                have J := I (by omega)
                rw [show joint k (pP s) (pK p) = [pP (s.extract 0 k)] by simp [joint, pK, pP, Cp.fr], List.singleton_append] at e
                refine ⟨by rw [e]; exact good_mk ra2 J.good, by rw [e, in_cons, over_P, Int.zero_add, J.ins, ra3], by rw [e, out_cons, outl_P, J.outs, rb4, hsz], fun α f x hx => ?_⟩
                rw [ra3] at hx
                rw [e, ac_P, J.acts α f _ hx, ra5, rb5, ac_P, ac_K, List.take_left' (hl α f), List.drop_left' (hl α f)]
              · exact absurd rfl hd2
              · rw [fr_X] at rb2 rb3 rb4 rb5
                rw [over_X] at rb3
                rw [outl_X, Int.zero_add] at rb4
                have J := I (by omega)
                rw [show joint k (pP s) (pX p) = [] by simp [joint, pX, pP], List.nil_append] at e
                refine ⟨by rw [e]; exact J.good, by rw [e, J.ins, ra3], by rw [e, J.outs, rb4], fun α f x hx => ?_⟩
                rw [ra3] at hx
                rw [e, J.acts α f _ hx, ra5, rb5, ac_P, ac_X, List.drop_left' (hl α f)]
            · exact absurd rfl hc3
theorem comp_ca {a b : List Cp} (ha : Good a) (hb : Good b) (h : inS b = outS a) : CA a b := comp_all _ a b (Nat.le_refl _) ha hb h
theorem joint_len (n : Nat) (c d : Cp) : (joint n c d).length ≤ 1 := by unfold joint; split <;> (try split) <;> simp
theorem comp_len : ∀ (n : Nat) (a b : List Cp), a.length + b.length ≤ n → (compS a b).length ≤ a.length + b.length := by
  intro n
  induction n with
  | zero =>
    intro a b hn
    have h1 : a = [] := List.eq_nil_of_length_eq_zero (by omega)
    have h2 : b = [] := List.eq_nil_of_length_eq_zero (by omega)
    subst h1 h2
    rw [comp_nil]; simp
  | succ n ih =>
    intro a b hn
    cases a with
    | nil =>
      cases b with
      | nil => rw [comp_nil]; simp
      | cons d b =>
        rw [comp_nilD]
        have := ih [] b (by simp at hn ⊢; omega)
        split <;> simp at this ⊢ <;> omega
    | cons c a =>
      cases b with
      | nil =>
        rw [comp_Cnil]
        have := ih a [] (by simp at hn ⊢; omega)
        split <;> simp at this ⊢ <;> omega
      | cons d b =>
        rw [comp_CD]
        have i1 := ih a (d :: b) (by simp at hn ⊢; omega)
        have i2 := ih (c :: a) b (by simp at hn ⊢; omega)
        have hlt := restL_two c d a b
        have i3 := ih (restL (min c.sz d.sz) c a) (restL (min c.sz d.sz) d b) (by simp at hn; omega)
        have hj := joint_len (min c.sz d.sz) c d
        simp only [List.length_cons] at i1 i2 ⊢
        split
        · simp only [List.length_cons]; omega
        · split
          · simp only [List.length_cons]; omega
          · rw [List.length_append]; omega
theorem comp_le (a b : List Cp) : (compS a b).length ≤ a.length + b.length := comp_len _ a b (Nat.le_refl _)

/-- Parts that go over little, and make little, are not too great. -/
theorem fit_of {o : List Cp} (hg : Good o) (hl : o.length ≤ 1048576) (hi : inS o ≤ 1099511627776) (ho : outS o ≤ 1099511627776) : Fit o := ⟨hl, fun c hc => by
  have hm := mem_le hg c hc
  rcases ok_cases (hg c hc) with ⟨m, h1, rfl⟩ | ⟨s, h1, rfl⟩ | ⟨m, h1, rfl⟩
  · rw [over_K, outl_K] at hm
    exact ⟨by simp [pK], by simp [pK]; omega, by simp [pK, em_sz]⟩
  · rw [over_P, outl_P] at hm
    exact ⟨by simp [pP], by simp [pP], by simp [pP]; omega⟩
  · rw [over_X, outl_X] at hm
    exact ⟨by simp [pX], by simp [pX]; omega, by simp [pX, em_sz]⟩⟩

/-- Two. -/
def twoS (a b : List Cp) : List Cp := normS (compS a b)
structure TA (a b : List Cp) : Prop where
  good : Good (twoS a b)
  ins : inS (twoS a b) = inS a
  outs : outS (twoS a b) = outS b
  acts : ∀ (α : Type) (f : UInt8 → α) (d : List α), inS a ≤ d.length → act f d (twoS a b) = act f (act f d a) b
  len : (twoS a b).length ≤ a.length + b.length
theorem two_ta {a b : List Cp} (ha : Good a) (hb : Good b) (h : inS b = outS a) : TA a b := by
  have c := comp_ca ha hb h
  exact ⟨norm_good c.good, by rw [twoS, in_norm _ c.good, c.ins], by rw [twoS, out_norm _ c.good, c.outs], fun α f d hd => by rw [twoS, norm_act _ c.good, c.acts α f d hd], Nat.le_trans (len_norm _) (comp_le a b)⟩
theorem two_norm (a b : List Cp) : normS (twoS a b) = twoS a b := norm_norm _
/-- What does what a and b do is written as a and b, taken together. -/
theorem two_uniq {a b o : List Cp} (ha : Good a) (hb : Good b) (h : inS b = outS a) (ho : Good o) (hi : inS o = inS a) (hx : ∀ d : List (Nat ⊕ UInt8), inS a = d.length → act .inr d o = act .inr (act .inr d a) b) : twoS a b = normS o := by
  have c := comp_ca ha hb h
  refine uniq c.good ho (by rw [c.ins, hi]) (fun d hd => ?_)
  rw [c.ins] at hd
  rw [c.acts _ _ d (by omega), hx d hd]
theorem two_assoc {x y z : List Cp} (hx : Good x) (hy : Good y) (hz : Good z) (h1 : inS y = outS x) (h2 : inS z = outS y) : twoS (twoS x y) z = twoS x (twoS y z) := by
  have p := two_ta hx hy h1
  have q := two_ta hy hz h2
  have r := comp_ca hx q.good (by rw [q.ins, h1])
  refine two_uniq p.good hz (by rw [p.outs, h2]) r.good (by rw [r.ins, p.ins]) (fun d hd => ?_)
  rw [p.ins] at hd
  have hl := act_len (f := (Sum.inr : UInt8 → Nat ⊕ UInt8)) x d hx (by omega)
  rw [r.acts _ _ d (by omega), p.acts _ _ d (by omega), q.acts _ _ _ (by omega)]
theorem two_forms {x y : List Cp} (hx : Good x) (hy : Good y) (h : inS y = outS x) : twoS (normS x) (normS y) = twoS x y := by
  have c := comp_ca hx hy h
  refine two_uniq (norm_good hx) (norm_good hy) (by rw [in_norm _ hy, out_norm _ hx, h]) c.good (by rw [c.ins, in_norm _ hx]) (fun d hd => ?_)
  rw [in_norm _ hx] at hd
  rw [c.acts _ _ d (by omega), norm_act _ hx, norm_act _ hy]
/-- What keeps all of n bytes. -/
def idS (n : Nat) : List Cp := if n = 0 then [] else [pK n]
theorem id_good (n : Nat) : Good (idS n) := by
  unfold idS
  split
  · intro c hc; simp at hc
  · exact good_mk (okK (by omega)) (fun c hc => by simp at hc)
theorem id_in (n : Nat) : inS (idS n) = n := by
  unfold idS
  split
  · subst n; rfl
  · rw [in_cons, over_K]; simp [inS]
theorem id_out (n : Nat) : outS (idS n) = n := by
  unfold idS
  split
  · subst n; rfl
  · rw [out_cons, outl_K]; simp [outS]
theorem id_act {α : Type} (f : UInt8 → α) (d : List α) : act f d (idS d.length) = d := by
  unfold idS
  split
  · rename_i h; rw [List.eq_nil_of_length_eq_zero h]; rfl
  · rw [ac_K]; simp [act]
theorem id_len (n : Nat) : (idS n).length ≤ 1 := by unfold idS; split <;> simp
theorem id_two {x : List Cp} (hx : Good x) {n : Nat} (h : inS x = n) : twoS (idS n) x = normS x := by
  refine two_uniq (id_good n) hx (by rw [id_out, h]) hx (by rw [h, id_in]) (fun d hd => ?_)
  rw [id_in] at hd
  have : n = d.length := by omega
  rw [this, id_act]
theorem two_id {x : List Cp} (hx : Good x) {n : Nat} (h : outS x = n) : twoS x (idS n) = normS x := by
  refine two_uniq hx (id_good n) (by rw [id_in, h]) hx rfl (fun d hd => ?_)
  have h2 := act_len (f := (Sum.inr : UInt8 → Nat ⊕ UInt8)) x d hx (by omega)
  have : n = (act Sum.inr d x).length := by omega
  rw [this, id_act]
end Go.Proofs.Ytlgdllbhddnokab

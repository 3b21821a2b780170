/- What was written is read as it was; what is read was written so. -/
import Derived.Test.YtinifnpajkldbaaDoorPk27
import Derived.Test.YtinifnpajkldbaaDoorPk2
namespace Go.Proofs.YtinifnpajkldbaaDoor
open Go.RowKit
set_option linter.unusedSimpArgs false
set_option linter.unusedVariables false

theorem i1_cons (k : Int) : i1 k = [UInt8.ofNat (k % 18446744073709551616).toNat] := rfl
theorem next_i1 (k : Int) (r : List UInt8) : nextS (i1 k ++ r, 0) = (r, 0) := by simp [nextS, i1_cons]
theorem byte_i1 (k : Int) (r : List UInt8) (h0 : 0 ≤ k) (h1 : k < 256) : ((byteS (i1 k ++ r, 0) : Nat) : Int) = k := by
  simp only [byteS, i1_cons, List.cons_append, if_pos, UInt8.toNat_ofNat']
  omega
theorem jn_i8 (x : Int) (r : List UInt8) : jn 8 0 0 (i8 x ++ r, 0) = ((x % 18446744073709551616).toNat, (r, 0)) := by
  rw [i8, jn_ok 8 0 0 _ (by rw [List.length_append, le_length]; omega), List.take_left' (le_length 8 _), List.drop_left' (le_length 8 _), num_le 8 _ (by omega)]
  simp
theorem int_i8 (x : Int) (r : List UInt8) (h0 : -9223372036854775808 ≤ x) (h1 : x ≤ 9223372036854775807) : intV (i8 x ++ r, 0) = x := by
  rw [intV, jn_i8, intR, if_pos rfl]
  exact wrap_back x h0 h1
theorem intN_i8 (x : Int) (r : List UInt8) : intN (i8 x ++ r, 0) = (r, 0) := by rw [intN, jn_i8]
theorem text_tx (t r : List UInt8) (ht : t.length ≤ 65535) : textR (jn 2 0 0 (tx t ++ r, 0)) = (t, (r, 0)) := by
  have e1 : jn 2 0 0 (tx t ++ r, 0) = (t.length, (t ++ r, 0)) := by
    rw [tx, List.append_assoc, jn_ok 2 0 0 _ (by rw [List.length_append, le_length]; omega), List.take_left' (le_length 2 _), List.drop_left' (le_length 2 _), num_le 2 _ (by omega)]
    simp
  rw [e1]
  unfold textR
  rw [if_pos ⟨rfl, by simp⟩]
  simp
theorem txt_tx (t r : List UInt8) (ht : t.length ≤ 65535) : txtV (tx t ++ r, 0) = t := by rw [txtV, text_tx t r ht]
theorem txtN_tx (t r : List UInt8) (ht : t.length ≤ 65535) : txtN (tx t ++ r, 0) = (r, 0) := by rw [txtN, text_tx t r ht]

/-- A part whose numbers fit what they are written as. -/
def Cp.Fits (c : Cp) : Prop := 0 ≤ c.k ∧ c.k < 256 ∧ -9223372036854775808 ≤ c.n ∧ c.n ≤ 9223372036854775807 ∧ c.s.size ≤ 65535
theorem partB_eq (c : Cp) : partB c = i1 c.k ++ (i8 c.n ++ tx c.s.data.toList) := by
  have : c.s.size = c.s.data.toList.length := by simp
  rw [partB, tx, ← this]; simp
theorem part_read (c : Cp) (r : List UInt8) (h : c.Fits) : partV (partB c ++ r, 0) = c ∧ partN (partB c ++ r, 0) = (r, 0) := by
  obtain ⟨h1, h2, h3, h4, h5⟩ := h
  have hl : c.s.data.toList.length ≤ 65535 := by simpa using h5
  have e : partB c ++ r = i1 c.k ++ (i8 c.n ++ (tx c.s.data.toList ++ r)) := by rw [partB_eq]; simp
  rw [e]
  constructor
  · rw [partV, next_i1, intN_i8, int_i8 _ _ h3 h4, txt_tx _ _ hl, byte_i1 _ _ h1 h2]
  · rw [partN, next_i1, intN_i8, txtN_tx _ _ hl]
theorem parts_read : ∀ (o : List Cp) (r : List UInt8), (∀ c ∈ o, c.Fits) → partsV o.length (o.flatMap partB ++ r, 0) = o ∧ partsE o.length (o.flatMap partB ++ r, 0) = (r, 0)
  | [], r, _ => ⟨rfl, rfl⟩
  | c :: o, r, h => by
    have h1 := part_read c (o.flatMap partB ++ r) (h c (by simp))
    have h2 := parts_read o r (fun d hd => h d (by simp [hd]))
    rw [List.flatMap_cons, List.append_assoc, List.length_cons, partsV, partsE, h1.1, h1.2, h2.1, h2.2]
    exact ⟨rfl, rfl⟩
theorem byte_opB (o : List Cp) (h : o.length ≤ 255) : byteS (opB o, 0) = o.length := by
  have := byte_i1 (o.length : Int) (o.flatMap partB) (by omega) (by omega)
  rw [opB]
  omega
theorem opP_many (o : List Cp) (h : 40 < o.length) (h2 : o.length ≤ 255) : opP (opB o) = ([], 4) := by
  rw [opP, byte_opB o h2, if_pos h]
theorem opP_opB (o : List Cp) (hl : o.length ≤ 40) (h : ∀ c ∈ o, c.Fits) : opP (opB o) = if chkS o ≠ 0 then ([], chkS o) else (o, 0) := by
  have e : nextS (opB o, 0) = (o.flatMap partB ++ [], 0) := by rw [opB, next_i1]; simp
  have h1 := parts_read o [] h
  rw [opP, byte_opB o (by omega), if_neg (by omega), e, h1.1, h1.2, show endS ([], (0 : Int)) = 0 from rfl, if_neg (fun h => h rfl)]

theorem hash_read : ∀ (l : List UInt8) (r : List UInt8), hashV l.length (l ++ r, 0) = l ∧ hashN l.length (l ++ r, 0) = (r, 0)
  | [], r => ⟨rfl, rfl⟩
  | x :: l, r => by
    have h := hash_read l r
    have e1 : nextS (x :: l ++ r, 0) = (l ++ r, 0) := by simp [nextS]
    have e2 : byteS (x :: l ++ r, 0) = x.toNat := by simp [byteS]
    rw [List.length_cons, hashV, hashN, e1, e2, h.1, h.2]
    simp

/-- A delta whose numbers fit what they are written as. -/
def Dl.Fits (d : Dl) : Prop := (∀ x ∈ [d.aD, d.aU, d.id, d.ver, d.wD, d.wU], -9223372036854775808 ≤ x ∧ x ≤ 9223372036854775807) ∧ 0 ≤ d.k ∧ d.k < 256 ∧ d.h.length = 32
theorem fld_read (d : Dl) (o : List Cp) (h : d.Fits) (ho : (opB o).length ≤ 65535) : fldV (dB d o, 0) = d ∧ fldT (dB d o, 0) = opB o ∧ fldN (dB d o, 0) = ([], 0) := by
  obtain ⟨h1, h2, h3, h4⟩ := h
  simp only [List.mem_cons, List.not_mem_nil, or_false, forall_eq_or_imp, forall_eq] at h1
  obtain ⟨a1, a2, a3, a4, a5, a6⟩ := h1
  have e : dB d o = i8 d.aD ++ (i8 d.aU ++ (i8 d.id ++ (i8 d.ver ++ (d.h ++ (i1 d.k ++ (tx (opB o) ++ (i8 d.wD ++ (i8 d.wU ++ [])))))))) := by rw [dB]; simp
  have hh := hash_read d.h (i1 d.k ++ (tx (opB o) ++ (i8 d.wD ++ (i8 d.wU ++ []))))
  rw [h4] at hh
  refine ⟨?_, ?_, ?_⟩
  · rw [e, fldV]
    simp only [intN_i8, hh.1, hh.2, next_i1, txtN_tx _ _ ho]
    rw [int_i8 _ _ a1.1 a1.2, int_i8 _ _ a2.1 a2.2, int_i8 _ _ a3.1 a3.2, int_i8 _ _ a4.1 a4.2, int_i8 _ _ a5.1 a5.2, int_i8 _ _ a6.1 a6.2, byte_i1 _ _ h2 h3]
  · rw [e, fldT]
    simp only [intN_i8, hh.2, next_i1, txt_tx _ _ ho]
  · rw [e, fldN]
    simp only [intN_i8, hh.2, next_i1, txtN_tx _ _ ho]
theorem delP_dB (d : Dl) (o : List Cp) (h : d.Fits) (ho : (opB o).length ≤ 65535) (hp : opP (opB o) = (o, 0)) (hc : chkD d o = 0) : delP (dB d o) = (d, o, 0) := by
  obtain ⟨h1, h2, h3⟩ := fld_read d o h ho
  rw [delP, h1, h2, h3, hp, show endS ([], (0 : Int)) = 0 from rfl, if_neg (fun h => h rfl), if_neg (fun h => h rfl), hc, if_neg (fun h => h rfl)]

/-! What is read was written so. -/
theorem wrote_next {s : St} (h : (nextS s).2 = 0) : s.2 = 0 ∧ s.1 = i1 (byteS s) ++ (nextS s).1 := by
  obtain ⟨l, e⟩ := s
  by_cases he : e = 0
  · subst he
    cases l with
    | nil => simp [nextS] at h
    | cons x r =>
      refine ⟨rfl, ?_⟩
      have hx := x.toNat_lt
      simp only [nextS, byteS, if_pos, i1_cons, List.cons_append, List.nil_append, List.cons.injEq, and_true]
      have : (((x.toNat : Nat) : Int) % 18446744073709551616).toNat = x.toNat := by omega
      rw [this]; simp
  · rw [next_err (s := (l, e)) he] at h; exact absurd h he
theorem le_num : ∀ (l : List UInt8), le l.length (num l) = l
  | [] => rfl
  | b :: r => by
    have hb := b.toNat_lt
    rw [List.length_cons, num, le]
    have e1 : (b.toNat + 256 * num r) / 256 = num r := by omega
    rw [e1, le_num r]
    congr 1
    apply UInt8.toNat_inj.1
    rw [UInt8.toNat_ofNat']
    omega
theorem num_lt' : ∀ l : List UInt8, num l < 256 ^ l.length
  | [] => by simp [num]
  | b :: r => by
    have h1 := num_lt' r
    have h2 := b.toNat_lt
    rw [num, List.length_cons, Nat.pow_succ]
    omega
theorem wrote_int {s : St} (h : (intN s).2 = 0) : s.2 = 0 ∧ s.1 = i8 (intV s) ++ (intN s).1 := by
  obtain ⟨l, e⟩ := s
  by_cases he : e = 0
  · subst he
    by_cases h8 : 8 ≤ l.length
    · refine ⟨rfl, ?_⟩
      have hj := jn_ok 8 0 0 l h8
      have htl : (l.take 8).length = 8 := by rw [List.length_take]; omega
      have hlt := num_lt' (l.take 8)
      rw [htl] at hlt
      rw [intV, intN, hj, intR, if_pos rfl]
      have e1 : (wrap64 ((0 + num (l.take 8) * 256 ^ 0 : Nat) : Int) % 18446744073709551616).toNat = num (l.take 8) := by simp only [wrap64]; omega
      rw [i8, e1]
      have := le_num (l.take 8)
      rw [htl] at this
      rw [this]
      exact (List.take_append_drop 8 l).symm
    · rw [intN, jn_short 8 0 0 l (by omega)] at h; exact absurd h (by simp)
  · rw [int_err (s := (l, e)) he] at h; exact absurd h he
theorem wrote_txt {s : St} (h : (txtN s).2 = 0) : s.2 = 0 ∧ s.1 = tx (txtV s) ++ (txtN s).1 := by
  obtain ⟨l, e⟩ := s
  by_cases he : e = 0
  · subst he
    by_cases h2 : 2 ≤ l.length
    · refine ⟨rfl, ?_⟩
      have hj := jn_ok 2 0 0 l h2
      have htl : (l.take 2).length = 2 := by rw [List.length_take]; omega
      have hlt := num_lt' (l.take 2)
      rw [htl] at hlt
      simp only [Nat.pow_zero, Nat.mul_one, Nat.zero_add] at hj
      by_cases hn : num (l.take 2) ≤ (l.drop 2).length
      · have e1 : textR (jn 2 0 0 (l, 0)) = ((l.drop 2).take (num (l.take 2)), ((l.drop 2).drop (num (l.take 2)), 0)) := by
          rw [hj]; unfold textR; rw [if_pos ⟨rfl, hn⟩]
        rw [txtV, txtN, e1, tx]
        have e2 : ((l.drop 2).take (num (l.take 2))).length = num (l.take 2) := by rw [List.length_take]; omega
        show l = le 2 ((l.drop 2).take (num (l.take 2))).length ++ (l.drop 2).take (num (l.take 2)) ++ (l.drop 2).drop (num (l.take 2))
        rw [e2]
        have := le_num (l.take 2)
        rw [htl] at this
        rw [this, List.append_assoc, List.take_append_drop, List.take_append_drop]
      · have e1 : textR (jn 2 0 0 (l, 0)) = ([], failS (l.drop 2, 0) 8) := by
          rw [hj]; unfold textR; rw [if_neg (fun h => hn h.2)]
        rw [txtN, e1] at h
        simp [failS] at h
    · have e1 : jn 2 0 0 (l, 0) = ((jn 2 0 0 (l, 0)).1, ([], 8)) := by rw [← jn_short 2 0 0 l (by omega)]
      rw [txtN, e1] at h
      unfold textR at h
      rw [if_neg (fun h => absurd h.1 (by simp))] at h
      simp [failS] at h
  · rw [txt_err (s := (l, e)) he] at h; exact absurd h he
theorem wrote_part {s : St} (h : (partN s).2 = 0) : s.2 = 0 ∧ s.1 = partB (partV s) ++ (partN s).1 := by
  obtain ⟨h1, e1⟩ := wrote_txt h
  obtain ⟨h2, e2⟩ := wrote_int h1
  obtain ⟨h3, e3⟩ := wrote_next h2
  refine ⟨h3, ?_⟩
  rw [partB_eq]
  conv => lhs; rw [e3, e2, e1]
  simp [partV, partN]
theorem wrote_parts : ∀ (n : Nat) {s : St}, (partsE n s).2 = 0 → s.2 = 0 ∧ s.1 = (partsV n s).flatMap partB ++ (partsE n s).1
  | 0, s, h => ⟨h, by simp [partsV, partsE]⟩
  | n + 1, s, h => by
    obtain ⟨h1, e1⟩ := wrote_parts n (s := partN s) h
    obtain ⟨h2, e2⟩ := wrote_part h1
    refine ⟨h2, ?_⟩
    conv => lhs; rw [e2, e1]
    simp [partsV, partsE]
theorem wrote_hash : ∀ (n : Nat) {s : St}, (hashN n s).2 = 0 → s.2 = 0 ∧ s.1 = hashV n s ++ (hashN n s).1
  | 0, s, h => ⟨h, by simp [hashV, hashN]⟩
  | n + 1, s, h => by
    obtain ⟨h1, e1⟩ := wrote_hash n (s := nextS s) h
    obtain ⟨h2, e2⟩ := wrote_next h1
    refine ⟨h2, ?_⟩
    have hb := byteS_lt s
    have e3 : i1 (byteS s : Nat) = [UInt8.ofNat (byteS s)] := by
      rw [i1_cons]
      congr 2
      omega
    conv => lhs; rw [e2, e1, e3]
    simp [hashV, hashN]
theorem end_ok {s : St} (h : endS s = 0) : s = ([], 0) := by
  obtain ⟨l, e⟩ := s
  unfold endS at h
  by_cases he : e = 0
  · subst he
    by_cases hl : l = []
    · rw [hl]
    · simp [hl] at h
  · simp [he] at h
theorem opB_opP {b : List UInt8} (h : (opP b).2 = 0) : opB (opP b).1 = b ∧ chkS (opP b).1 = 0 ∧ (opP b).1.length ≤ 40 := by
  by_cases h40 : 40 < byteS (b, 0)
  · rw [opP, if_pos h40] at h; exact absurd h (by simp)
  by_cases he : endS (partsE (byteS (b, 0)) (nextS (b, 0))) = 0
  case neg => rw [opP, if_neg h40, if_pos he] at h; exact absurd h he
  by_cases hc : chkS (partsV (byteS (b, 0)) (nextS (b, 0))) = 0
  case neg => rw [opP, if_neg h40, if_neg (fun h => h he), if_pos hc] at h; exact absurd h hc
  have hE := end_ok he
  obtain ⟨h1, e1⟩ := wrote_parts _ (s := nextS (b, 0)) (by rw [hE])
  obtain ⟨h2, e2⟩ := wrote_next h1
  rw [hE] at e1
  have hP : opP b = (partsV (byteS (b, 0)) (nextS (b, 0)), 0) := by rw [opP, if_neg h40, if_neg (fun h => h he), if_neg (fun h => h hc)]
  rw [hP]
  refine ⟨?_, hc, by rw [partsV_len]; omega⟩
  rw [opB, partsV_len]
  rw [e1] at e2
  simpa using e2.symm
theorem wrote_flds (n : Nat) (s : St) (h : (intN (intN (txtN (nextS (hashN n (intN (intN (intN (intN s))))))))).2 = 0) :
    s.1 = i8 (intV s) ++ (i8 (intV (intN s)) ++ (i8 (intV (intN (intN s))) ++ (i8 (intV (intN (intN (intN s)))) ++ (hashV n (intN (intN (intN (intN s)))) ++
      (i1 (byteS (hashN n (intN (intN (intN (intN s)))))) ++ (tx (txtV (nextS (hashN n (intN (intN (intN (intN s))))))) ++
        (i8 (intV (txtN (nextS (hashN n (intN (intN (intN (intN s)))))))) ++ (i8 (intV (intN (txtN (nextS (hashN n (intN (intN (intN (intN s))))))))) ++
          (intN (intN (txtN (nextS (hashN n (intN (intN (intN (intN s))))))))).1)))))))) := by
  obtain ⟨h8, e8⟩ := wrote_int h
  obtain ⟨h7, e7⟩ := wrote_int h8
  obtain ⟨h6, e6⟩ := wrote_txt h7
  obtain ⟨h5, e5⟩ := wrote_next h6
  obtain ⟨h4, e4⟩ := wrote_hash n h5
  obtain ⟨h3, e3⟩ := wrote_int h4
  obtain ⟨h2, e2⟩ := wrote_int h3
  obtain ⟨h1, e1⟩ := wrote_int h2
  obtain ⟨h0, e0⟩ := wrote_int h1
  rw [← e8, ← e7, ← e6, ← e5, ← e4, ← e3, ← e2, ← e1]
  exact e0
theorem dB_fld (b : List UInt8) (o : List Cp) (ho : opB o = fldT (b, 0)) (hE : fldN (b, 0) = ([], 0)) : dB (fldV (b, 0)) o = b := by
  have h := wrote_flds 32 (b, 0) (by have := congrArg Prod.snd hE; unfold fldN at this; exact this)
  have h9 : (intN (intN (txtN (nextS (hashN 32 (intN (intN (intN (intN (b, (0 : Int)))))))))) ).1 = [] := by have := congrArg Prod.fst hE; unfold fldN at this; exact this
  rw [h9] at h
  unfold dB
  rw [ho]
  unfold fldV fldT
  simp only [List.append_assoc, List.append_nil] at h ⊢
  exact h.symm
theorem pick_ok (F : St) (V : Dl) (P : List Cp × Int) (X : Dl × List Cp × Int)
    (hX : X = if endS F ≠ 0 then (Dl.zero, [], endS F) else if P.2 ≠ 0 then (Dl.zero, [], P.2) else if chkD V P.1 ≠ 0 then (Dl.zero, [], chkD V P.1) else (V, P.1, 0)) (h : X.2.2 = 0) :
    endS F = 0 ∧ P.2 = 0 ∧ chkD V P.1 = 0 ∧ X = (V, P.1, 0) := by
  by_cases he : endS F = 0
  case neg => rw [if_pos he] at hX; rw [hX] at h; exact absurd h he
  by_cases ho : P.2 = 0
  case neg => rw [if_neg (fun h => h he), if_pos ho] at hX; rw [hX] at h; exact absurd h ho
  by_cases hc : chkD V P.1 = 0
  case neg => rw [if_neg (fun h => h he), if_neg (fun h => h ho), if_pos hc] at hX; rw [hX] at h; exact absurd h hc
  rw [if_neg (fun h => h he), if_neg (fun h => h ho), if_neg (fun h => h hc)] at hX
  exact ⟨he, ho, hc, hX⟩
theorem delP_ok {b : List UInt8} (h : (delP b).2.2 = 0) :
    endS (fldN (b, 0)) = 0 ∧ (opP (fldT (b, 0))).2 = 0 ∧ chkD (fldV (b, 0)) (opP (fldT (b, 0))).1 = 0 ∧ delP b = (fldV (b, 0), (opP (fldT (b, 0))).1, 0) :=
  pick_ok _ _ _ _ (by unfold delP; rfl) h
theorem dB_delP {b : List UInt8} (h : (delP b).2.2 = 0) : dB (delP b).1 (delP b).2.1 = b ∧ chkD (delP b).1 (delP b).2.1 = 0 ∧ chkS (delP b).2.1 = 0 ∧ (delP b).2.1.length ≤ 40 ∧ (delP b).1.h.length = 32 := by
  obtain ⟨he, ho, hc, hP⟩ := delP_ok h
  obtain ⟨o1, o2, o3⟩ := opB_opP ho
  have h1 := dB_fld b _ o1 (end_ok he)
  have h2 := fldV_len (b, 0)
  rw [hP]
  generalize fldV (b, 0) = V at *
  generalize opP (fldT (b, 0)) = X at *
  exact ⟨h1, hc, o2, o3, h2⟩
end Go.Proofs.YtinifnpajkldbaaDoor

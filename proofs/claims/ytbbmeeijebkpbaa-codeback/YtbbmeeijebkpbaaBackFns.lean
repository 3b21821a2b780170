/- Plain facts for the law CodeBack: what is written one behind the other, and what a Reader is at behind each. -/
import Derived.Test.YtbbmeeijebkpbaaPlain
namespace Go.Proofs.Ytbbmeeijebkpbaa
open Go.RowKit

def ints (l : List Int) : List UInt8 := l.flatMap fun x => le 8 (x % 18446744073709551616).toNat
def texts (l : List ByteArray) : List UInt8 := l.flatMap fun s => le 2 s.size ++ s.data.toList

theorem ints_len (l : List Int) : (ints l).length = 8 * l.length := by
  induction l with
  | nil => rfl
  | cons x r ih =>
    have e : ints (x :: r) = le 8 (x % 18446744073709551616).toNat ++ ints r := by simp [ints]
    rw [e, List.length_append, le_length, ih, List.length_cons]
    omega

theorem texts_len (l : List ByteArray) (h : ∀ s ∈ l, s.size ≤ 200) : (texts l).length ≤ 202 * l.length := by
  induction l with
  | nil => simp [texts]
  | cons x r ih =>
    have e : texts (x :: r) = le 2 x.size ++ x.data.toList ++ texts r := by simp [texts]
    have h1 := ih (fun s hs => h s (List.mem_cons_of_mem _ hs))
    have h2 := h x (List.mem_cons_self)
    have h3 := size_toList x
    rw [e, List.length_append, List.length_append, le_length, List.length_cons]
    omega

theorem ints_take (l : List Int) (j : Nat) (x : Int) (h : l[j]? = some x) : ints (l.take (j + 1)) = ints (l.take j) ++ le 8 (x % 18446744073709551616).toNat := by
  have e : l.take (j + 1) = l.take j ++ [x] := by rw [List.take_add_one, h]; rfl
  rw [e]
  simp [ints]

theorem texts_take (l : List ByteArray) (j : Nat) (x : ByteArray) (h : l[j]? = some x) : texts (l.take (j + 1)) = texts (l.take j) ++ le 2 x.size ++ x.data.toList := by
  have e : l.take (j + 1) = l.take j ++ [x] := by rw [List.take_add_one, h]; rfl
  rw [e]
  simp [texts]

theorem ints_drop (l : List Int) (j : Nat) (x : Int) (h : l[j]? = some x) : ints (l.drop j) = le 8 (x % 18446744073709551616).toNat ++ ints (l.drop (j + 1)) := by
  have hj := (List.getElem?_eq_some_iff.1 h)
  have e : l.drop j = x :: l.drop (j + 1) := by rw [List.drop_eq_getElem_cons hj.1, hj.2]
  rw [e]
  simp [ints]

theorem texts_drop (l : List ByteArray) (j : Nat) (x : ByteArray) (h : l[j]? = some x) : texts (l.drop j) = le 2 x.size ++ (x.data.toList ++ texts (l.drop (j + 1))) := by
  have hj := (List.getElem?_eq_some_iff.1 h)
  have e : l.drop j = x :: l.drop (j + 1) := by rw [List.drop_eq_getElem_cons hj.1, hj.2]
  rw [e]
  simp [texts]

/-- Where a Reader is: 0: at R; 1: at R and a byte more; 2: it lacks the last byte of R, or has met that. -/
def At (k : Nat) (R : List UInt8) (s : St) (ok : Bool) : Prop :=
  (k = 0 ∧ ok = true ∧ s = (R, 0)) ∨ (k = 1 ∧ ok = true ∧ s = (R ++ [7], 0)) ∨ (k = 2 ∧ (s.2 = 8 ∨ (s = (R.dropLast, 0) ∧ R ≠ [])))

theorem At.len {k : Nat} {R : List UInt8} {s : St} {ok : Bool} (h : At k R s ok) (hs : s.2 = 0) : s.1.length ≤ R.length + 1 := by
  rcases h with ⟨_, _, rfl⟩ | ⟨_, _, rfl⟩ | ⟨_, h8 | ⟨rfl, _⟩⟩
  · simp
  · simp
  · rw [h8] at hs; cases hs
  · simp; omega

theorem drop_last_app (a b : List UInt8) (h : b ≠ []) : (a ++ b).dropLast = a ++ b.dropLast := List.dropLast_append_of_ne_nil h

theorem At.int {k : Nat} {x : Int} {R : List UInt8} {s : St} {ok : Bool} (h0 : -9223372036854775808 ≤ x) (h1 : x ≤ 9223372036854775807) (h : At k (le 8 (x % 18446744073709551616).toNat ++ R) s ok) :
    At k R (jn 8 0 0 s).2 (decide (intR (jn 8 0 0 s) = x) && ok) := by
  have key : ∀ r : List UInt8, jn 8 0 0 (le 8 (x % 18446744073709551616).toNat ++ r, 0) = ((x % 18446744073709551616).toNat, (r, 0)) := by
    intro r
    rw [jn_ok 8 0 0 _ (by rw [List.length_append, le_length]; omega), List.take_left' (le_length 8 _), List.drop_left' (le_length 8 _), num_le 8 _ (by omega)]
    simp
  have key2 : ∀ r : List UInt8, intR ((x % 18446744073709551616).toNat, (r, (0 : Int))) = x := by
    intro r
    unfold intR
    rw [if_pos rfl]
    exact wrap_back x h0 h1
  rcases h with ⟨rfl, rfl, rfl⟩ | ⟨rfl, rfl, rfl⟩ | ⟨rfl, h8 | ⟨rfl, hne⟩⟩
  · rw [key, key2]
    exact .inl ⟨rfl, by simp, rfl⟩
  · rw [List.append_assoc, key, key2]
    exact .inr (.inl ⟨rfl, by simp, rfl⟩)
  · refine .inr (.inr ⟨rfl, .inl ?_⟩)
    rw [jn_err 8 0 0 s (by rw [h8]; decide)]
    exact h8
  · refine .inr (.inr ⟨rfl, ?_⟩)
    by_cases hR : R = []
    · subst hR
      left
      rw [jn_short 8 0 0 _ (by rw [List.append_nil, List.length_dropLast, le_length]; omega)]
    · right
      rw [drop_last_app _ _ hR, key]
      exact ⟨rfl, hR⟩

theorem At.text {k : Nat} {t R : List UInt8} {s : St} {ok : Bool} (ht : t.length ≤ 65535) (h : At k (le 2 t.length ++ (t ++ R)) s ok) :
    At k R (textR (jn 2 0 0 s)).2 (decide ((textR (jn 2 0 0 s)).1 = t) && ok) := by
  have key : ∀ r : List UInt8, textR (jn 2 0 0 (le 2 t.length ++ (t ++ r), 0)) = (t, (r, 0)) := by
    intro r
    rw [jn_ok 2 0 0 _ (by rw [List.length_append, le_length]; omega), List.take_left' (le_length 2 _), List.drop_left' (le_length 2 _), num_le 2 _ (by omega)]
    unfold textR
    rw [if_pos ⟨rfl, by simp⟩]
    simp
  rcases h with ⟨rfl, rfl, rfl⟩ | ⟨rfl, rfl, rfl⟩ | ⟨rfl, h8 | ⟨rfl, hne⟩⟩
  · rw [key]
    exact .inl ⟨rfl, by simp, rfl⟩
  · rw [List.append_assoc, List.append_assoc, key]
    exact .inr (.inl ⟨rfl, by simp, rfl⟩)
  · refine .inr (.inr ⟨rfl, .inl ?_⟩)
    rw [jn_err 2 0 0 s (by rw [h8]; decide)]
    simp [textR, failS, h8]
  · refine .inr (.inr ⟨rfl, ?_⟩)
    by_cases hR : R = []
    · subst hR
      left
      rw [List.append_nil]
      by_cases htn : t = []
      · subst htn
        rw [List.append_nil]
        have hs := jn_short 2 0 0 (le 2 ([] : List UInt8).length).dropLast (by rw [List.length_dropLast, le_length]; omega)
        unfold textR
        rw [hs]
        simp [failS]
      · rw [drop_last_app _ _ htn]
        rw [jn_ok 2 0 0 _ (by rw [List.length_append, le_length]; omega), List.take_left' (le_length 2 _), List.drop_left' (le_length 2 _), num_le 2 _ (by omega)]
        have hpos : 0 < t.length := List.length_pos_iff.2 htn
        have hno : ¬ (0 + t.length * 256 ^ 0 ≤ t.dropLast.length) := by rw [List.length_dropLast]; omega
        unfold textR
        rw [if_neg (fun h => hno h.2)]
        simp [failS]
    · right
      rw [drop_last_app _ _ (by simp [hR]), drop_last_app _ _ hR, key]
      exact ⟨rfl, hR⟩

theorem At.byte {k n : Nat} {R : List UInt8} {s : St} (hn : n < 256) (h : At k (le 1 n ++ R) s true) : At k R (nextS s) (decide ((byteS s : Int) = (n : Int))) := by
  have hb : ∀ r : List UInt8, byteS (le 1 n ++ r, 0) = n ∧ nextS (le 1 n ++ r, 0) = (r, 0) := by
    intro r
    simp [byteS, nextS, le, UInt8.toNat_ofNat']
    omega
  rcases h with ⟨rfl, _, rfl⟩ | ⟨rfl, _, rfl⟩ | ⟨rfl, h8 | ⟨rfl, hne⟩⟩
  · rw [(hb R).1, (hb R).2]
    exact .inl ⟨rfl, by simp, rfl⟩
  · rw [List.append_assoc, (hb _).1, (hb _).2]
    exact .inr (.inl ⟨rfl, by simp, rfl⟩)
  · refine .inr (.inr ⟨rfl, .inl ?_⟩)
    simp [nextS, h8]
  · refine .inr (.inr ⟨rfl, ?_⟩)
    by_cases hR : R = []
    · subst hR
      left
      simp [nextS, le]
    · right
      rw [drop_last_app _ _ hR, (hb _).2]
      exact ⟨rfl, hR⟩

theorem At.done {k : Nat} {s : St} {ok : Bool} (h : At k [] s ok) : (k = 0 → ok = true ∧ endS s = 0) ∧ (k = 1 → ok = true ∧ endS s = 9) ∧ (k = 2 → endS s = 8) := by
  rcases h with ⟨rfl, h1, rfl⟩ | ⟨rfl, h1, rfl⟩ | ⟨rfl, h8 | ⟨rfl, hne⟩⟩
  · exact ⟨fun _ => ⟨h1, by simp [endS]⟩, (fun h => by cases h), (fun h => by cases h)⟩
  · exact ⟨(fun h => by cases h), fun _ => ⟨h1, by simp [endS]⟩, (fun h => by cases h)⟩
  · exact ⟨(fun h => by cases h), (fun h => by cases h), fun _ => by simp [endS, h8]⟩
  · exact absurd rfl hne

theorem str_eq (l : List UInt8) (x : ByteArray) : l = x.data.toList ↔ (⟨l.toArray⟩ : ByteArray) = x := by
  constructor
  · intro h; subst h; rfl
  · intro h; subst h; rfl

theorem At.all {k : Nat} {R : List UInt8} {s : St} {ok : Bool} (h : At k R s ok) (hk : k ≠ 2) : ok = true := by
  rcases h with ⟨_, h1, _⟩ | ⟨_, h1, _⟩ | ⟨h1, _⟩
  · exact h1
  · exact h1
  · exact absurd h1 hk

theorem str_ne {a b : ByteArray} (h : ¬ a = b) : (a.toList == b.toList) = false := by
  rw [beq_eq_false_iff_ne]
  intro h2
  exact h (ByteArray.ext (Array.ext' (by rw [← ByteArray.toList_eq, ← ByteArray.toList_eq]; exact h2)))

theorem textR_le (r : Nat × St) : (textR r).2.1.length ≤ r.2.1.length := by
  unfold textR
  split
  · simp
  · unfold failS
    split <;> simp
end Go.Proofs.Ytbbmeeijebkpbaa

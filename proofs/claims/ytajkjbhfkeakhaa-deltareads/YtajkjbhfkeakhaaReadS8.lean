/- How an operation and a delta are read: functions of what a Reader holds. -/
import Derived.Test.YtajkjbhfkeakhaaPlain
import Derived.Test.YtajkjbhfkeakhaaDCheck
namespace Go.Proofs.Ytajkjbhfkeakhaa
open Go.RowKit
set_option linter.unusedSimpArgs false
set_option linter.unusedVariables false

def intV (s : St) : Int := intR (jn 8 0 0 s)
def intN (s : St) : St := (jn 8 0 0 s).2
def txtV (s : St) : List UInt8 := (textR (jn 2 0 0 s)).1
def txtN (s : St) : St := (textR (jn 2 0 0 s)).2

theorem intN_len (s : St) : (intN s).1.length ≤ s.1.length := jn_len 8 0 0 s
theorem failS_len (s : St) (e : Int) : (failS s e).1.length ≤ s.1.length := by unfold failS; split <;> simp
theorem txtN_len (s : St) : (txtN s).1.length ≤ s.1.length := by
  have h := jn_len 2 0 0 s
  unfold txtN textR
  split
  · simp; omega
  · exact Nat.le_trans (failS_len _ _) h
theorem txtV_len (s : St) : (txtV s).length ≤ 65535 := by
  have h := jn_lt 2 0 0 s (by simp)
  unfold txtV textR
  split
  · simp; omega
  · simp

def partV (s : St) : Cp := ⟨byteS s, intV (nextS s), ⟨(txtV (intN (nextS s))).toArray⟩⟩
def partN (s : St) : St := txtN (intN (nextS s))
theorem partN_len (s : St) : (partN s).1.length ≤ s.1.length := Nat.le_trans (txtN_len _) (Nat.le_trans (intN_len _) (nextS_len _))
theorem partV_size (s : St) : (partV s).s.size ≤ 65535 := txtV_len _
def partsV : Nat → St → List Cp
  | 0, _ => []
  | n + 1, s => partV s :: partsV n (partN s)
def partsE : Nat → St → St
  | 0, s => s
  | n + 1, s => partsE n (partN s)
theorem partsV_len : ∀ (n : Nat) (s : St), (partsV n s).length = n
  | 0, _ => rfl
  | n + 1, s => by rw [partsV, List.length_cons, partsV_len]
theorem partsV_size : ∀ (n : Nat) (s : St), ∀ c ∈ partsV n s, c.s.size ≤ 65535
  | 0, _, c, h => by simp [partsV] at h
  | n + 1, s, c, h => by
    rw [partsV, List.mem_cons] at h
    rcases h with rfl | h
    · exact partV_size s
    · exact partsV_size n _ c h
theorem partsE_len : ∀ (n : Nat) (s : St), (partsE n s).1.length ≤ s.1.length
  | 0, _ => Nat.le_refl _
  | n + 1, s => Nat.le_trans (partsE_len n _) (partN_len s)

/-- Where there is an error nothing is read. -/
theorem next_err {s : St} (h : s.2 ≠ 0) : nextS s = s := by simp [nextS, h]
theorem int_err {s : St} (h : s.2 ≠ 0) : intN s = s := by unfold intN; rw [jn_err 8 0 0 s h]
theorem txt_err {s : St} (h : s.2 ≠ 0) : txtN s = s := by
  unfold txtN textR
  rw [jn_err 2 0 0 s h, if_neg (fun e => h e.1)]
  simp [failS, h]
theorem part_err {s : St} (h : s.2 ≠ 0) : partN s = s := by unfold partN; rw [next_err h, int_err h, txt_err h]
theorem parts_err : ∀ (n : Nat) {s : St}, s.2 ≠ 0 → partsE n s = s
  | 0, _, _ => rfl
  | n + 1, s, h => by rw [partsE, part_err h, parts_err n h]
theorem endS_err {s : St} (h : s.2 ≠ 0) : endS s = s.2 := by simp [endS, h]

/-- An operation, read: its parts and the error. -/
def opP (b : List UInt8) : List Cp × Int :=
  if 40 < byteS (b, 0) then ([], 4) else
  if endS (partsE (byteS (b, 0)) (nextS (b, 0))) ≠ 0 then ([], endS (partsE (byteS (b, 0)) (nextS (b, 0)))) else
  if chkS (partsV (byteS (b, 0)) (nextS (b, 0))) ≠ 0 then ([], chkS (partsV (byteS (b, 0)) (nextS (b, 0)))) else (partsV (byteS (b, 0)) (nextS (b, 0)), 0)

def hashV : Nat → St → List UInt8
  | 0, _ => []
  | n + 1, s => UInt8.ofNat (byteS s) :: hashV n (nextS s)
def hashN : Nat → St → St
  | 0, s => s
  | n + 1, s => hashN n (nextS s)
theorem hashV_len : ∀ (n : Nat) (s : St), (hashV n s).length = n
  | 0, _ => rfl
  | n + 1, s => by rw [hashV, List.length_cons, hashV_len]
theorem hashN_len : ∀ (n : Nat) (s : St), (hashN n s).1.length ≤ s.1.length
  | 0, _ => Nat.le_refl _
  | n + 1, s => Nat.le_trans (hashN_len n _) (nextS_len s)

/-- A delta's numbers, the text of its operation, and what is left. -/
def fldV (s : St) : Dl :=
  { aD := intV s, aU := intV (intN s), id := intV (intN (intN s)), ver := intV (intN (intN (intN s))), h := hashV 32 (intN (intN (intN (intN s)))),
    k := byteS (hashN 32 (intN (intN (intN (intN s))))), wD := intV (txtN (nextS (hashN 32 (intN (intN (intN (intN s))))))), wU := intV (intN (txtN (nextS (hashN 32 (intN (intN (intN (intN s)))))))) }
def fldT (s : St) : List UInt8 := txtV (nextS (hashN 32 (intN (intN (intN (intN s))))))
def fldN (s : St) : St := intN (intN (txtN (nextS (hashN 32 (intN (intN (intN (intN s))))))))
theorem fldV_len (s : St) : (fldV s).h.length = 32 := hashV_len 32 _
theorem fldT_len (s : St) : (fldT s).length ≤ 65535 := txtV_len _

/-- A delta, read: it, its operation, and the error. -/
def delP (b : List UInt8) : Dl × List Cp × Int :=
  if endS (fldN (b, 0)) ≠ 0 then (Dl.zero, [], endS (fldN (b, 0))) else
  if (opP (fldT (b, 0))).2 ≠ 0 then (Dl.zero, [], (opP (fldT (b, 0))).2) else
  if chkD (fldV (b, 0)) (opP (fldT (b, 0))).1 ≠ 0 then (Dl.zero, [], chkD (fldV (b, 0)) (opP (fldT (b, 0))).1) else (fldV (b, 0), (opP (fldT (b, 0))).1, 0)

theorem opP_size (b : List UInt8) : (∀ c ∈ (opP b).1, c.s.size ≤ 65535) ∧ (opP b).1.length ≤ 40 := by
  unfold opP
  split
  · exact ⟨fun c hc => by simp at hc, by simp⟩
  · split
    · exact ⟨fun c hc => by simp at hc, by simp⟩
    · split
      · exact ⟨fun c hc => by simp at hc, by simp⟩
      · exact ⟨partsV_size _ _, by rw [partsV_len]; omega⟩
end Go.Proofs.Ytajkjbhfkeakhaa

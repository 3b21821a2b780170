/- The contracts of a Reader's take and Byte. -/
import Derived.Test.YtifdoneffnfogabReader0
namespace Go.Proofs.Ytifdoneffnfogab
open Go.RowKit
variable {N : Nat}

theorem Reads.cap {w : World} {ao : Option Addr} {k cap : Nat} {l : List UInt8} (h : Reads w (.slice ao k cap) (B l)) : l.length ≤ cap := by
  obtain ⟨a, c, e, h1, _⟩ := h
  injection e with _ _ e3
  rw [e3]
  rwa [B_length] at h1

theorem add_add (a : Addr) (i j : Nat) : (a.add i).add j = a.add (i + j) := by
  unfold Addr.add
  by_cases hi : i = 0 <;> by_cases hj : j = 0 <;> simp [hi, hj, Nat.add_assoc]

theorem Reads.take {w : World} {ao : Option Addr} {cap : Nat} {l : List UInt8} (h : Reads w (.slice ao l.length cap) (B l)) {n : Nat} (hn : n ≤ l.length) : Reads w (.slice ao n cap) (B (l.take n)) := by
  have hc := h.cap
  obtain ⟨a, c, e, h1, h2, h3⟩ := h
  injection e with e1 e2 e3
  subst e1 e3
  have hl : (B (l.take n)).length = n := by rw [B_length, List.length_take]; omega
  refine ⟨ao, cap, by rw [hl], by rw [hl]; omega, h2, fun ad he j u hj => h3 ad he j u ?_⟩
  rw [B_get, List.getElem?_take] at hj
  rw [B_get]
  split at hj
  · exact hj
  · cases hj

theorem Reads.drop {w : World} {ao : Option Addr} {cap : Nat} {l : List UInt8} (h : Reads w (.slice ao l.length cap) (B l)) {n : Nat} (hn : n ≤ l.length) : Reads w (.slice (ao.map fun x => x.add n) (l.length - n) (cap - n)) (B (l.drop n)) := by
  have hc := h.cap
  obtain ⟨a, c, e, h1, h2, h3⟩ := h
  injection e with e1 e2 e3
  subst e1 e3
  have hl : (B (l.drop n)).length = l.length - n := by rw [B_length, List.length_drop]
  refine ⟨_, cap - n, by rw [hl], by rw [hl]; omega, ?_, ?_⟩
  · intro he
    have : ao = none := by cases ao with | none => rfl | some x => cases he
    have := h2 this
    omega
  · intro ad he j u hj
    cases ao with
    | none => cases he
    | some x =>
      cases he
      rw [add_add]
      refine h3 x rfl (n + j) u ?_
      rw [B_get] at hj ⊢
      rwa [List.getElem?_drop] at hj

theorem Reads.drop_all {w : World} {ao : Option Addr} {l : List UInt8} : Reads w (.slice ao (l.length - l.length) (l.length - l.length)) (B (l.drop l.length)) := by
  rw [Nat.sub_self, List.drop_length]
  exact ⟨ao, 0, rfl, Nat.le_refl _, fun _ => rfl, fun ad he j u hj => by simp [B] at hj⟩

theorem RdN.take {w : World} {ao : Option Addr} {cap : Nat} {l : List UInt8} (h : RdN N w ao l.length cap l) {n : Nat} (hn : n ≤ l.length) : RdN N w ao n cap (l.take n) :=
  ⟨h.reads.take hn, fun ad h1 h2 => h.blk ad h1 (by rw [List.length_take] at h2; omega)⟩
theorem RdN.drop {w : World} {ao : Option Addr} {cap : Nat} {l : List UInt8} (h : RdN N w ao l.length cap l) {n : Nat} (hn : n ≤ l.length) : RdN N w (ao.map fun x => x.add n) (l.length - n) (cap - n) (l.drop n) :=
  ⟨h.reads.drop hn, fun ad h1 h2 => by
    rw [List.length_drop] at h2
    cases ao with
    | none => cases h1
    | some x =>
      cases h1
      have := h.blk x rfl (by omega)
      have hc : (x.add n).block = x.block := by unfold Addr.add; split <;> rfl
      show (x.add n).block < N
      rw [hc]; exact this⟩
theorem RdN.drop_all {w : World} {ao : Option Addr} {l : List UInt8} : RdN N w ao (l.length - l.length) (l.length - l.length) (l.drop l.length) :=
  ⟨Reads.drop_all, fun ad h1 h2 => by simp at h2⟩

set_option maxRecDepth 100000 in
set_option maxHeartbeats 400000 in
theorem take_no (p : Nat) (s : St) (n : Int) (w : World) (hR : RD N w p s) (hm : s.1.length ≤ maxLen) (h : s.2 = 0 → (s.1.length : Int) < n) :
    Calls Try.prog 39 #[.pointer (some ⟨p, 0, none⟩), .int .i64 n] w fun x w' => x = .returned (.slice none 0 0) ∧ RD N w' p (failS s 8) ∧ w.grownBy w' (some p) := by
  obtain ⟨l, err⟩ := s
  have HR : Hid (RD N w p (l, err)) := hR
  obtain ⟨ao, cap, hh, hr⟩ := hR
  obtain ⟨c0, c1, f0, f1⟩ := cells2 hh
  clear hh hr f0 f1
  unfold maxLen at hm
  simp only at c0 c1 h hm
  by_cases he : err = 0
  · subst he
    have hlt : (l.length : Int) < n := h rfl
    clear h
    go_enter Try.func39, Try.ntmps39
    go_wp2_with fail
    refine (Fail_any p (l, 0) 8 _ HR.out).mono ?_
    rintro e w1 ⟨rfl, hR1, hg1⟩
    go_wp2_with fail
    go_ret
    exact ⟨rfl, hR1, hg1⟩
  · have he' : (err == 0) = false := by simpa using he
    have he2 : (err != 0) = true := by simpa using he
    clear h
    go_enter Try.func39, Try.ntmps39
    go_wp2_with fail
    refine (Fail_any p (l, err) 8 _ HR.out).mono ?_
    rintro e w1 ⟨rfl, hR1, hg1⟩
    go_wp2_with fail
    go_ret
    exact ⟨rfl, hR1, hg1⟩

set_option maxRecDepth 100000 in
set_option maxHeartbeats 400000 in
theorem take_yes (p : Nat) (l : List UInt8) (n : Nat) (w : World) (hR : RD N w p (l, 0)) (h : n ≤ l.length) :
    Calls Try.prog 39 #[.pointer (some ⟨p, 0, none⟩), .int .i64 n] w fun x w' => ∃ ao cap, x = .returned (.slice ao n cap) ∧ Reads w' (.slice ao n cap) (B (l.take n)) ∧ RD N w' p (l.drop n, 0) ∧ w.grownBy w' (some p) := by
  have HR : Hid (RD N w p (l, 0)) := hR
  obtain ⟨ao, cap, hh, hr⟩ := hR
  obtain ⟨c0, c1, f0, f1⟩ := cells2 hh
  have HH : Hid (w.heap[p]? = some (.cells #[.slice ao l.length cap, .int .i64 0] 57 (0, 0))) := hh
  have hcap : l.length ≤ cap := Reads.cap hr.reads
  have HRR : Hid (RdN N w ao l.length cap l) := hr
  clear hh hr
  simp only at c0 c1
  have h' : (n : Int) ≤ l.length := by omega
  have h'' : (n : Int) ≤ cap := by omega
  have HF : Hid (∀ ao', RdN N w ao' (l.length - n) (cap - n) (l.drop n) → Reads (w.setCell ⟨p, 0, none⟩ (.slice ao' (l.length - n) (cap - n))) (.slice ao n cap) (B (l.take n)) ∧ RD N (w.setCell ⟨p, 0, none⟩ (.slice ao' (l.length - n) (cap - n))) p (l.drop n, 0)) := by
    intro ao' hd
    refine ⟨Reads.off rfl HH.out (HRR.out.take h).reads (grownC _ _ _ _), ao', cap - n, ?_, ?_⟩
    · simp only [List.length_drop]
      exact set2_0 HH.out
    · simp only [List.length_drop]
      exact ⟨Reads.off rfl HH.out hd.reads (grownC _ _ _ _), fun ad h1 h2 => hd.blk ad h1 h2⟩
  by_cases hcn : cap = n
  · have hln : l.length = n := by omega
    have HD : Hid (RdN N w ao (l.length - n) (cap - n) (l.drop n)) := by
      show RdN N w ao (l.length - n) (cap - n) (l.drop n)
      rw [hcn, ← hln]
      exact RdN.drop_all
    have hcn2 : ¬ cap ≠ n := by omega
    clear hln
    subst hcn
    go_enter Try.func39, Try.ntmps39
    go_wp2_with fail
    go_ret
    have hf := HF.out ao HD.out
    rw [show l.length - cap = 0 by omega, Nat.sub_self] at hf
    exact ⟨ao, _, rfl, hf.1, hf.2, grownC _ _ _ _⟩
  · have HD : Hid (RdN N w (ao.map fun x => x.add n) (l.length - n) (cap - n) (l.drop n)) := HRR.out.drop h
    go_enter Try.func39, Try.ntmps39
    go_wp2_with fail
    go_ret
    exact ⟨ao, _, rfl, (HF.out _ HD.out).1, (HF.out _ HD.out).2, grownC _ _ _ _⟩

def byteS (s : St) : Nat := if s.2 = 0 then (match s.1 with | b :: _ => b.toNat | [] => 0) else 0
def nextS (s : St) : St := if s.2 = 0 then (match s.1 with | _ :: r => (r, 0) | [] => ([], 8)) else s

set_option maxRecDepth 100000 in
set_option maxHeartbeats 400000 in
theorem Byte_any (p : Nat) (s : St) (w : World) (hR : RD N w p s) (hm : s.1.length ≤ maxLen) :
    Calls Try.prog 35 #[.pointer (some ⟨p, 0, none⟩)] w fun x w' => x = .returned (.int .i64 (byteS s)) ∧ RD N w' p (nextS s) ∧ w.grownBy w' (some p) := by
  obtain ⟨l, err⟩ := s
  by_cases he : err = 0
  · subst he
    cases l with
    | nil =>
      go_enter Try.func35, Try.ntmps35
      go_wp2_with fail
      refine (take_no p ([], 0) 1 _ hR hm (by simp)).mono ?_
      rintro e w1 ⟨rfl, hR1, hg1⟩
      have HR1 : Hid (RD N w1 p ([], 8)) := hid (by simpa [failS] using hR1)
      obtain ⟨ao, cap, hh, hr⟩ := HR1.out
      obtain ⟨c0, c1, f0, f1⟩ := cells2 hh
      clear hh hr hR1 f0 f1 c0
      simp only at c1
      go_wp2_with fail
      go_ret
      exact ⟨rfl, HR1.out, hg1⟩
    | cons b r =>
      go_enter Try.func35, Try.ntmps35
      go_wp2_with fail
      refine (take_yes p (b :: r) 1 _ hR (by simp)).mono ?_
      rintro e w1 ⟨ao1, cap1, rfl, hr1, hR1, hg1⟩
      simp only [List.take_succ_cons, List.take_zero, List.drop_succ_cons, List.drop_zero] at hr1 hR1
      have HR1 : Hid (RD N w1 p (r, 0)) := hR1
      obtain ⟨ao, cap, hh, hr⟩ := hR1
      obtain ⟨c0, c1, f0, f1⟩ := cells2 hh
      have hcap := hr1.cap
      obtain ⟨a2, c2, e2, h21, h22, h23⟩ := hr1
      injection e2 with e21 e22 e23
      subst e21 e23
      cases ao1 with
      | none => have := h22 rfl; simp at hcap; omega
      | some ad =>
        have hc := h23 ad rfl 0 (.int .u8 b.toNat) rfl
        have hc' : w1.cell? ad = some (.int .u8 b.toNat) := by simpa [Addr.add] using hc
        clear hh hr f0 f1 c0 h21 h22 h23 e22 hc
        simp only at c1
        have hb255 : (b.toNat : Int) ≤ 255 := by have := b.toNat_lt; omega
        go_wp2_with fail
        go_ret
        exact ⟨rfl, HR1.out, hg1⟩
  · have he' : (err == 0) = false := by simpa using he
    have he2 : (err != 0) = true := by simpa using he
    go_enter Try.func35, Try.ntmps35
    go_wp2_with fail
    refine (take_no p (l, err) 1 _ hR hm (fun h => absurd h he)).mono ?_
    rintro e w1 ⟨rfl, hR1, hg1⟩
    have HR1 : Hid (RD N w1 p (l, err)) := hid (by simpa [failS, he] using hR1)
    obtain ⟨ao, cap, hh, hr⟩ := HR1.out
    obtain ⟨c0, c1, f0, f1⟩ := cells2 hh
    clear hh hr hR1 f0 f1 c0
    simp only at c1
    go_wp2_with fail
    go_ret
    exact ⟨by simp [byteS, he], by simpa [nextS, he] using HR1.out, hg1⟩
end Go.Proofs.Ytifdoneffnfogab

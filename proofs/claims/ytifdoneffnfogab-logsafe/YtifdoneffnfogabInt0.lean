/- The contracts of a Reader's Int and Text, of bytes.Clone and of New. -/
import Derived.Test.YtifdoneffnfogabJoin
namespace Go.Proofs.Ytifdoneffnfogab
open Go.RowKit
variable {N : Nat}

theorem join_any (p : Nat) (s : St) (cnt : Int) (h0 : 0 ≤ cnt) (h8 : cnt ≤ 8) (w : World) (hR : RD N w p s) (hm : s.1.length ≤ maxLen) :
    Calls Try.prog 38 #[.func (Fn.func 35) #[.pointer (some ⟨p, 0, none⟩)] #[], .int .i64 cnt] w fun x w' => x = .returned (.int .i64 (wrap64 (jn cnt.toNat 0 0 s).1)) ∧ RD N w' p (jn cnt.toNat 0 0 s).2 ∧ w.grownBy w' (some p) := by
  obtain ⟨c, rfl⟩ := Int.eq_ofNat_of_zero_le h0
  exact join_nat p s c w hR hm (by omega)

theorem RD.err {w : World} {p : Nat} {s : St} (h : RD N w p s) : w.cell? ⟨p, 1, none⟩ = some (.int .i64 s.2) := by
  obtain ⟨ao, cap, hh, _⟩ := h
  exact (cells2 hh).2.1

def intR (r : Nat × St) : Int := if r.2.2 = 0 then wrap64 r.1 else 0

set_option maxRecDepth 100000 in
set_option maxHeartbeats 400000 in
theorem Int_any (p : Nat) (s : St) (w : World) (hR : RD N w p s) (hm : s.1.length ≤ maxLen) :
    Calls Try.prog 32 #[.pointer (some ⟨p, 0, none⟩)] w fun x w' => x = .returned (.int .i64 (intR (jn 8 0 0 s))) ∧ RD N w' p (jn 8 0 0 s).2 ∧ w.grownBy w' (some p) := by
  have HJ := hid (join_any p s 8 (by omega) (by omega) w hR hm)
  have e8 : (8 : Int).toNat = 8 := rfl
  rw [e8] at HJ
  generalize jn 8 0 0 s = r at *
  clear e8 hR
  obtain ⟨n, l, err⟩ := r
  simp only at HJ
  by_cases he : err = 0
  · subst he
    have hi : Hid (intR (n, l, 0) = wrap64 n) := hid (by simp [intR])
    go_enter Try.func32, Try.ntmps32
    go_wp2_with fail
    refine HJ.out.mono ?_
    rintro e w1 ⟨rfl, hR1, hg1⟩
    have HR1 := hid hR1
    have c1 := hR1.err
    clear hR1 HJ
    simp only at c1
    go_wp2_with fail
    go_ret
    exact ⟨by rw [hi.out]; rfl, HR1.out, hg1⟩
  · have he' : (err == 0) = false := by simpa using he
    have he2 : (err != 0) = true := by simpa using he
    have hi : Hid (intR (n, l, err) = 0) := hid (by simp [intR, he])
    go_enter Try.func32, Try.ntmps32
    go_wp2_with fail
    refine HJ.out.mono ?_
    rintro e w1 ⟨rfl, hR1, hg1⟩
    have HR1 := hid hR1
    have c1 := hR1.err
    clear hR1 HJ
    simp only at c1
    go_wp2_with fail
    go_ret
    exact ⟨by rw [hi.out]; rfl, HR1.out, hg1⟩

theorem jn_lt : ∀ (k i acc : Nat) (s : St), acc < 256 ^ i → (jn k i acc s).1 < 256 ^ (i + k)
  | 0, _, _, _, h => h
  | k + 1, i, acc, s, h => by
    have := jn_lt k (i + 1) (acc + byteS s * 256 ^ i) (nextS s) (pow_step _ _ _ h (byteS_lt s))
    rw [jn]
    rwa [show i + (k + 1) = i + 1 + k by omega]

theorem jn_len : ∀ (k i acc : Nat) (s : St), (jn k i acc s).2.1.length ≤ s.1.length
  | 0, _, _, _ => Nat.le_refl _
  | k + 1, i, acc, s => by
    rw [jn]
    exact Nat.le_trans (jn_len k _ _ _) (nextS_len s)

set_option maxRecDepth 100000 in
set_option maxHeartbeats 400000 in
theorem clone_any (v : Value) (l : List UInt8) (w : World) (hr : Reads w v (B l)) (hl : l.length ≤ 140737488355328) :
    Calls Try.prog 31 #[v] w fun x w' => ∃ ao cap, x = .returned (.slice ao l.length cap) ∧ Reads w' (.slice ao l.length cap) (B l) ∧ Below w.heap.size w w' := by
  obtain ⟨i0, hi, hz0, hz1, hz2⟩ := info_parts Try.infoByte
  have HR : Hid (Reads w v (B l)) := hr
  obtain ⟨ao, c, rfl, hc, hn, hcell⟩ := hr
  rw [B_length] at hc HR ⊢
  cases ao with
  | none =>
    have h0 := hn rfl
    subst h0
    have h00 : l.length = 0 := by omega
    clear hn hcell
    rw [h00] at HR ⊢
    have hE := run_isNil (P := Try.prog) w 31 5 none 0 0 Try.underlying31
    go_enter Try.func31, Try.ntmps31
    go_wp2_with fail
    go_ret
    exact ⟨none, 0, rfl, HR.out, Below.refl _ _⟩
  | some ad =>
    clear hn hcell
    have hE := run_isNil (P := Try.prog) w 31 5 (some ad) l.length c Try.underlying31
    go_enter Try.func31, Try.ntmps31
    go_wp2_with (at_builtin; go_must (refine wpList_append_src _ rfl _ _ 31 31 rfl 5 i0 (.int .u8 0) Try.underlying31 hi hz0 hz1 hz2 rfl w.heap.size 0 0 [] rfl (Owns.empty _ _) _ l.length (B l) rfl (Src.ofBytes _ Try.underlying31 rfl (HR.out.later ((Below.refl _ _).alloc (Nat.le_refl _) _))) (by omega) ?_); intro g2 cap2 w2 hG2)
    go_ret
    have hO := hG2.own
    rw [Nat.zero_add, List.nil_append] at hO
    exact ⟨some ⟨g2, 0, none⟩, cap2, by simp, hO.reads, hG2.below ((Below.refl _ _).alloc (Nat.le_refl _) _) (Nat.le_refl _)⟩

set_option maxRecDepth 100000 in
set_option maxHeartbeats 400000 in
theorem New_any (v : Value) (l : List UInt8) (w : World) (hr : Reads w v (B l)) (hl : l.length ≤ 140737488355328) :
    Calls Try.prog 21 #[v] w fun x w' => ∃ p, x = .returned (.pointer (some ⟨p, 0, none⟩)) ∧ w.heap.size ≤ p ∧ RD w'.heap.size w' p (l, 0) ∧ Below w.heap.size w w' := by
  go_enter Try.func21, Try.ntmps21
  go_wp2_with fail
  refine (clone_any v l _ hr hl).mono ?_
  rintro e w1 ⟨ao, cap, rfl, hr1, hb1⟩
  have HR := hid hr1
  clear hr1 hr
  go_wp2_with fail
  go_ret
  refine ⟨w1.heap.size, rfl, hb1.size, ⟨ao, cap, heap_alloc_new w1 _, RdN.own (HR.out.later ((Below.refl _ _).alloc (Nat.le_refl _) _))⟩, hb1.alloc hb1.size _⟩
end Go.Proofs.Ytifdoneffnfogab

/- The contract of package disk's Read. -/
import Derived.Test.YtifdoneffnfogabKOps
namespace Go.Proofs.Ytifdoneffnfogab
open Go.RowKit
set_option linter.unusedSimpArgs false
set_option linter.unusedVariables false

theorem Blk.ownsB {w : World} {e : TypeId} {g n : Nat} {l : List UInt8} (h : Blk w e g (B l)) (hn : l.length = n) (hl : n ≤ maxLen) : Owns w e g n n (B l) :=
  ⟨by rw [B_length, hn], Nat.le_refl _, hl, _, h, by simp [B_length, hn], by rw [List.take_of_length_le (by simp [B_length, hn])]⟩

/-- What a Read answers: the bytes in new memory, and the error. -/
def ReadR (s : Dk) (w : World) (e : Ending) (w' : World) : Prop := ∃ v, e = .returned (.tuple #[v, .int .i64 s.read.2]) ∧ Has w' 5 w.heap.size v s.read.1.length (B s.read.1) ∧ Below w.heap.size w w'

set_option maxRecDepth 100000 in
set_option maxHeartbeats 1000000 in
theorem kRead_any (d r : Nat) (s : Dk) (w : World) (h : DK w d r s) : Calls Try.prog 13 #[.pointer (some ⟨d, 0, none⟩)] w (ReadR s w) := by
  obtain ⟨i0, hi, hz0, hz1, hz2⟩ := info_parts Try.infoByte
  have HK := hid h
  have c0 := h.c0
  have c1 := h.c1
  have c3 := h.c3
  have hk1 := h.ok.kept
  have hk2 := h.ok.len
  have hk3 := h.ok.size
  clear h
  cases hg : s.gone with
  | true =>
    rw [hg] at c3
    have HE := hid (show s.read = ([], 18) by rw [Dk.read, if_pos hg])
    clear hg
    go_enter Try.func13, Try.ntmps13
    go_wp2_with fail
    go_ret2
    exact ⟨.slice none 0 0, by rw [HE.out]; rfl, by rw [HE.out]; exact Has.nil _ _ _, Below.refl _ _⟩
  | false =>
    rw [hg] at c3
    have HE := hid (show s.read = (s.b, 0) by rw [Dk.read, hg, if_neg (by simp)])
    clear hg
    obtain ⟨all, ha1, ha2, ha3⟩ := HK.out.reads
    have HR := hid ha3
    have HA1 := hid ha1
    have HA2 := hid ha2
    have HS1 := hid (show (Try.prog.info? 5).map (·.size) = some 1 by kernel_rfl)
    obtain ⟨N, hN⟩ : ∃ N, w.heap.size = N := ⟨_, rfl⟩
    have HN := hid hN
    have HDL := hid (show d < N by rw [← hN]; exact HK.out.lt)
    obtain ⟨n, hn⟩ : ∃ n, s.b.length = n := ⟨_, rfl⟩
    have HBN := hid hn
    have hn2 : n ≤ 65536 := by omega
    have hkn : s.kept ≤ n := by omega
    clear ha1 ha2 ha3 hn hN
    go_enter Try.func13, Try.ntmps13
    go_wp2_with fail
    refine (kend_any s.kept (s.b.length - s.kept) (by omega) _).mono ?_
    rintro _ w1 ⟨rfl, rfl⟩
    rw [show s.kept + (s.b.length - s.kept) = n by have := HBN.out; omega]
    go_wp2_with (first
      | (at_make; go_must (refine wpList_make_blk rfl _ _ 31 rfl 5 i0 Try.underlying31 hi hz0 hz1 hz2 .i64 .i64 n rfl rfl (by omega) N HN.out ?_); intro w2 hB2 hb2 hs2; have HB2 := hid hB2; have Hb2 := hid hb2; have HR2 := hid (HR.out.later (by rw [HN.out]; exact hb2)); replace c0 : w2.cell? ⟨d, 0, none⟩ = some (.slice (some ⟨r, 0, none⟩) s.size s.size) := (HK.out.blk.kept (hb2.block d HDL.out)).cell rfl; clear hB2 hb2)
      | (show wpList _ _ _ (⟨some 20, _, _, _, _, _⟩ :: _) _ _; go_must (refine wpList_copy_list rfl _ _ 31 31 rfl 5 Try.underlying31 HS1.out N 0 n n rfl _ rfl (B all) HR2.out n (by rw [B_length, HA1.out]; exact (Nat.min_eq_right (by have := HBN.out; omega)).symm) (HB2.out.there (by rw [B_length, List.length_replicate]; omega)) (B_one all) ?_); go_must (intro w3 hw3; have hw3' : w3 = w2.setCells N 0 (B s.b) := (by rw [hw3]; congr 1; rw [← HA2.out, HBN.out]; simp [B]); have HW3 := hid hw3'; clear hw3 hw3')))
    go_ret2
    have hB3 := Blk.setCells (B s.b) [] (B (List.replicate n 0)) [] (o := 0) (by simpa using HB2.out) (by rw [B_length, B_length, List.length_replicate, HBN.out]) rfl
    rw [← HW3.out] at hB3
    have hX : Blk w3 5 N (B s.b) := by simpa using hB3
    refine ⟨.slice (some ⟨N, 0, none⟩) n n, by rw [HE.out]; rfl, ?_, ?_⟩
    · rw [HE.out]
      show Has _ _ _ _ s.b.length (B s.b)
      rw [HBN.out]
      exact .inr ⟨N, n, rfl, by rw [HN.out]; exact Nat.le_refl _, hX.ownsB HBN.out (by unfold maxLen; omega)⟩
    · rw [HW3.out, HN.out]
      exact below_setCells (Nat.le_refl _) _ _ Hb2.out
end Go.Proofs.Ytifdoneffnfogab

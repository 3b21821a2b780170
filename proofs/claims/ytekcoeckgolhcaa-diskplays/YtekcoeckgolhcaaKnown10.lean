/- The contract of the laws' own known (chapter 10). -/
import Derived.Test.YtekcoeckgolhcaaKRead
import Derived.Test.YtekcoeckgolhcaaKCrash
namespace Go.Proofs.Ytekcoeckgolhcaa
open Go.RowKit
set_option linter.unusedSimpArgs false
set_option linter.unusedVariables false

theorem reads_newB (w : World) (e : TypeId) (l : List UInt8) (n : Nat) (hn : l.length = n) : Reads (w.alloc (.cells (B l).toArray e)) (.slice (some ⟨w.heap.size, 0, none⟩) n n) (B l) := by
  subst hn
  refine ⟨_, l.length, by rw [B_length], by rw [B_length]; exact Nat.le_refl _, (fun h => by cases h), fun ad he j u hj => ?_⟩
  cases he
  rw [Addr.add_lit, Nat.zero_add]
  exact (Blk.new w e (B l)).cell hj
/-- A place of what reads as bytes in new memory. -/
theorem Has.cellB {w : World} {e : TypeId} {Bd n : Nat} {ao : Option Addr} {cap : Nat} {l : List UInt8} (h : Has w e Bd (.slice ao n cap) n (B l)) (h0 : 0 < n) : ∃ g, ao = some ⟨g, 0, none⟩ ∧ Bd ≤ g ∧ n ≤ cap ∧ Owns w e g cap n (B l) ∧ ∀ j b, l[j]? = some b → w.cell? ⟨g, j, none⟩ = some (.int .u8 b.toNat) := by
  rcases h with ⟨_, rfl, _⟩ | ⟨g, c, e1, h1, h2⟩
  · omega
  · injection e1 with e1 e2 e3
    subst e1 e3
    exact ⟨g, rfl, h1, h2.2.1, h2, fun j b hj => h2.cell (by rw [B_get, hj]; rfl)⟩

set_option maxRecDepth 100000 in
set_option maxHeartbeats 1000000 in
theorem known10_any (w : World) : Calls Try.prog 9 #[] w fun e w' => e = .returned (.bool true) ∧ Below w.heap.size w w' := by
  obtain ⟨L, hL⟩ : ∃ L, w.heap.size = L := ⟨_, rfl⟩
  have HL := hid hL
  rw [hL]
  clear hL
  go_enter Try.func9, Try.ntmps9
  go_wp2_with fail
  refine (kNew_any 100 _).mono ?_
  rintro _ w1 ⟨d, r, rfl, hD, hd, hr, hb⟩
  rw [HL.out] at hd hr hb
  have HD1 := hid hD
  have HA := hid (hD.later ((Below.refl w1.heap.size w1).alloc (Nat.le_refl _) (.cells (B [1, 2, 3]).toArray 5)))
  have HbA := hid (show Below L w (w1.alloc (.cells (B [1, 2, 3]).toArray 5)) from hb.alloc (by have := hb.size; rw [HL.out] at this; exact this) _)
  have HRA := hid (reads_newB w1 5 [1, 2, 3] 3 rfl)
  clear hD hb
  go_wp2_with fail
  refine (kAppend_any d r (Dk.new 100) _ [1, 2, 3] _ HA.out HRA.out (by simp)).mono ?_
  rintro _ w2 ⟨rfl, hD, ho⟩
  have HD2 := hid hD
  have Hb2 := hid (ho.below HbA.out (by have := HbA.out.size; rw [HL.out] at this; exact this) hd hr)
  clear hD ho HA HbA HRA HD1
  rw [show ((Dk.new 100).app [1, 2, 3]).1 = 0 from rfl]
  go_wp2_with fail
  refine (kCrash_any d r _ 2 _ HD2.out).mono ?_
  rintro _ w3 ⟨rfl, hD, ho⟩
  have HD3 := hid hD
  have Hb3 := hid (ho.below Hb2.out (by have := Hb2.out.size; rw [HL.out] at this; exact this) hd hr)
  clear hD ho HD2 Hb2
  go_wp2_with fail
  refine (kRead_any d r _ _ HD3.out).mono ?_
  rintro _ w4 ⟨v, rfl, hH, hb⟩
  rw [show (((Dk.new 100).app [1, 2, 3]).2.crash 2).read = ([1, 2], 0) from rfl] at hH ⊢
  obtain ⟨ao, cap, rfl⟩ := hH.form
  obtain ⟨g, rfl, hg, hcap, _, hc⟩ := Has.cellB hH (by simp)
  have c1 := hc 1 2 rfl
  have Hb4 := hid (Hb3.out.trans (hb.mono (by have := Hb3.out.size; rw [HL.out] at this; exact this)))
  clear hH hb hc HD3 Hb3
  simp only [List.length_cons, List.length_nil] at hcap ⊢
  go_wp2_with fail
  go_ret
  exact ⟨rfl, Hb4.out⟩
end Go.Proofs.Ytekcoeckgolhcaa

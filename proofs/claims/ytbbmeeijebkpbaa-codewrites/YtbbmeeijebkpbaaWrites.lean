/- The law CodeWrites: any number, byte, text, behind any bytes, is written as the document says. -/
import Derived.Test.YtbbmeeijebkpbaaRefWrite
import Derived.Test.YtbbmeeijebkpbaaArg
import Derived.Deep.RegionHeld3
namespace Go.Proofs.Ytbbmeeijebkpbaa
open Go.RowKit
set_option linter.unusedSimpArgs false

theorem conv_row (w : World) {g cap n : Nat} {l : List UInt8} (h : Owns w 5 g cap n (B l)) : (convert 22 9 (.slice (some ⟨g, 0, none⟩) n cap)).run Try.prog w = .ok (.string ⟨l.toArray⟩) w :=
  run_string w 22 9 5 Try.underlying22 Try.underlying5 Try.underlying9 h.reads

theorem Owns.beside {w w' : World} {e : TypeId} {g cap n g' : Nat} {xs : List Value} (h : Owns w e g cap n xs) (hg : w.grownBy w' (some g')) (hne : g ≠ g') : Owns w' e g cap n xs := h.kept (hg.block g h.lt (by simpa using hne))

theorem wpAnyH_strong {P : Program} {ops : Array Oper} {Q : Exit → Act → World → Prop} {md : Region.Mode} {S S' : World → Prop} (hs : ∀ w, S' w → S w) : ∀ (fuel : Nat) (listed : Array Bool) (a : Act) (w : World), wpAnyH P md ops Q S' fuel listed a w → wpAnyH P md ops Q S fuel listed a w
  | 0, _, _, _, h => h
  | fuel + 1, _, _, _, h => ⟨h.1, fun i hi => wpOp_mono (fun a' w' h' => ⟨hs _ h'.1, wpAnyH_strong hs fuel _ a' w' h'.2⟩) (h.2 i hi)⟩

set_option maxRecDepth 100000 in
set_option maxHeartbeats 4000000 in
theorem writes_any (v : Value) (l : List UInt8) (n : Int) (s : ByteArray) (hs : s.size ≤ maxLen) (hl : l.length ≤ maxLen) (w : World) (hr : Reads w v (B l)) :
    Calls Try.prog 3 #[v, .int .i64 n, .string s] w fun e w' => e = .returned (.bool true) ∧ Below w.heap.size w w' := by
  unfold maxLen at hs hl
  obtain ⟨i0, hi, hz0, hz1, hz2⟩ := info_parts Try.infoByte
  have HR : Hid (Reads w v (B l)) := hr
  obtain ⟨ao, c, rfl, hc, hn, hcell⟩ := hr
  rw [B_length] at hc HR ⊢
  clear hn hcell
  by_cases hl300 : l.length ≤ 300
  case neg =>
    have hl' : (300 : Int) < l.length := by omega
    go_enter Try.func3, Try.ntmps3
    go_wp2_with fail
    refine (known_any _).mono ?_
    rintro e w1 ⟨rfl, hb1⟩
    go_wp2_with fail
    go_ret
    exact ⟨rfl, hb1⟩
  have hl' : (l.length : Int) ≤ 300 := by omega
  by_cases hs500 : s.size ≤ 500
  case neg =>
    have hs' : (500 : Int) < s.size := by omega
    go_enter Try.func3, Try.ntmps3
    go_wp2_with fail
    refine (known_any _).mono ?_
    rintro e w1 ⟨rfl, hb1⟩
    go_wp2_with fail
    go_ret
    exact ⟨rfl, hb1⟩
  have hs' : (s.size : Int) ≤ 500 := by omega
  go_enter Try.func3, Try.ntmps3
  go_wp2_with fail
  refine (known_any _).mono ?_
  rintro e w1 ⟨rfl, hb1⟩
  go_wp2_with (at_builtin; go_must (refine wpList_append_src _ rfl _ _ 22 22 rfl 5 i0 (.int .u8 0) Try.underlying22 hi hz0 hz1 hz2 rfl w1.heap.size 0 0 [] rfl (Owns.empty _ _) (.slice ao l.length c) l.length (B l) rfl (Src.ofBytes _ Try.underlying22 rfl (HR.out.later (hb1.alloc hb1.size _))) (by omega) ?_); intro g2 cap2 w2 hG2)
  have HO2 := hid (show Owns w2 5 g2 cap2 l.length (B l) by have := hG2.own; rwa [Nat.zero_add, List.nil_append] at this)
  have HB2 := hid (hG2.below (hb1.alloc hb1.size _) hb1.size)
  have HK2 := hid (show w.heap.size ≤ g2 from hG2.ge hb1.size (by have := hb1.size; simp; omega))
  have HR2 := hid (HR.out.later HB2.out)
  clear hG2 hb1
  refine wp_region_noPanic ?_
  refine wp_region_held_drew (S := fun _ => True) (by kernel_rfl) trivial (fun hHeld => ?_)
  refine wpAnyH_take (i := 0) (v := .slice ao l.length c) rfl (by kernel_rfl) (by kernel_rfl) (by kernel_rfl) (fun _ _ _ h => h) (Or.inl ⟨by rfl, by intro w hSw; go_simp⟩) hHeld ?_
  try simp only [Act.put, List.setIfInBounds_toArray, List.set_cons_zero, List.set_cons_succ, List.getElem_toArray, List.getElem_cons_zero, List.getElem_cons_succ]
  refine wpAnyH_take (i := 1) (v := .int .i64 n) rfl (by kernel_rfl) (by kernel_rfl) (by kernel_rfl) (fun _ _ _ h => h) (Or.inl ⟨by rfl, by intro w hSw; go_simp⟩) hHeld ?_
  try simp only [Act.put, List.setIfInBounds_toArray, List.set_cons_zero, List.set_cons_succ, List.getElem_toArray, List.getElem_cons_zero, List.getElem_cons_succ]
  refine wpAnyH_take (i := 4) (v := .slice (some ⟨g2, 0, none⟩) l.length cap2) rfl (by kernel_rfl) (by kernel_rfl) (by kernel_rfl) (fun _ _ _ h => h) (Or.inl ⟨by rfl, by intro w hSw; go_simp⟩) hHeld ?_
  try simp only [Act.put, List.setIfInBounds_toArray, List.set_cons_zero, List.set_cons_succ, List.getElem_toArray, List.getElem_cons_zero, List.getElem_cons_succ]
  refine wpAnyH_take (i := 5) (v := .int .i64 n) rfl (by kernel_rfl) (by kernel_rfl) (by kernel_rfl) (fun _ _ _ h => h) (Or.inl ⟨by rfl, by intro w hSw; go_simp⟩) hHeld ?_
  try simp only [Act.put, List.setIfInBounds_toArray, List.set_cons_zero, List.set_cons_succ, List.getElem_toArray, List.getElem_cons_zero, List.getElem_cons_succ]
  refine wpAnyH_ready (rs := [2]) (by kernel_rfl) (by simp) ?_
  refine AllReadyH.cons rfl (fun K hK => ?_) AllReadyH.nil
  go_simp
  refine (cInt _ l l.length rfl n _ ?_ (by omega)).mono ?_
  · exact HR2.out
  rintro e w3 ⟨g3, cap3, rfl, hg3, hO3, hB3⟩
  refine hK.out _ _ (trivial) (fun hHeld => ?_)
  clear hK K
  try simp only [Act.put, List.setIfInBounds_toArray, List.set_cons_zero, List.set_cons_succ, List.getElem_toArray, List.getElem_cons_zero, List.getElem_cons_succ]
  have HB3 := hid (below_seq HB2.out.drew hB3)
  have HO3 := hid (show Owns w3 5 g2 cap2 l.length (B l) from Owns.later (w := w2.drew) HO2.out hB3)
  have N3 := hid (show g3 ≠ g2 by have h1 := HO2.out.lt; have h2 : w2.heap.size ≤ g3 := hg3; omega)
  have HS3 := hid hO3
  clear hB3 hg3 hO3 hHeld
  refine wpAnyH_strong (S' := fun w' => Owns w' 5 g3 cap3 (l.length + 8) (B (l ++ le 8 (n % 18446744073709551616).toNat))) (fun _ _ => trivial) _ _ _ _ ?_
  have hHeld := HS3.out
  refine wpAnyH_take (i := 3) (v := .string ⟨(l ++ le 8 (n % 18446744073709551616).toNat).toArray⟩) rfl (by kernel_rfl) (by kernel_rfl) (by kernel_rfl) (fun _ _ _ h => h) (Or.inl ⟨by rfl, by intro w hSw; have q := conv_row w (hSw); go_simp⟩) hHeld ?_
  try simp only [Act.put, List.setIfInBounds_toArray, List.set_cons_zero, List.set_cons_succ, List.getElem_toArray, List.getElem_cons_zero, List.getElem_cons_succ]
  refine wpAnyH_ready (rs := [6]) (by kernel_rfl) (by simp) ?_
  refine AllReadyH.cons rfl (fun K hK => ?_) AllReadyH.nil
  go_simp
  refine (fInt_any g2 cap2 l.length l n _ ?_ (by omega)).mono ?_
  · exact HO3.out
  rintro e w4 ⟨g4, cap4, rfl, hG4⟩
  refine hK.out _ _ (HS3.out.beside hG4.grown N3.out) (fun hHeld => ?_)
  clear hK K
  try simp only [Act.put, List.setIfInBounds_toArray, List.set_cons_zero, List.set_cons_succ, List.getElem_toArray, List.getElem_cons_zero, List.getElem_cons_succ]
  have HB4 := hid (hG4.below HB3.out HK2.out)
  have HO4 := hid hG4.old
  have HR4 := hid (HR.out.later HB4.out)
  have q4 := conv_row w4 hG4.own
  have HS4 := hid hHeld
  clear hG4
  refine wpAnyH_ready (rs := [7]) (by kernel_rfl) (by simp) ?_
  refine AllReadyH.cons rfl (fun K hK => ?_) AllReadyH.nil
  go_simp
  refine hK.out _ _ (hHeld) (fun hHeld => ?_)
  clear hK K
  try simp only [Act.put, List.setIfInBounds_toArray, List.set_cons_zero, List.set_cons_succ, List.getElem_toArray, List.getElem_cons_zero, List.getElem_cons_succ]
  clear q4
  refine wpAnyH_take (i := 8) (v := .bool true) rfl (by kernel_rfl) (by kernel_rfl) (by kernel_rfl) (fun _ _ _ h => h) (Or.inl ⟨by rfl, by intro w hSw; go_simp⟩) hHeld ?_
  try simp only [Act.put, List.setIfInBounds_toArray, List.set_cons_zero, List.set_cons_succ, List.getElem_toArray, List.getElem_cons_zero, List.getElem_cons_succ]
  refine wpAnyH_take (i := 9) (v := .bool true) rfl (by kernel_rfl) (by kernel_rfl) (by kernel_rfl) (fun _ _ _ h => h) (Or.inl ⟨by rfl, by intro w hSw; go_simp⟩) hHeld ?_
  try simp only [Act.put, List.setIfInBounds_toArray, List.set_cons_zero, List.set_cons_succ, List.getElem_toArray, List.getElem_cons_zero, List.getElem_cons_succ]
  refine wpAnyH_take (i := 10) (v := .slice ao l.length c) rfl (by kernel_rfl) (by kernel_rfl) (by kernel_rfl) (fun _ _ _ h => h) (Or.inl ⟨by rfl, by intro w hSw; go_simp⟩) hHeld ?_
  try simp only [Act.put, List.setIfInBounds_toArray, List.set_cons_zero, List.set_cons_succ, List.getElem_toArray, List.getElem_cons_zero, List.getElem_cons_succ]
  refine wpAnyH_take (i := 11) (v := .int .i64 n) rfl (by kernel_rfl) (by kernel_rfl) (by kernel_rfl) (fun _ _ _ h => h) (Or.inl ⟨by rfl, by intro w hSw; go_simp⟩) hHeld ?_
  try simp only [Act.put, List.setIfInBounds_toArray, List.set_cons_zero, List.set_cons_succ, List.getElem_toArray, List.getElem_cons_zero, List.getElem_cons_succ]
  refine wpAnyH_take (i := 14) (v := .slice (some ⟨g2, 0, none⟩) l.length cap2) rfl (by kernel_rfl) (by kernel_rfl) (by kernel_rfl) (fun _ _ _ h => h) (Or.inl ⟨by rfl, by intro w hSw; go_simp⟩) hHeld ?_
  try simp only [Act.put, List.setIfInBounds_toArray, List.set_cons_zero, List.set_cons_succ, List.getElem_toArray, List.getElem_cons_zero, List.getElem_cons_succ]
  refine wpAnyH_take (i := 15) (v := .int .i64 n) rfl (by kernel_rfl) (by kernel_rfl) (by kernel_rfl) (fun _ _ _ h => h) (Or.inl ⟨by rfl, by intro w hSw; go_simp⟩) hHeld ?_
  try simp only [Act.put, List.setIfInBounds_toArray, List.set_cons_zero, List.set_cons_succ, List.getElem_toArray, List.getElem_cons_zero, List.getElem_cons_succ]
  refine wpAnyH_ready (rs := [12]) (by kernel_rfl) (by simp) ?_
  refine AllReadyH.cons rfl (fun K hK => ?_) AllReadyH.nil
  go_simp
  refine (cByte _ l l.length rfl n _ ?_ (by omega)).mono ?_
  · exact HR4.out
  rintro e w5 ⟨g5, cap5, rfl, hg5, hO5, hB5⟩
  refine hK.out _ _ (HS4.out.later hB5) (fun hHeld => ?_)
  clear hK K
  try simp only [Act.put, List.setIfInBounds_toArray, List.set_cons_zero, List.set_cons_succ, List.getElem_toArray, List.getElem_cons_zero, List.getElem_cons_succ]
  have HB5 := hid (below_seq HB4.out hB5)
  have HO5 := hid (Owns.later HO4.out hB5)
  have N5 := hid (show g5 ≠ g2 by have h1 := HO4.out.lt; omega)
  have HS5 := hid (And.intro hHeld hO5)
  clear hB5 hg5 hO5 hHeld
  refine wpAnyH_strong (S' := fun w' => (Owns w' 5 g3 cap3 (l.length + 8) (B (l ++ le 8 (n % 18446744073709551616).toNat))) ∧ Owns w' 5 g5 cap5 (l.length + 1) (B (l ++ le 1 (n % 18446744073709551616).toNat))) (fun _ h => h.1) _ _ _ _ ?_
  have hHeld := HS5.out
  refine wpAnyH_take (i := 13) (v := .string ⟨(l ++ le 1 (n % 18446744073709551616).toNat).toArray⟩) rfl (by kernel_rfl) (by kernel_rfl) (by kernel_rfl) (fun _ _ _ h => h) (Or.inl ⟨by rfl, by intro w hSw; have q := conv_row w (hSw.2); go_simp⟩) hHeld ?_
  try simp only [Act.put, List.setIfInBounds_toArray, List.set_cons_zero, List.set_cons_succ, List.getElem_toArray, List.getElem_cons_zero, List.getElem_cons_succ]
  refine wpAnyH_ready (rs := [16]) (by kernel_rfl) (by simp) ?_
  refine AllReadyH.cons rfl (fun K hK => ?_) AllReadyH.nil
  go_simp
  refine (fByte_any g2 cap2 l.length l n _ ?_ (by omega)).mono ?_
  · exact HO5.out
  rintro e w6 ⟨g6, cap6, rfl, hG6⟩
  refine hK.out _ _ (⟨HS5.out.1.beside hG6.grown N3.out, HS5.out.2.beside hG6.grown N5.out⟩) (fun hHeld => ?_)
  clear hK K
  try simp only [Act.put, List.setIfInBounds_toArray, List.set_cons_zero, List.set_cons_succ, List.getElem_toArray, List.getElem_cons_zero, List.getElem_cons_succ]
  have HB6 := hid (hG6.below HB5.out HK2.out)
  have HO6 := hid hG6.old
  have HR6 := hid (HR.out.later HB6.out)
  have q6 := conv_row w6 hG6.own
  have HS6 := hid hHeld
  clear hG6
  refine wpAnyH_ready (rs := [17]) (by kernel_rfl) (by simp) ?_
  refine AllReadyH.cons rfl (fun K hK => ?_) AllReadyH.nil
  go_simp
  refine hK.out _ _ (hHeld) (fun hHeld => ?_)
  clear hK K
  try simp only [Act.put, List.setIfInBounds_toArray, List.set_cons_zero, List.set_cons_succ, List.getElem_toArray, List.getElem_cons_zero, List.getElem_cons_succ]
  clear q6
  refine wpAnyH_take (i := 18) (v := .bool true) rfl (by kernel_rfl) (by kernel_rfl) (by kernel_rfl) (fun _ _ _ h => h) (Or.inl ⟨by rfl, by intro w hSw; go_simp⟩) hHeld ?_
  try simp only [Act.put, List.setIfInBounds_toArray, List.set_cons_zero, List.set_cons_succ, List.getElem_toArray, List.getElem_cons_zero, List.getElem_cons_succ]
  refine wpAnyH_take (i := 19) (v := .bool true) rfl (by kernel_rfl) (by kernel_rfl) (by kernel_rfl) (fun _ _ _ h => h) (Or.inl ⟨by rfl, by intro w hSw; go_simp⟩) hHeld ?_
  try simp only [Act.put, List.setIfInBounds_toArray, List.set_cons_zero, List.set_cons_succ, List.getElem_toArray, List.getElem_cons_zero, List.getElem_cons_succ]
  refine wpAnyH_take (i := 20) (v := .bool true) rfl (by kernel_rfl) (by kernel_rfl) (by kernel_rfl) (fun _ _ _ h => h) (Or.inl ⟨by rfl, by intro w hSw; go_simp⟩) hHeld ?_
  try simp only [Act.put, List.setIfInBounds_toArray, List.set_cons_zero, List.set_cons_succ, List.getElem_toArray, List.getElem_cons_zero, List.getElem_cons_succ]
  refine wpAnyH_take (i := 21) (v := .slice ao l.length c) rfl (by kernel_rfl) (by kernel_rfl) (by kernel_rfl) (fun _ _ _ h => h) (Or.inl ⟨by rfl, by intro w hSw; go_simp⟩) hHeld ?_
  try simp only [Act.put, List.setIfInBounds_toArray, List.set_cons_zero, List.set_cons_succ, List.getElem_toArray, List.getElem_cons_zero, List.getElem_cons_succ]
  refine wpAnyH_take (i := 22) (v := .string s) rfl (by kernel_rfl) (by kernel_rfl) (by kernel_rfl) (fun _ _ _ h => h) (Or.inl ⟨by rfl, by intro w hSw; go_simp⟩) hHeld ?_
  try simp only [Act.put, List.setIfInBounds_toArray, List.set_cons_zero, List.set_cons_succ, List.getElem_toArray, List.getElem_cons_zero, List.getElem_cons_succ]
  refine wpAnyH_take (i := 25) (v := .slice (some ⟨g2, 0, none⟩) l.length cap2) rfl (by kernel_rfl) (by kernel_rfl) (by kernel_rfl) (fun _ _ _ h => h) (Or.inl ⟨by rfl, by intro w hSw; go_simp⟩) hHeld ?_
  try simp only [Act.put, List.setIfInBounds_toArray, List.set_cons_zero, List.set_cons_succ, List.getElem_toArray, List.getElem_cons_zero, List.getElem_cons_succ]
  refine wpAnyH_take (i := 26) (v := .string s) rfl (by kernel_rfl) (by kernel_rfl) (by kernel_rfl) (fun _ _ _ h => h) (Or.inl ⟨by rfl, by intro w hSw; go_simp⟩) hHeld ?_
  try simp only [Act.put, List.setIfInBounds_toArray, List.set_cons_zero, List.set_cons_succ, List.getElem_toArray, List.getElem_cons_zero, List.getElem_cons_succ]
  refine wpAnyH_ready (rs := [23]) (by kernel_rfl) (by simp) ?_
  refine AllReadyH.cons rfl (fun K hK => ?_) AllReadyH.nil
  go_simp
  refine (cText _ l l.length rfl s _ ?_ (by omega) (by omega)).mono ?_
  · exact HR6.out
  rintro e w7 ⟨g7, cap7, rfl, hg7, hO7, hB7⟩
  refine hK.out _ _ (⟨HS6.out.1.later hB7, HS6.out.2.later hB7⟩) (fun hHeld => ?_)
  clear hK K
  try simp only [Act.put, List.setIfInBounds_toArray, List.set_cons_zero, List.set_cons_succ, List.getElem_toArray, List.getElem_cons_zero, List.getElem_cons_succ]
  have HB7 := hid (below_seq HB6.out hB7)
  have HO7 := hid (Owns.later HO6.out hB7)
  have N7 := hid (show g7 ≠ g2 by have h1 := HO6.out.lt; omega)
  have HS7 := hid (And.intro hHeld hO7)
  clear hB7 hg7 hO7 hHeld
  refine wpAnyH_strong (S' := fun w' => ((Owns w' 5 g3 cap3 (l.length + 8) (B (l ++ le 8 (n % 18446744073709551616).toNat))) ∧ Owns w' 5 g5 cap5 (l.length + 1) (B (l ++ le 1 (n % 18446744073709551616).toNat))) ∧ Owns w' 5 g7 cap7 (l.length + 2 + s.size) (B (l ++ le 2 s.size ++ s.data.toList))) (fun _ h => h.1) _ _ _ _ ?_
  have hHeld := HS7.out
  refine wpAnyH_take (i := 24) (v := .string ⟨(l ++ le 2 s.size ++ s.data.toList).toArray⟩) rfl (by kernel_rfl) (by kernel_rfl) (by kernel_rfl) (fun _ _ _ h => h) (Or.inl ⟨by rfl, by intro w hSw; have q := conv_row w (hSw.2); go_simp⟩) hHeld ?_
  try simp only [Act.put, List.setIfInBounds_toArray, List.set_cons_zero, List.set_cons_succ, List.getElem_toArray, List.getElem_cons_zero, List.getElem_cons_succ]
  refine wpAnyH_ready (rs := [27]) (by kernel_rfl) (by simp) ?_
  refine AllReadyH.cons rfl (fun K hK => ?_) AllReadyH.nil
  go_simp
  refine (fText_short g2 cap2 l.length l s _ ?_ (by omega) (by omega)).mono ?_
  · exact HO7.out
  rintro e w8 ⟨g8, cap8, rfl, hG8⟩
  refine hK.out _ _ (⟨⟨HS7.out.1.1.beside hG8.grown N3.out, HS7.out.1.2.beside hG8.grown N5.out⟩, HS7.out.2.beside hG8.grown N7.out⟩) (fun hHeld => ?_)
  clear hK K
  try simp only [Act.put, List.setIfInBounds_toArray, List.set_cons_zero, List.set_cons_succ, List.getElem_toArray, List.getElem_cons_zero, List.getElem_cons_succ]
  have HB8 := hid (hG8.below HB7.out HK2.out)
  have q8 := conv_row w8 hG8.own
  clear hG8
  refine wpAnyH_ready (rs := [28]) (by kernel_rfl) (by simp) ?_
  refine AllReadyH.cons rfl (fun K hK => ?_) AllReadyH.nil
  go_simp
  refine hK.out _ _ (hHeld) (fun hHeld => ?_)
  clear hK K
  try simp only [Act.put, List.setIfInBounds_toArray, List.set_cons_zero, List.set_cons_succ, List.getElem_toArray, List.getElem_cons_zero, List.getElem_cons_succ]
  clear q8
  refine wpAnyH_take (i := 29) (v := .bool true) rfl (by kernel_rfl) (by kernel_rfl) (by kernel_rfl) (fun _ _ _ h => h) (Or.inl ⟨by rfl, by intro w hSw; go_simp⟩) hHeld ?_
  try simp only [Act.put, List.setIfInBounds_toArray, List.set_cons_zero, List.set_cons_succ, List.getElem_toArray, List.getElem_cons_zero, List.getElem_cons_succ]
  refine wpAnyH_take (i := 30) (v := .bool true) rfl (by kernel_rfl) (by kernel_rfl) (by kernel_rfl) (fun _ _ _ h => h) (Or.inl ⟨by rfl, by intro w hSw; go_simp⟩) hHeld ?_
  try simp only [Act.put, List.setIfInBounds_toArray, List.set_cons_zero, List.set_cons_succ, List.getElem_toArray, List.getElem_cons_zero, List.getElem_cons_succ]
  refine wpAnyH_take (i := 31) (v := .bool true) rfl (by kernel_rfl) (by kernel_rfl) (by kernel_rfl) (fun _ _ _ h => h) (Or.inl ⟨by rfl, by intro w hSw; go_simp⟩) hHeld ?_
  try simp only [Act.put, List.setIfInBounds_toArray, List.set_cons_zero, List.set_cons_succ, List.getElem_toArray, List.getElem_cons_zero, List.getElem_cons_succ]
  refine wpAnyH_done (by kernel_rfl) ?_ _
  refine NoPanic.normal ?_
  go_wp2_with fail
  go_ret
  exact ⟨rfl, HB8.out⟩

theorem writes_row (a0 : Option Addr) (len0 cap0 : Nat) (z0 : List Int) (a1 : Int) (a2 : ByteArray) (w : World) (w0 : IsRow .u8 w a0 len0 cap0 z0) (w2 : a2.size ≤ maxLen) :
    Calls Try.prog 3 #[.slice a0 len0 cap0, .int .i64 a1, .string a2] w fun e w' => e = .returned (.bool true) ∧ Below w.heap.size w w' := by
  obtain ⟨l, rfl, hm, hr⟩ := bytes_of_row w0
  exact writes_any _ l a1 a2 w2 hm w hr
end Go.Proofs.Ytbbmeeijebkpbaa

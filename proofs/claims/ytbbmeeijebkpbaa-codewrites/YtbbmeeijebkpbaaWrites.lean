/- The law CodeWrites: any number, byte, text, behind any bytes, is written as the document says. -/
import Derived.Test.YtbbmeeijebkpbaaRefWrite
import Derived.Test.YtbbmeeijebkpbaaArg
import Derived.Deep.RegionHeld3
import Derived.Deep.DrawnRows
namespace Go.Proofs.Ytbbmeeijebkpbaa
open Go.RowKit
attribute [local go_sem ↓] Go.wp_at_zero Go.wp_at_succ

theorem conv_row (w : World) {g cap n : Nat} {l : List UInt8} (h : Owns w 5 g cap n (B l)) : (convert 22 9 (.slice (some ⟨g, 0, none⟩) n cap)).run Try.prog w = .ok (.string ⟨l.toArray⟩) w :=
  run_string w 22 9 5 Try.underlying22 Try.underlying5 Try.underlying9 h.reads

theorem Owns.beside {w w' : World} {e : TypeId} {g cap n g' : Nat} {xs : List Value} (h : Owns w e g cap n xs) (hg : w.grownBy w' (some g')) (hne : g ≠ g') : Owns w' e g cap n xs := h.kept (hg.block g h.lt (by simpa using hne))

set_option maxRecDepth 100000 in
set_option maxHeartbeats 100000000 in
theorem writes_any (v : Value) (l : List UInt8) (n : Int) (s : ByteArray) (hs : s.size ≤ maxLen) (hl : l.length ≤ maxLen) (w : World) (hr : Reads w v (B l)) :
    Calls Try.prog 3 #[v, .int .i64 n, .string s] w fun e w' => e = .returned (.bool true) ∧ Below w.heap.size w w' := by
  unfold maxLen at hs hl
  obtain ⟨i0, hi, hz0, hz1, hz2⟩ := info_parts Try.infoByte
  have HR : Hid (Reads w v (B l)) := hr
  obtain ⟨ao, c, rfl, hc, hn, hcell⟩ := hr
  rw [B_length] at hc HR ⊢
  clear hn hcell
  by_cases hl300 : l.length ≤ 300
  case neg =>
    have hl' : (300 : Int) < l.length := by omega
    go_enter Try.func3, Try.ntmps3
    go_wp2_with fail
    refine (known_any _).mono ?_
    rintro e w1 ⟨rfl, hb1⟩
    go_wp2_with fail
    go_ret
    exact ⟨rfl, hb1⟩
  have hl' : (l.length : Int) ≤ 300 := by omega
  by_cases hs500 : s.size ≤ 500
  case neg =>
    have hs' : (500 : Int) < s.size := by omega
    go_enter Try.func3, Try.ntmps3
    go_wp2_with fail
    refine (known_any _).mono ?_
    rintro e w1 ⟨rfl, hb1⟩
    go_wp2_with fail
    go_ret
    exact ⟨rfl, hb1⟩
  have hs' : (s.size : Int) ≤ 500 := by omega
  go_enter Try.func3, Try.ntmps3
  go_wp2_with fail
  refine (known_any _).mono ?_
  rintro e w1 ⟨rfl, hb1⟩
  go_wp2_with (at_builtin; go_must (refine wpList_append_src _ rfl _ _ 22 22 rfl 5 i0 (.int .u8 0) Try.underlying22 hi hz0 hz1 hz2 rfl w1.heap.size 0 0 [] rfl (Owns.empty _ _) (.slice ao l.length c) l.length (B l) rfl (Src.ofBytes _ Try.underlying22 rfl (HR.out.later (hb1.alloc hb1.size _))) (by omega) ?_); intro g2 cap2 w2 hG2)
  have HO2 := hid (show Owns w2 5 g2 cap2 l.length (B l) by have := hG2.own; rwa [Nat.zero_add, List.nil_append] at this)
  have HB2 := hid (hG2.below (hb1.alloc hb1.size _) hb1.size)
  have HK2 := hid (show w.heap.size ≤ g2 from hG2.ge hb1.size (by have := hb1.size; simp; omega))
  have HR2 := hid (HR.out.later HB2.out)
  clear hG2 hb1
  go_region_with
    (first
      | (go_at_call 10; refine (cInt _ l l.length rfl n _ ?_ (by omega)).mono ?_; (exact HR2.out); rintro e w3 ⟨g3, cap3, rfl, hg3, hO3, hB3⟩; have q3 := conv_row w3 hO3; have HB3 := hid (below_seq HB2.out.drew hB3); have HO3 := hid (show Owns w3 5 g2 cap2 l.length (B l) from Owns.later (w := w2.drew) HO2.out hB3); have N3 := hid (show g3 ≠ g2 by have h1 := HO2.out.lt; have h2 : w2.heap.size ≤ g3 := hg3; omega))
      | (go_at_call 11; refine (fInt_any g2 cap2 l.length l n _ ?_ (by omega)).mono ?_; (exact HO3.out); rintro e w4 ⟨g4, cap4, rfl, hG4⟩; have q4 := conv_row w4 hG4.own; have q34 := conv_row w4 (hO3.beside hG4.grown N3.out); have HB4 := hid (hG4.below HB3.out HK2.out); have HO4 := hid hG4.old; have HR4 := hid (HR.out.later HB4.out))
      | (go_at_call 12; refine (cByte _ l l.length rfl n _ ?_ (by omega)).mono ?_; (exact HR4.out); rintro e w5 ⟨g5, cap5, rfl, hg5, hO5, hB5⟩; have q5 := conv_row w5 hO5; have HB5 := hid (below_seq HB4.out hB5); have HO5 := hid (Owns.later HO4.out hB5); have N5 := hid (show g5 ≠ g2 by have h1 := HO4.out.lt; omega))
      | (go_at_call 13; refine (fByte_any g2 cap2 l.length l n _ ?_ (by omega)).mono ?_; (exact HO5.out); rintro e w6 ⟨g6, cap6, rfl, hG6⟩; have q6 := conv_row w6 hG6.own; have q56 := conv_row w6 (hO5.beside hG6.grown N5.out); have HB6 := hid (hG6.below HB5.out HK2.out); have HO6 := hid hG6.old; have HR6 := hid (HR.out.later HB6.out))
      | (go_at_call 14; refine (cText _ l l.length rfl s _ ?_ (by omega) (by omega)).mono ?_; (exact HR6.out); rintro e w7 ⟨g7, cap7, rfl, hg7, hO7, hB7⟩; have q7 := conv_row w7 hO7; have HB7 := hid (below_seq HB6.out hB7); have HO7 := hid (Owns.later HO6.out hB7); have N7 := hid (show g7 ≠ g2 by have h1 := HO6.out.lt; omega))
      | (go_at_call 15; refine (fText_short g2 cap2 l.length l s _ ?_ (by omega) (by omega)).mono ?_; (exact HO7.out); rintro e w8 ⟨g8, cap8, rfl, hG8⟩; have q8 := conv_row w8 hG8.own; have q78 := conv_row w8 (hO7.beside hG8.grown N7.out); have HB8 := hid (hG8.below HB7.out HK2.out)))
  all_goals (go_wp2_with fail; go_ret; exact ⟨rfl, HB8.out⟩)

theorem writes_row (a0 : Option Addr) (len0 cap0 : Nat) (z0 : List Int) (a1 : Int) (a2 : ByteArray) (w : World) (w0 : IsRow .u8 w a0 len0 cap0 z0) (w2 : a2.size ≤ maxLen) :
    Calls Try.prog 3 #[.slice a0 len0 cap0, .int .i64 a1, .string a2] w fun e w' => e = .returned (.bool true) ∧ Below w.heap.size w w' := by
  obtain ⟨l, rfl, hm, hr⟩ := bytes_of_row w0
  exact writes_any _ l a1 a2 w2 hm w hr
end Go.Proofs.Ytbbmeeijebkpbaa

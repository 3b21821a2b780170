/- The law CodeBack: what was written, one behind the other, is read as it was; a byte less is cut, one more is more. -/
import Derived.Test.YtbbmeeijebkpbaaBackFns
import Derived.Test.YtbbmeeijebkpbaaArg
import Derived.Deep.RegionHeld3
import Derived.WalkSmall
namespace Go.Proofs.Ytbbmeeijebkpbaa
open Go.RowKit
set_option linter.unusedSimpArgs false

set_option maxRecDepth 100000 in
set_option maxHeartbeats 4000000 in
theorem back_any (xs : List Int) (ss : List ByteArray) (ao : Option Addr) (capn : Nat) (bo : Option Addr) (caps : Nat) (w : World)
    (hxs : Hid (∀ (j : Nat) (x : Int), xs[j]? = some x → (∃ b off, ao = some ⟨b, off, none⟩ ∧ w.cell? ⟨b, off + j, none⟩ = some (.int .i64 x)) ∧ -9223372036854775808 ≤ x ∧ x ≤ 9223372036854775807))
    (hss : Hid (∀ (j : Nat) (x : ByteArray), ss[j]? = some x → ∃ b off, bo = some ⟨b, off, none⟩ ∧ w.cell? ⟨b, off + j, none⟩ = some (.string x))) :
    Calls Try.prog 5 #[.slice ao xs.length capn, .slice bo ss.length caps] w fun x w' => x = .returned (.bool true) ∧ Below w.heap.size w w' := by
  obtain ⟨i0, hi, hz0, hz1, hz2⟩ := info_parts Try.infoByte
  by_cases hn20 : xs.length ≤ 20
  case neg =>
    have hl' : (20 : Int) < xs.length := by omega
    go_enter Try.func5, Try.ntmps5
    go_wp2_with fail
    refine (known_any _).mono ?_
    rintro e w1 ⟨rfl, hb1⟩
    go_wp2_with fail
    go_ret
    exact ⟨rfl, hb1⟩
  have hn20' : (xs.length : Int) ≤ 20 := by omega
  by_cases hm10 : ss.length ≤ 10
  case neg =>
    have hl' : (10 : Int) < ss.length := by omega
    go_enter Try.func5, Try.ntmps5
    go_wp2_with fail
    refine (known_any _).mono ?_
    rintro e w1 ⟨rfl, hb1⟩
    go_wp2_with fail
    go_ret
    exact ⟨rfl, hb1⟩
  have hm10' : (ss.length : Int) ≤ 10 := by omega
  have HLE := hid (show le 1 ((xs.length : Int) % 18446744073709551616).toNat = le 1 xs.length by congr 1; omega)
  go_enter Try.func5, Try.ntmps5
  go_wp2_with fail
  refine (known_any _).mono ?_
  rintro e w1 ⟨rfl, hb1⟩
  go_wp2_with fail
  refine (cByte _ [] 0 rfl _ _ (Reads.nil _) (by omega)).mono ?_
  rintro e w2 ⟨g2, cap2, rfl, hg2, hO2, h2⟩
  rw [HLE.out, List.nil_append] at hO2
  have HB2 := hid (below_seq hb1 h2)
  have HO2 := hid hO2
  clear hb1 h2 hO2 hg2
  go_wp2_with fail
  go_loopw [5, 6] (fun v i wr => ∃ (j : Nat) (go_ : Option Addr) (cap : Nat), j ≤ xs.length ∧ i = .int .i64 j ∧ v = .slice go_ (1 + 8 * j) cap ∧ Reads wr (.slice go_ (1 + 8 * j) cap) (B (le 1 xs.length ++ ints (xs.take j))) ∧ Below w.heap.size w wr) (fun _ i _ => xs.length - (intOf i).toNat)
  case atStart => exact ⟨0, _, cap2, Nat.zero_le _, rfl, rfl, by simpa [ints] using HO2.out.reads, HB2.out⟩
  case round =>
    clear HO2 HB2
    obtain ⟨j, gao, cap, hj, rfl, rfl, hr, hb⟩ := hrel
    have HR := hid hr
    have HB := hid hb
    clear hr hb
    by_cases hlt : j < xs.length
    · have hlt' : (j : Int) < xs.length := by omega
      obtain ⟨x, hx⟩ : ∃ x, xs[j]? = some x := ⟨_, List.getElem?_eq_getElem hlt⟩
      obtain ⟨⟨b, off, rfl, hcx⟩, hx1, hx2⟩ := hxs.out j x hx
      have hc := cell_later HB.out hcx
      have HX := hid hx
      clear hx hcx hx1 hx2
      have HLn := hid (show (le 1 xs.length ++ ints (xs.take j)).length = 1 + 8 * j by rw [List.length_append, le_length, ints_len, List.length_take]; omega)
      go_wp2_with fail
      refine (cInt _ _ (1 + 8 * j) HLn.out x _ HR.out (by omega)).mono ?_
      rintro e w3 ⟨g3, cap3, rfl, hg3, hO3, h3⟩
      have HB3 := hid (below_seq HB.out h3)
      rw [List.append_assoc, ← ints_take xs j x HX.out] at hO3
      have HO3 := hid hO3
      clear hO3 h3 hg3 hc
      go_wp2_with fail
      go_roundw
      case rel =>
        refine ⟨j + 1, some ⟨g3, 0, none⟩, cap3, by omega, by go_num, ?_, ?_, HB3.out⟩
        · rw [show 1 + 8 * (j + 1) = 1 + 8 * j + 8 by omega]
        · rw [show 1 + 8 * (j + 1) = 1 + 8 * j + 8 by omega]
          exact HO3.out.reads
      case measure => simp [intOf]; omega
    · have hjN : j = xs.length := by omega
      have hlt' : ¬ (j : Int) < xs.length := by omega
      have hlt'' : (xs.length : Int) ≤ j := by omega
      have HR' := hid (show Reads wr (.slice gao (1 + 8 * j) cap) (B (le 1 xs.length ++ ints xs)) by have h := HR.out; rw [show xs.take j = xs from List.take_of_length_le (by omega)] at h; exact h)
      have HLn := hid (show (le 1 xs.length ++ ints xs).length = 1 + 8 * j by rw [List.length_append, le_length, ints_len]; omega)
      have hj20 : j ≤ 20 := by omega
      clear HR hjN
      go_wp2_with fail
      go_loopw [5, 7] (fun v i wr => ∃ (m : Nat) (go_ : Option Addr) (cap n : Nat), m ≤ ss.length ∧ i = .int .i64 m ∧ v = .slice go_ n cap ∧ Reads wr (.slice go_ n cap) (B (le 1 xs.length ++ ints xs ++ texts (ss.take m))) ∧ (le 1 xs.length ++ ints xs ++ texts (ss.take m)).length = n ∧ n ≤ 200 + 202 * m ∧ (∀ s ∈ ss.take m, s.size ≤ 200) ∧ Below w.heap.size w wr) (fun _ i _ => ss.length - (intOf i).toNat)
      case atStart => exact ⟨0, gao, cap, 1 + 8 * j, Nat.zero_le _, rfl, rfl, by simpa [texts] using HR'.out, by simpa [texts] using HLn.out, by omega, by simp, HB.out⟩
      case round =>
        clear HR' HLn HB
        obtain ⟨m, gao2, cap2, n, hm, rfl, rfl, hr, hn, hnb, hsz, hb⟩ := hrel
        have HR := hid hr
        have HB := hid hb
        have HN := hid hn
        have HSZ := hid hsz
        clear hr hb hn hsz
        by_cases hlt2 : m < ss.length
        · have hlt2' : (m : Int) < ss.length := by omega
          obtain ⟨x, hx⟩ : ∃ x, ss[m]? = some x := ⟨_, List.getElem?_eq_getElem hlt2⟩
          obtain ⟨b, off, rfl, hcx⟩ := hss.out m x hx
          have hc := cell_later HB.out hcx
          have HX := hid hx
          clear hx hcx
          by_cases hx200 : x.size ≤ 200
          · have hx200' : (x.size : Int) ≤ 200 := by omega
            go_wp2_with fail
            refine (cText _ _ n HN.out x _ HR.out (by omega) (by omega)).mono ?_
            rintro e w3 ⟨g3, cap3, rfl, hg3, hO3, h3⟩
            have HB3 := hid (below_seq HB.out h3)
            have HE := hid (texts_take ss m x HX.out)
            have HO3 := hid hO3
            clear hO3 h3 hg3 hc
            go_wp2_with fail
            go_roundw
            case rel =>
              have e1 : le 1 xs.length ++ ints xs ++ texts (ss.take (m + 1)) = le 1 xs.length ++ ints xs ++ texts (ss.take m) ++ le 2 x.size ++ x.data.toList := by rw [HE.out]; simp [List.append_assoc]
              refine ⟨m + 1, some ⟨g3, 0, none⟩, cap3, n + 2 + x.size, by omega, by go_num, rfl, ?_, ?_, by omega, ?_, HB3.out⟩
              · rw [e1]
                exact HO3.out.reads
              · rw [e1, List.length_append, List.length_append, HN.out, le_length, size_toList]
              · intro s hs
                have e2 : ss.take (m + 1) = ss.take m ++ [x] := by rw [List.take_add_one, HX.out]; rfl
                rw [e2] at hs
                rcases List.mem_append.1 hs with h | h
                · exact HSZ.out s h
                · simp at h
                  subst h
                  exact hx200
            case measure => simp [intOf]; omega
          · have hx200' : (200 : Int) < x.size := by omega
            go_wp2_with fail
            go_ret
            exact ⟨rfl, HB.out⟩
        · have hmM : m = ss.length := by omega
          have hlt2' : ¬ (m : Int) < ss.length := by omega
          have hlt2'' : (ss.length : Int) ≤ m := by omega
          have HST := hid (show ss.take m = ss from List.take_of_length_le (by omega))
          have HRL := hid (show Reads wr (.slice gao2 n cap2) (B (le 1 xs.length ++ (ints xs ++ texts ss))) by have h := HR.out; rw [HST.out, List.append_assoc] at h; exact h)
          have HNL := hid (show (le 1 xs.length ++ (ints xs ++ texts ss)).length = n by have h := HN.out; rw [HST.out, List.append_assoc] at h; exact h)
          have hn3 : n ≤ 2300 := by omega
          have hn1 : 1 ≤ n := by have := HNL.out; rw [List.length_append, le_length] at this; omega
          have HSZ := hid (show ∀ s ∈ ss, s.size ≤ 200 by have h := HSZ.out; rw [HST.out] at h; exact h)
          clear HR HN hnb hmM hm
          go_wp2_with fail
          obtain ⟨wr_, hwr_⟩ : ∃ wr_ : World, wr_ = wr := ⟨_, rfl⟩
          have HBW := hid (show Below w.heap.size w wr_ by rw [hwr_]; exact HB.out)
          have HRL := hid (show Reads wr_ (.slice gao2 n cap2) (B (le 1 xs.length ++ (ints xs ++ texts ss))) by rw [hwr_]; exact HRL.out)
          rw [← hwr_]
          clear hwr_ HB
          go_loopw [8] (fun i w' => ∃ k : Nat, k ≤ 3 ∧ i = .int .i64 k ∧ Below wr_.heap.size wr_ w') (fun i _ => 3 - (intOf i).toNat)
          case atStart => exact ⟨0, Nat.zero_le _, rfl, Below.refl _ _⟩
          case round =>
            obtain ⟨k, hk, rfl, hbk⟩ := hrel
            have HBK := hid hbk
            have HRK := hid (HRL.out.later hbk)
            clear hbk
            have hk4 : k = 0 ∨ k = 1 ∨ k = 2 ∨ k = 3 := by omega
            rcases hk4 with rfl | rfl | rfl | rfl
            · go_wp2_with fail
              refine (New_any _ (le 1 xs.length ++ (ints xs ++ texts ss)) _ HRK.out (by rw [HNL.out]; omega)).mono ?_
              rintro _ w5 ⟨p, rfl, hp, hR5, h5⟩
              have HB5 := hid (below_seq HBK.out h5)
              have HP := hid (Nat.le_trans (HBK.out).size hp)
              have HR5 := hid hR5
              have HM5 := hid (show (le 1 xs.length ++ (ints xs ++ texts ss)).length ≤ 3000 by rw [HNL.out]; omega)
              have HA5 := hid (show At 0 (le 1 xs.length ++ (ints xs ++ texts ss)) (le 1 xs.length ++ (ints xs ++ texts ss), 0) true from .inl ⟨rfl, rfl, rfl⟩)
              clear hp hR5 h5
              obtain ⟨s5, hs5⟩ : ∃ s5 : St, (le 1 xs.length ++ (ints xs ++ texts ss), (0 : Int)) = s5 := ⟨_, rfl⟩
              rw [hs5] at HR5 HA5
              have HM5 := hid (show s5.1.length ≤ 3000 by rw [← hs5]; exact HM5.out)
              clear hs5
              go_wp2_with fail
              refine (Byte_any p s5 _ HR5.out (by have := HM5.out; unfold maxLen; omega)).mono ?_
              rintro _ w6 ⟨rfl, hR6, hg6⟩
              have HB6 := hid (below_at HB5.out hg6 HP.out)
              have HR6 := hid hR6
              have HM6 := hid (Nat.le_trans (nextS_len s5) HM5.out)
              have HA6 := hid (HA5.out.byte (by omega))
              obtain ⟨nb, hnb⟩ : ∃ nb : Nat, byteS s5 = nb := ⟨_, rfl⟩
              obtain ⟨s6, hs6⟩ : ∃ s6 : St, nextS s5 = s6 := ⟨_, rfl⟩
              rw [hnb] at HA6 ⊢
              rw [hs6] at HR6 HM6 HA6
              clear hnb hs6 hR6 hg6 HR5 HA5 HM5 HB5
              go_wp2_with fail
              go_loopw [11, 12] (fun v i w' => ∃ (j : Nat) (s : St) (o : Bool), j ≤ xs.length ∧ i = .int .i64 j ∧ v = .bool o ∧ RD w' p s ∧ s.1.length ≤ 3000 ∧ At 0 (ints (xs.drop j) ++ texts ss) s o ∧ Below wr_.heap.size wr_ w') (fun _ i _ => xs.length - (intOf i).toNat)
              case atStart => exact ⟨0, s6, _, Nat.zero_le _, rfl, rfl, HR6.out, HM6.out, HA6.out, HB6.out⟩
              case round =>
                clear HR6 HM6 HA6 HB6
                obtain ⟨j4, s, o, hj4, rfl, rfl, hr4, hm4, ha4, hb4⟩ := hrel
                have HR4 := hid hr4
                have HM4 := hid hm4
                have HA4 := hid ha4
                have HB4 := hid hb4
                clear hr4 hm4 ha4 hb4
                by_cases hlt4 : j4 < xs.length
                · have hlt4' : (j4 : Int) < xs.length := by omega
                  obtain ⟨x, hx⟩ : ∃ x, xs[j4]? = some x := ⟨_, List.getElem?_eq_getElem hlt4⟩
                  obtain ⟨⟨b, off, rfl, hcx⟩, hx1, hx2⟩ := hxs.out j4 x hx
                  have HA4' := hid (show At 0 (le 8 (x % 18446744073709551616).toNat ++ (ints (xs.drop (j4 + 1)) ++ texts ss)) s o by have h := HA4.out; rw [ints_drop xs j4 x hx, List.append_assoc] at h; exact h)
                  have HA7 := hid (HA4'.out.int hx1 hx2)
                  have hc := cell_later (below_seq HBW.out HB4.out) hcx
                  have HBP := hid (show b ≠ p by have h1 := World.block_lt_of_cell? _ _ hcx; have h2 := HP.out; have h3 := HBW.out.size; simp only at h1; omega)
                  obtain ⟨nv, hnv⟩ : ∃ nv : Int, intR (jn 8 0 0 s) = nv := ⟨_, rfl⟩
                  have HV := hid hnv
                  have HM7 := hid (Nat.le_trans (jn_len 8 0 0 s) HM4.out)
                  rw [hnv] at HA7
                  clear hx hcx hx1 hx2 HA4 HA4' hnv
                  have hq : nv = x := by have h := HA7.out.all (by decide); simp at h; exact h.1
                  have hq' : (nv == x) = true := by simpa using hq
                  have HQ := hid (show (decide (nv = x) && o) = o by simp [hq])
                  rw [HQ.out] at HA7
                  clear hq
                  go_wp2_with fail
                  go_region_held3 (fun w' => w'.cell? ⟨b, off + j4, none⟩ = some (.int .i64 x)) (first | go_keep | exact hG7.cell (by first | assumption | go_keep) (by simpa using HBP.out))
                    (first | (go_at_call 19; refine (Int_any p s _ ?_ (by have := HM4.out; unfold maxLen; omega)).mono ?_; (exact HR4.out); rintro e w7 ⟨rfl, hR7, hG7⟩; rw [HV.out]))
                  have HB7 := hid (below_at HB4.out.drew hG7 HP.out)
                  have HR7 := hid hR7
                  clear hR7 hG7 hc
                  go_wp2_with fail
                  go_roundw
                  case rel => exact ⟨j4 + 1, _, o, by omega, by go_num, rfl, HR7.out, HM7.out, HA7.out, HB7.out⟩
                  case measure => simp [intOf]; omega
                · have hlt4' : ¬ (j4 : Int) < xs.length := by omega
                  have hlt4'' : (xs.length : Int) ≤ j4 := by omega
                  have HA5 := hid (show At 0 (texts ss) s o by have h := HA4.out; rw [List.drop_of_length_le (by omega)] at h; exact h)
                  clear HA4
                  go_wp2_with fail
                  go_loopw [11, 13] (fun v i w' => ∃ (j : Nat) (s : St) (o : Bool), j ≤ ss.length ∧ i = .int .i64 j ∧ v = .bool o ∧ RD w' p s ∧ s.1.length ≤ 3000 ∧ At 0 (texts (ss.drop j)) s o ∧ Below wr_.heap.size wr_ w') (fun _ i _ => ss.length - (intOf i).toNat)
                  case atStart => exact ⟨0, s, o, Nat.zero_le _, rfl, rfl, HR4.out, HM4.out, HA5.out, HB4.out⟩
                  case round =>
                    clear HR4 HM4 HA5 HB4
                    obtain ⟨j5, s, o, hj5, rfl, rfl, hr5, hm5, ha5, hb5⟩ := hrel
                    have HR5 := hid hr5
                    have HM5 := hid hm5
                    have HA5 := hid ha5
                    have HB5 := hid hb5
                    clear hr5 hm5 ha5 hb5
                    by_cases hlt5 : j5 < ss.length
                    · have hlt5' : (j5 : Int) < ss.length := by omega
                      obtain ⟨x, hx⟩ : ∃ x, ss[j5]? = some x := ⟨_, List.getElem?_eq_getElem hlt5⟩
                      obtain ⟨b, off, rfl, hcx⟩ := hss.out j5 x hx
                      have HA5' := hid (show At 0 (le 2 x.data.toList.length ++ (x.data.toList ++ texts (ss.drop (j5 + 1)))) s o by have h := HA5.out; rw [texts_drop ss j5 x hx, ← size_toList x] at h; exact h)
                      have HA7 := hid (HA5'.out.text (by have := HSZ.out x (List.mem_of_getElem? hx); rw [size_toList]; omega))
                      have hc := cell_later (below_seq HBW.out HB5.out) hcx
                      have HBP := hid (show b ≠ p by have h1 := World.block_lt_of_cell? _ _ hcx; have h2 := HP.out; have h3 := HBW.out.size; simp only at h1; omega)
                      obtain ⟨S1, hS1⟩ : ∃ S1 : ByteArray, (⟨(textR (jn 2 0 0 s)).1.toArray⟩ : ByteArray) = S1 := ⟨_, rfl⟩
                      have HV := hid hS1
                      have HM7 := hid (Nat.le_trans (Nat.le_trans (textR_le (jn 2 0 0 s)) (jn_len 2 0 0 s)) HM5.out)
                      have HD := hid (show ((textR (jn 2 0 0 s)).1 = x.data.toList) ↔ S1 = x by rw [← hS1]; exact str_eq _ x)
                      clear hx hcx HA5 HA5' hS1
                      have hq : S1 = x := by have h := HA7.out.all (by decide); simp at h; exact HD.out.1 h.1
                      have HQ := hid (show (decide ((textR (jn 2 0 0 s)).1 = x.data.toList) && o) = o by simp [HD.out.2 hq])
                      rw [HQ.out] at HA7
                      have HSX := hid hq
                      clear hq
                      go_wp2_with fail
                      go_region_held3 (fun w' => w'.cell? ⟨b, off + j5, none⟩ = some (.string x)) (first | go_keep | exact hG7.cell (by first | assumption | go_keep) (by simpa using HBP.out))
                        (first | (go_at_call 23; refine (Text_any p s _ ?_ (by have := HM5.out; unfold maxLen; omega)).mono ?_; (exact HR5.out); rintro e w7 ⟨rfl, hR7, hG7⟩; rw [HV.out, HSX.out]))
                      have HB7 := hid (below_at HB5.out.drew hG7 HP.out)
                      have HR7 := hid hR7
                      clear hR7 hG7 hc
                      go_wp2_with fail
                      go_roundw
                      case rel => exact ⟨j5 + 1, _, o, by omega, by go_num, rfl, HR7.out, HM7.out, HA7.out, HB7.out⟩
                      case measure => simp [intOf]; omega
                    · have hlt5' : ¬ (j5 : Int) < ss.length := by omega
                      have hlt5'' : (ss.length : Int) ≤ j5 := by omega
                      have HD := hid (show At 0 [] s o by have h := HA5.out; rw [List.drop_of_length_le (by omega)] at h; exact h)
                      have hD := HD.out.done
                      clear HA5 HD
                      have HED := hid ((hD.1 rfl).2)
                      have ho : o = true := (hD.1 rfl).1
                      subst ho
                      clear hD
                      go_wp2_with fail
                      refine (End_any p s _ HR5.out (by have := HM5.out; unfold maxLen; omega)).mono ?_
                      rintro _ w8 ⟨rfl, rfl⟩
                      rw [HED.out]
                      go_wp2_with fail
                      go_roundw
                      case rel => exact ⟨1, by omega, by go_num, HB5.out⟩
                      case measure => simp [intOf]
            · go_wp2_with (first
                | (at_builtin; refine wpList_append_src _ rfl (.tmp 65) (.tmp 66) 22 22 rfl 5 i0 (.int .u8 0) Try.underlying22 hi hz0 hz1 hz2 rfl wr.heap.size 0 0 [] rfl (Owns.empty _ _) _ n _ rfl (Src.ofBytes _ Try.underlying22 HNL.out (HRK.out.later ((Below.refl _ _).alloc (Nat.le_refl _) _))) (by omega) ?_; intro g3 cap3 w3 hG3; have hO3 : Owns w3 5 g3 cap3 n (B (le 1 xs.length ++ (ints xs ++ texts ss))) := by { have h := hG3.own; rwa [Nat.zero_add, List.nil_append] at h })
                | (at_builtin; refine wpList_append_src _ rfl (.tmp 67) (.tmp 68) 22 22 rfl 5 i0 (.int .u8 0) Try.underlying22 hi hz0 hz1 hz2 rfl g3 cap3 n _ rfl (hO3.alloc _) _ 1 _ rfl (Src.ofSlice _ Try.underlying22 ⟨w3.heap.size, 0, none⟩ 1 1 [_] rfl (cell_one_new _ _ _) (by intro u hu; simp at hu; subst hu; rfl)) (by omega) ?_; intro g4 cap4 w4 hG4))
              have HBX := hid (show Below wr_.heap.size wr_ w4 from (hG4.of_alloc hO3.lt).below (hG3.below (HBK.out.alloc HBK.out.size _) HBK.out.size) (hG3.ge HBK.out.size (by have := HBK.out.size; simp; omega)))
              have hO4 : Owns w4 5 g4 cap4 (n + 1) (B (le 1 xs.length ++ (ints xs ++ texts ss) ++ [7])) := by { have h := hG4.own; rw [B_append]; exact h }
              refine (New_any _ (le 1 xs.length ++ (ints xs ++ texts ss) ++ [7]) _ hO4.reads (by rw [List.length_append, HNL.out]; simp; omega)).mono ?_
              rintro _ w5 ⟨p, rfl, hp, hR5, h5⟩
              have HB5 := hid (below_seq HBX.out h5)
              have HP := hid (Nat.le_trans (HBX.out).size hp)
              have HR5 := hid hR5
              have HM5 := hid (show (le 1 xs.length ++ (ints xs ++ texts ss) ++ [7]).length ≤ 3000 by rw [List.length_append, HNL.out]; simp; omega)
              have HA5 := hid (show At 1 (le 1 xs.length ++ (ints xs ++ texts ss)) (le 1 xs.length ++ (ints xs ++ texts ss) ++ [7], 0) true from .inr (.inl ⟨rfl, rfl, rfl⟩))
              clear hp hR5 h5
              obtain ⟨s5, hs5⟩ : ∃ s5 : St, (le 1 xs.length ++ (ints xs ++ texts ss) ++ [7], (0 : Int)) = s5 := ⟨_, rfl⟩
              rw [hs5] at HR5 HA5
              have HM5 := hid (show s5.1.length ≤ 3000 by rw [← hs5]; exact HM5.out)
              clear hs5
              go_wp2_with fail
              refine (Byte_any p s5 _ HR5.out (by have := HM5.out; unfold maxLen; omega)).mono ?_
              rintro _ w6 ⟨rfl, hR6, hg6⟩
              have HB6 := hid (below_at HB5.out hg6 HP.out)
              have HR6 := hid hR6
              have HM6 := hid (Nat.le_trans (nextS_len s5) HM5.out)
              have HA6 := hid (HA5.out.byte (by omega))
              obtain ⟨nb, hnb⟩ : ∃ nb : Nat, byteS s5 = nb := ⟨_, rfl⟩
              obtain ⟨s6, hs6⟩ : ∃ s6 : St, nextS s5 = s6 := ⟨_, rfl⟩
              rw [hnb] at HA6 ⊢
              rw [hs6] at HR6 HM6 HA6
              clear hnb hs6 hR6 hg6 HR5 HA5 HM5 HB5
              go_wp2_with fail
              go_loopw [11, 12] (fun v i w' => ∃ (j : Nat) (s : St) (o : Bool), j ≤ xs.length ∧ i = .int .i64 j ∧ v = .bool o ∧ RD w' p s ∧ s.1.length ≤ 3000 ∧ At 1 (ints (xs.drop j) ++ texts ss) s o ∧ Below wr_.heap.size wr_ w') (fun _ i _ => xs.length - (intOf i).toNat)
              case atStart => exact ⟨0, s6, _, Nat.zero_le _, rfl, rfl, HR6.out, HM6.out, HA6.out, HB6.out⟩
              case round =>
                clear HR6 HM6 HA6 HB6
                obtain ⟨j4, s, o, hj4, rfl, rfl, hr4, hm4, ha4, hb4⟩ := hrel
                have HR4 := hid hr4
                have HM4 := hid hm4
                have HA4 := hid ha4
                have HB4 := hid hb4
                clear hr4 hm4 ha4 hb4
                by_cases hlt4 : j4 < xs.length
                · have hlt4' : (j4 : Int) < xs.length := by omega
                  obtain ⟨x, hx⟩ : ∃ x, xs[j4]? = some x := ⟨_, List.getElem?_eq_getElem hlt4⟩
                  obtain ⟨⟨b, off, rfl, hcx⟩, hx1, hx2⟩ := hxs.out j4 x hx
                  have HA4' := hid (show At 1 (le 8 (x % 18446744073709551616).toNat ++ (ints (xs.drop (j4 + 1)) ++ texts ss)) s o by have h := HA4.out; rw [ints_drop xs j4 x hx, List.append_assoc] at h; exact h)
                  have HA7 := hid (HA4'.out.int hx1 hx2)
                  have hc := cell_later (below_seq HBW.out HB4.out) hcx
                  have HBP := hid (show b ≠ p by have h1 := World.block_lt_of_cell? _ _ hcx; have h2 := HP.out; have h3 := HBW.out.size; simp only at h1; omega)
                  obtain ⟨nv, hnv⟩ : ∃ nv : Int, intR (jn 8 0 0 s) = nv := ⟨_, rfl⟩
                  have HV := hid hnv
                  have HM7 := hid (Nat.le_trans (jn_len 8 0 0 s) HM4.out)
                  rw [hnv] at HA7
                  clear hx hcx hx1 hx2 HA4 HA4' hnv
                  have hq : nv = x := by have h := HA7.out.all (by decide); simp at h; exact h.1
                  have hq' : (nv == x) = true := by simpa using hq
                  have HQ := hid (show (decide (nv = x) && o) = o by simp [hq])
                  rw [HQ.out] at HA7
                  clear hq
                  go_wp2_with fail
                  go_region_held3 (fun w' => w'.cell? ⟨b, off + j4, none⟩ = some (.int .i64 x)) (first | go_keep | exact hG7.cell (by first | assumption | go_keep) (by simpa using HBP.out))
                    (first | (go_at_call 19; refine (Int_any p s _ ?_ (by have := HM4.out; unfold maxLen; omega)).mono ?_; (exact HR4.out); rintro e w7 ⟨rfl, hR7, hG7⟩; rw [HV.out]))
                  have HB7 := hid (below_at HB4.out.drew hG7 HP.out)
                  have HR7 := hid hR7
                  clear hR7 hG7 hc
                  go_wp2_with fail
                  go_roundw
                  case rel => exact ⟨j4 + 1, _, o, by omega, by go_num, rfl, HR7.out, HM7.out, HA7.out, HB7.out⟩
                  case measure => simp [intOf]; omega
                · have hlt4' : ¬ (j4 : Int) < xs.length := by omega
                  have hlt4'' : (xs.length : Int) ≤ j4 := by omega
                  have HA5 := hid (show At 1 (texts ss) s o by have h := HA4.out; rw [List.drop_of_length_le (by omega)] at h; exact h)
                  clear HA4
                  go_wp2_with fail
                  go_loopw [11, 13] (fun v i w' => ∃ (j : Nat) (s : St) (o : Bool), j ≤ ss.length ∧ i = .int .i64 j ∧ v = .bool o ∧ RD w' p s ∧ s.1.length ≤ 3000 ∧ At 1 (texts (ss.drop j)) s o ∧ Below wr_.heap.size wr_ w') (fun _ i _ => ss.length - (intOf i).toNat)
                  case atStart => exact ⟨0, s, o, Nat.zero_le _, rfl, rfl, HR4.out, HM4.out, HA5.out, HB4.out⟩
                  case round =>
                    clear HR4 HM4 HA5 HB4
                    obtain ⟨j5, s, o, hj5, rfl, rfl, hr5, hm5, ha5, hb5⟩ := hrel
                    have HR5 := hid hr5
                    have HM5 := hid hm5
                    have HA5 := hid ha5
                    have HB5 := hid hb5
                    clear hr5 hm5 ha5 hb5
                    by_cases hlt5 : j5 < ss.length
                    · have hlt5' : (j5 : Int) < ss.length := by omega
                      obtain ⟨x, hx⟩ : ∃ x, ss[j5]? = some x := ⟨_, List.getElem?_eq_getElem hlt5⟩
                      obtain ⟨b, off, rfl, hcx⟩ := hss.out j5 x hx
                      have HA5' := hid (show At 1 (le 2 x.data.toList.length ++ (x.data.toList ++ texts (ss.drop (j5 + 1)))) s o by have h := HA5.out; rw [texts_drop ss j5 x hx, ← size_toList x] at h; exact h)
                      have HA7 := hid (HA5'.out.text (by have := HSZ.out x (List.mem_of_getElem? hx); rw [size_toList]; omega))
                      have hc := cell_later (below_seq HBW.out HB5.out) hcx
                      have HBP := hid (show b ≠ p by have h1 := World.block_lt_of_cell? _ _ hcx; have h2 := HP.out; have h3 := HBW.out.size; simp only at h1; omega)
                      obtain ⟨S1, hS1⟩ : ∃ S1 : ByteArray, (⟨(textR (jn 2 0 0 s)).1.toArray⟩ : ByteArray) = S1 := ⟨_, rfl⟩
                      have HV := hid hS1
                      have HM7 := hid (Nat.le_trans (Nat.le_trans (textR_le (jn 2 0 0 s)) (jn_len 2 0 0 s)) HM5.out)
                      have HD := hid (show ((textR (jn 2 0 0 s)).1 = x.data.toList) ↔ S1 = x by rw [← hS1]; exact str_eq _ x)
                      clear hx hcx HA5 HA5' hS1
                      have hq : S1 = x := by have h := HA7.out.all (by decide); simp at h; exact HD.out.1 h.1
                      have HQ := hid (show (decide ((textR (jn 2 0 0 s)).1 = x.data.toList) && o) = o by simp [HD.out.2 hq])
                      rw [HQ.out] at HA7
                      have HSX := hid hq
                      clear hq
                      go_wp2_with fail
                      go_region_held3 (fun w' => w'.cell? ⟨b, off + j5, none⟩ = some (.string x)) (first | go_keep | exact hG7.cell (by first | assumption | go_keep) (by simpa using HBP.out))
                        (first | (go_at_call 23; refine (Text_any p s _ ?_ (by have := HM5.out; unfold maxLen; omega)).mono ?_; (exact HR5.out); rintro e w7 ⟨rfl, hR7, hG7⟩; rw [HV.out, HSX.out]))
                      have HB7 := hid (below_at HB5.out.drew hG7 HP.out)
                      have HR7 := hid hR7
                      clear hR7 hG7 hc
                      go_wp2_with fail
                      go_roundw
                      case rel => exact ⟨j5 + 1, _, o, by omega, by go_num, rfl, HR7.out, HM7.out, HA7.out, HB7.out⟩
                      case measure => simp [intOf]; omega
                    · have hlt5' : ¬ (j5 : Int) < ss.length := by omega
                      have hlt5'' : (ss.length : Int) ≤ j5 := by omega
                      have HD := hid (show At 1 [] s o by have h := HA5.out; rw [List.drop_of_length_le (by omega)] at h; exact h)
                      have hD := HD.out.done
                      clear HA5 HD
                      have HED := hid ((hD.2.1 rfl).2)
                      have ho : o = true := (hD.2.1 rfl).1
                      subst ho
                      clear hD
                      go_wp2_with fail
                      refine (End_any p s _ HR5.out (by have := HM5.out; unfold maxLen; omega)).mono ?_
                      rintro _ w8 ⟨rfl, rfl⟩
                      rw [HED.out]
                      go_wp2_with fail
                      go_roundw
                      case rel => exact ⟨2, by omega, by go_num, HB5.out⟩
                      case measure => simp [intOf]
            · have hn1' : (1 : Int) ≤ n := by omega
              have hcap2 : n ≤ cap2 := by have := HRK.out.cap; rwa [HNL.out] at this
              have HDL := hid (show (le 1 xs.length ++ (ints xs ++ texts ss)).take (n - 1) = (le 1 xs.length ++ (ints xs ++ texts ss)).dropLast by rw [List.dropLast_eq_take, HNL.out])
              have HRT := hid (show Reads wr (.slice gao2 (n - 1) cap2) (B (le 1 xs.length ++ (ints xs ++ texts ss)).dropLast) by rw [← HDL.out]; exact Reads.take (by rw [HNL.out]; exact HRK.out) (by rw [HNL.out]; omega))
              go_wp2_with fail
              refine (New_any _ (le 1 xs.length ++ (ints xs ++ texts ss)).dropLast _ HRT.out (by rw [List.length_dropLast, HNL.out]; omega)).mono ?_
              rintro _ w5 ⟨p, rfl, hp, hR5, h5⟩
              have HB5 := hid (below_seq HBK.out h5)
              have HP := hid (Nat.le_trans (HBK.out).size hp)
              have HR5 := hid hR5
              have HM5 := hid (show ((le 1 xs.length ++ (ints xs ++ texts ss)).dropLast).length ≤ 3000 by rw [List.length_dropLast, HNL.out]; omega)
              have HA5 := hid (show At 2 (le 1 xs.length ++ (ints xs ++ texts ss)) ((le 1 xs.length ++ (ints xs ++ texts ss)).dropLast, 0) true from .inr (.inr ⟨rfl, .inr ⟨rfl, by simp [le]⟩⟩))
              clear hp hR5 h5
              obtain ⟨s5, hs5⟩ : ∃ s5 : St, ((le 1 xs.length ++ (ints xs ++ texts ss)).dropLast, (0 : Int)) = s5 := ⟨_, rfl⟩
              rw [hs5] at HR5 HA5
              have HM5 := hid (show s5.1.length ≤ 3000 by rw [← hs5]; exact HM5.out)
              clear hs5
              go_wp2_with fail
              refine (Byte_any p s5 _ HR5.out (by have := HM5.out; unfold maxLen; omega)).mono ?_
              rintro _ w6 ⟨rfl, hR6, hg6⟩
              have HB6 := hid (below_at HB5.out hg6 HP.out)
              have HR6 := hid hR6
              have HM6 := hid (Nat.le_trans (nextS_len s5) HM5.out)
              have HA6 := hid (HA5.out.byte (by omega))
              obtain ⟨nb, hnb⟩ : ∃ nb : Nat, byteS s5 = nb := ⟨_, rfl⟩
              obtain ⟨s6, hs6⟩ : ∃ s6 : St, nextS s5 = s6 := ⟨_, rfl⟩
              rw [hnb] at HA6 ⊢
              rw [hs6] at HR6 HM6 HA6
              clear hnb hs6 hR6 hg6 HR5 HA5 HM5 HB5
              go_wp2_with fail
              go_loopw [11, 12] (fun v i w' => ∃ (j : Nat) (s : St) (o : Bool), j ≤ xs.length ∧ i = .int .i64 j ∧ v = .bool o ∧ RD w' p s ∧ s.1.length ≤ 3000 ∧ At 2 (ints (xs.drop j) ++ texts ss) s o ∧ Below wr_.heap.size wr_ w') (fun _ i _ => xs.length - (intOf i).toNat)
              case atStart => exact ⟨0, s6, _, Nat.zero_le _, rfl, rfl, HR6.out, HM6.out, HA6.out, HB6.out⟩
              case round =>
                clear HR6 HM6 HA6 HB6
                obtain ⟨j4, s, o, hj4, rfl, rfl, hr4, hm4, ha4, hb4⟩ := hrel
                have HR4 := hid hr4
                have HM4 := hid hm4
                have HA4 := hid ha4
                have HB4 := hid hb4
                clear hr4 hm4 ha4 hb4
                by_cases hlt4 : j4 < xs.length
                · have hlt4' : (j4 : Int) < xs.length := by omega
                  obtain ⟨x, hx⟩ : ∃ x, xs[j4]? = some x := ⟨_, List.getElem?_eq_getElem hlt4⟩
                  obtain ⟨⟨b, off, rfl, hcx⟩, hx1, hx2⟩ := hxs.out j4 x hx
                  have HA4' := hid (show At 2 (le 8 (x % 18446744073709551616).toNat ++ (ints (xs.drop (j4 + 1)) ++ texts ss)) s o by have h := HA4.out; rw [ints_drop xs j4 x hx, List.append_assoc] at h; exact h)
                  have HA7 := hid (HA4'.out.int hx1 hx2)
                  have hc := cell_later (below_seq HBW.out HB4.out) hcx
                  have HBP := hid (show b ≠ p by have h1 := World.block_lt_of_cell? _ _ hcx; have h2 := HP.out; have h3 := HBW.out.size; simp only at h1; omega)
                  obtain ⟨nv, hnv⟩ : ∃ nv : Int, intR (jn 8 0 0 s) = nv := ⟨_, rfl⟩
                  have HV := hid hnv
                  have HM7 := hid (Nat.le_trans (jn_len 8 0 0 s) HM4.out)
                  rw [hnv] at HA7
                  clear hx hcx hx1 hx2 HA4 HA4' hnv
                  by_cases hq : nv = x
                  · have hq' : (nv == x) = true := by simpa using hq
                    have HQ := hid (show (decide (nv = x) && o) = o by simp [hq])
                    rw [HQ.out] at HA7
                    clear hq
                    go_wp2_with fail
                    go_region_held3 (fun w' => w'.cell? ⟨b, off + j4, none⟩ = some (.int .i64 x)) (first | go_keep | exact hG7.cell (by first | assumption | go_keep) (by simpa using HBP.out))
                      (first | (go_at_call 19; refine (Int_any p s _ ?_ (by have := HM4.out; unfold maxLen; omega)).mono ?_; (exact HR4.out); rintro e w7 ⟨rfl, hR7, hG7⟩; rw [HV.out]))
                    have HB7 := hid (below_at HB4.out.drew hG7 HP.out)
                    have HR7 := hid hR7
                    clear hR7 hG7 hc
                    go_wp2_with fail
                    go_roundw
                    case rel => exact ⟨j4 + 1, _, o, by omega, by go_num, rfl, HR7.out, HM7.out, HA7.out, HB7.out⟩
                    case measure => simp [intOf]; omega
                  · have hq' : (nv == x) = false := by simpa using hq
                    have HQ := hid (show (decide (nv = x) && o) = false by simp [hq])
                    rw [HQ.out] at HA7
                    go_wp2_with fail
                    refine wp_region_noPanic ?_
                    refine wp_region_held_drew (S := fun w' => w'.cell? ⟨b, off + j4, none⟩ = some (.int .i64 x)) (by kernel_rfl) hc (fun hHeld => ?_)
                    refine wpAnyH_take (i := 0) (v := .pointer (some ⟨p, 0, none⟩)) rfl (by kernel_rfl) (by kernel_rfl) (by kernel_rfl) (fun _ _ _ h => h) (Or.inl ⟨by rfl, by intro w hSw; (try dsimp only at hSw); go_simp⟩) hHeld ?_
                    try simp only [Act.put, List.setIfInBounds_toArray, List.set_cons_zero, List.set_cons_succ]
                    refine wpAnyH_take (i := 2) (v := .slice (some ⟨b, off, none⟩) xs.length capn) rfl (by kernel_rfl) (by kernel_rfl) (by kernel_rfl) (fun _ _ _ h => h) (Or.inl ⟨by rfl, by intro w hSw; (try dsimp only at hSw); go_simp⟩) hHeld ?_
                    try simp only [Act.put, List.setIfInBounds_toArray, List.set_cons_zero, List.set_cons_succ]
                    refine wpAnyH_take (i := 3) (v := .int .i64 j4) rfl (by kernel_rfl) (by kernel_rfl) (by kernel_rfl) (fun _ _ _ h => h) (Or.inl ⟨by rfl, by intro w hSw; (try dsimp only at hSw); go_simp⟩) hHeld ?_
                    try simp only [Act.put, List.setIfInBounds_toArray, List.set_cons_zero, List.set_cons_succ]
                    refine wpAnyH_take (i := 4) (v := .pointer (some ⟨b, off + j4, none⟩)) rfl (by kernel_rfl) (by kernel_rfl) (by kernel_rfl) (fun _ _ _ h => h) (Or.inl ⟨by rfl, by intro w hSw; (try dsimp only at hSw); go_simp⟩) hHeld ?_
                    try simp only [Act.put, List.setIfInBounds_toArray, List.set_cons_zero, List.set_cons_succ]
                    refine wpAnyH_take (i := 5) (v := .int .i64 x) rfl (by kernel_rfl) (by kernel_rfl) (by kernel_rfl) (fun _ _ _ h => h) (Or.inl ⟨by rfl, by intro w hSw; (try dsimp only at hSw); go_simp⟩) hHeld ?_
                    try simp only [Act.put, List.setIfInBounds_toArray, List.set_cons_zero, List.set_cons_succ]
                    refine wpAnyH_ready (rs := [1]) (by kernel_rfl) (by simp) ?_
                    refine AllReadyH.cons rfl (fun K hK => ?_) AllReadyH.nil
                    go_simp
                    refine (Int_any p s _ ?_ (by have := HM4.out; unfold maxLen; omega)).mono ?_
                    · exact HR4.out
                    rintro e w7 ⟨rfl, hR7, hG7⟩
                    rw [HV.out]
                    refine hK.out _ _ ?_ (fun hHeld => ?_)
                    · exact hG7.cell hc (by simpa using HBP.out)
                    clear hK K
                    try simp only [Act.put, List.setIfInBounds_toArray, List.set_cons_zero, List.set_cons_succ]
                    refine wpAnyH_take (i := 6) (v := .bool false) rfl (by kernel_rfl) (by kernel_rfl) (by kernel_rfl) (fun _ _ _ h => h) (Or.inl ⟨by rfl, by intro w hSw; (try dsimp only at hSw); go_simp⟩) hHeld ?_
                    try simp only [Act.put, List.setIfInBounds_toArray, List.set_cons_zero, List.set_cons_succ]
                    refine wpAnyH_take (i := 7) (v := .bool false) rfl (by kernel_rfl) (by kernel_rfl) (by kernel_rfl) (fun _ _ _ h => h) (Or.inl ⟨by rfl, by intro w hSw; (try dsimp only at hSw); go_simp⟩) hHeld ?_
                    try simp only [Act.put, List.setIfInBounds_toArray, List.set_cons_zero, List.set_cons_succ]
                    refine wpAnyH_take (i := 8) (v := undef) rfl (by kernel_rfl) (by kernel_rfl) (by kernel_rfl) (fun _ _ _ h => h) (Or.inr ⟨by rfl, rfl⟩) hHeld ?_
                    try simp only [Act.put, List.setIfInBounds_toArray, List.set_cons_zero, List.set_cons_succ]
                    refine wpAnyH_take (i := 9) (v := .bool false) rfl (by kernel_rfl) (by kernel_rfl) (by kernel_rfl) (fun _ _ _ h => h) (Or.inl ⟨by rfl, by intro w hSw; (try dsimp only at hSw); go_simp⟩) hHeld ?_
                    try simp only [Act.put, List.setIfInBounds_toArray, List.set_cons_zero, List.set_cons_succ]
                    refine wpAnyH_take (i := 10) (v := .bool false) rfl (by kernel_rfl) (by kernel_rfl) (by kernel_rfl) (fun _ _ _ h => h) (Or.inl ⟨by rfl, by intro w hSw; (try dsimp only at hSw); go_simp⟩) hHeld ?_
                    try simp only [Act.put, List.setIfInBounds_toArray, List.set_cons_zero, List.set_cons_succ]
                    refine wpAnyH_done (by kernel_rfl) ?_ _
                    refine NoPanic.normal ?_
                    have HB7 := hid (below_at HB4.out.drew hG7 HP.out)
                    have HR7 := hid hR7
                    clear hR7 hG7 hc
                    go_wp2_with fail
                    go_roundw
                    case rel => exact ⟨j4 + 1, _, false, by omega, by go_num, rfl, HR7.out, HM7.out, HA7.out, HB7.out⟩
                    case measure => simp [intOf]; omega
                · have hlt4' : ¬ (j4 : Int) < xs.length := by omega
                  have hlt4'' : (xs.length : Int) ≤ j4 := by omega
                  have HA5 := hid (show At 2 (texts ss) s o by have h := HA4.out; rw [List.drop_of_length_le (by omega)] at h; exact h)
                  clear HA4
                  go_wp2_with fail
                  go_loopw [11, 13] (fun v i w' => ∃ (j : Nat) (s : St) (o : Bool), j ≤ ss.length ∧ i = .int .i64 j ∧ v = .bool o ∧ RD w' p s ∧ s.1.length ≤ 3000 ∧ At 2 (texts (ss.drop j)) s o ∧ Below wr_.heap.size wr_ w') (fun _ i _ => ss.length - (intOf i).toNat)
                  case atStart => exact ⟨0, s, o, Nat.zero_le _, rfl, rfl, HR4.out, HM4.out, HA5.out, HB4.out⟩
                  case round =>
                    clear HR4 HM4 HA5 HB4
                    obtain ⟨j5, s, o, hj5, rfl, rfl, hr5, hm5, ha5, hb5⟩ := hrel
                    have HR5 := hid hr5
                    have HM5 := hid hm5
                    have HA5 := hid ha5
                    have HB5 := hid hb5
                    clear hr5 hm5 ha5 hb5
                    by_cases hlt5 : j5 < ss.length
                    · have hlt5' : (j5 : Int) < ss.length := by omega
                      obtain ⟨x, hx⟩ : ∃ x, ss[j5]? = some x := ⟨_, List.getElem?_eq_getElem hlt5⟩
                      obtain ⟨b, off, rfl, hcx⟩ := hss.out j5 x hx
                      have HA5' := hid (show At 2 (le 2 x.data.toList.length ++ (x.data.toList ++ texts (ss.drop (j5 + 1)))) s o by have h := HA5.out; rw [texts_drop ss j5 x hx, ← size_toList x] at h; exact h)
                      have HA7 := hid (HA5'.out.text (by have := HSZ.out x (List.mem_of_getElem? hx); rw [size_toList]; omega))
                      have hc := cell_later (below_seq HBW.out HB5.out) hcx
                      have HBP := hid (show b ≠ p by have h1 := World.block_lt_of_cell? _ _ hcx; have h2 := HP.out; have h3 := HBW.out.size; simp only at h1; omega)
                      obtain ⟨S1, hS1⟩ : ∃ S1 : ByteArray, (⟨(textR (jn 2 0 0 s)).1.toArray⟩ : ByteArray) = S1 := ⟨_, rfl⟩
                      have HV := hid hS1
                      have HM7 := hid (Nat.le_trans (Nat.le_trans (textR_le (jn 2 0 0 s)) (jn_len 2 0 0 s)) HM5.out)
                      have HD := hid (show ((textR (jn 2 0 0 s)).1 = x.data.toList) ↔ S1 = x by rw [← hS1]; exact str_eq _ x)
                      clear hx hcx HA5 HA5' hS1
                      by_cases hq : S1 = x
                      · have HQ := hid (show (decide ((textR (jn 2 0 0 s)).1 = x.data.toList) && o) = o by simp [HD.out.2 hq])
                        rw [HQ.out] at HA7
                        have HSX := hid hq
                        clear hq
                        go_wp2_with fail
                        go_region_held3 (fun w' => w'.cell? ⟨b, off + j5, none⟩ = some (.string x)) (first | go_keep | exact hG7.cell (by first | assumption | go_keep) (by simpa using HBP.out))
                          (first | (go_at_call 23; refine (Text_any p s _ ?_ (by have := HM5.out; unfold maxLen; omega)).mono ?_; (exact HR5.out); rintro e w7 ⟨rfl, hR7, hG7⟩; rw [HV.out, HSX.out]))
                        have HB7 := hid (below_at HB5.out.drew hG7 HP.out)
                        have HR7 := hid hR7
                        clear hR7 hG7 hc
                        go_wp2_with fail
                        go_roundw
                        case rel => exact ⟨j5 + 1, _, o, by omega, by go_num, rfl, HR7.out, HM7.out, HA7.out, HB7.out⟩
                        case measure => simp [intOf]; omega
                      · have HQ := hid (show (decide ((textR (jn 2 0 0 s)).1 = x.data.toList) && o) = false by have h := mt HD.out.1 hq; simp [h])
                        rw [HQ.out] at HA7
                        have hq2 : (S1.toList == x.toList) = false := str_ne hq
                        go_wp2_with fail
                        refine wp_region_noPanic ?_
                        refine wp_region_held_drew (S := fun w' => w'.cell? ⟨b, off + j5, none⟩ = some (.string x)) (by kernel_rfl) hc (fun hHeld => ?_)
                        refine wpAnyH_take (i := 0) (v := .pointer (some ⟨p, 0, none⟩)) rfl (by kernel_rfl) (by kernel_rfl) (by kernel_rfl) (fun _ _ _ h => h) (Or.inl ⟨by rfl, by intro w hSw; (try dsimp only at hSw); go_simp⟩) hHeld ?_
                        try simp only [Act.put, List.setIfInBounds_toArray, List.set_cons_zero, List.set_cons_succ]
                        refine wpAnyH_take (i := 2) (v := .slice (some ⟨b, off, none⟩) ss.length caps) rfl (by kernel_rfl) (by kernel_rfl) (by kernel_rfl) (fun _ _ _ h => h) (Or.inl ⟨by rfl, by intro w hSw; (try dsimp only at hSw); go_simp⟩) hHeld ?_
                        try simp only [Act.put, List.setIfInBounds_toArray, List.set_cons_zero, List.set_cons_succ]
                        refine wpAnyH_take (i := 3) (v := .int .i64 j5) rfl (by kernel_rfl) (by kernel_rfl) (by kernel_rfl) (fun _ _ _ h => h) (Or.inl ⟨by rfl, by intro w hSw; (try dsimp only at hSw); go_simp⟩) hHeld ?_
                        try simp only [Act.put, List.setIfInBounds_toArray, List.set_cons_zero, List.set_cons_succ]
                        refine wpAnyH_take (i := 4) (v := .pointer (some ⟨b, off + j5, none⟩)) rfl (by kernel_rfl) (by kernel_rfl) (by kernel_rfl) (fun _ _ _ h => h) (Or.inl ⟨by rfl, by intro w hSw; (try dsimp only at hSw); go_simp⟩) hHeld ?_
                        try simp only [Act.put, List.setIfInBounds_toArray, List.set_cons_zero, List.set_cons_succ]
                        refine wpAnyH_take (i := 5) (v := .string x) rfl (by kernel_rfl) (by kernel_rfl) (by kernel_rfl) (fun _ _ _ h => h) (Or.inl ⟨by rfl, by intro w hSw; (try dsimp only at hSw); go_simp⟩) hHeld ?_
                        try simp only [Act.put, List.setIfInBounds_toArray, List.set_cons_zero, List.set_cons_succ]
                        refine wpAnyH_ready (rs := [1]) (by kernel_rfl) (by simp) ?_
                        refine AllReadyH.cons rfl (fun K hK => ?_) AllReadyH.nil
                        go_simp
                        refine (Text_any p s _ ?_ (by have := HM5.out; unfold maxLen; omega)).mono ?_
                        · exact HR5.out
                        rintro e w7 ⟨rfl, hR7, hG7⟩
                        rw [HV.out]
                        refine hK.out _ _ ?_ (fun hHeld => ?_)
                        · exact hG7.cell hc (by simpa using HBP.out)
                        clear hK K
                        try simp only [Act.put, List.setIfInBounds_toArray, List.set_cons_zero, List.set_cons_succ]
                        refine wpAnyH_take (i := 6) (v := .bool false) rfl (by kernel_rfl) (by kernel_rfl) (by kernel_rfl) (fun _ _ _ h => h) (Or.inl ⟨by rfl, by intro w hSw; (try dsimp only at hSw); go_simp⟩) hHeld ?_
                        try simp only [Act.put, List.setIfInBounds_toArray, List.set_cons_zero, List.set_cons_succ]
                        refine wpAnyH_take (i := 7) (v := .bool false) rfl (by kernel_rfl) (by kernel_rfl) (by kernel_rfl) (fun _ _ _ h => h) (Or.inl ⟨by rfl, by intro w hSw; (try dsimp only at hSw); go_simp⟩) hHeld ?_
                        try simp only [Act.put, List.setIfInBounds_toArray, List.set_cons_zero, List.set_cons_succ]
                        refine wpAnyH_take (i := 8) (v := undef) rfl (by kernel_rfl) (by kernel_rfl) (by kernel_rfl) (fun _ _ _ h => h) (Or.inr ⟨by rfl, rfl⟩) hHeld ?_
                        try simp only [Act.put, List.setIfInBounds_toArray, List.set_cons_zero, List.set_cons_succ]
                        refine wpAnyH_take (i := 9) (v := .bool false) rfl (by kernel_rfl) (by kernel_rfl) (by kernel_rfl) (fun _ _ _ h => h) (Or.inl ⟨by rfl, by intro w hSw; (try dsimp only at hSw); go_simp⟩) hHeld ?_
                        try simp only [Act.put, List.setIfInBounds_toArray, List.set_cons_zero, List.set_cons_succ]
                        refine wpAnyH_take (i := 10) (v := .bool false) rfl (by kernel_rfl) (by kernel_rfl) (by kernel_rfl) (fun _ _ _ h => h) (Or.inl ⟨by rfl, by intro w hSw; (try dsimp only at hSw); go_simp⟩) hHeld ?_
                        try simp only [Act.put, List.setIfInBounds_toArray, List.set_cons_zero, List.set_cons_succ]
                        refine wpAnyH_done (by kernel_rfl) ?_ _
                        refine NoPanic.normal ?_
                        have HB7 := hid (below_at HB5.out.drew hG7 HP.out)
                        have HR7 := hid hR7
                        clear hR7 hG7 hc
                        go_wp2_with fail
                        go_roundw
                        case rel => exact ⟨j5 + 1, _, false, by omega, by go_num, rfl, HR7.out, HM7.out, HA7.out, HB7.out⟩
                        case measure => simp [intOf]; omega
                    · have hlt5' : ¬ (j5 : Int) < ss.length := by omega
                      have hlt5'' : (ss.length : Int) ≤ j5 := by omega
                      have HD := hid (show At 2 [] s o by have h := HA5.out; rw [List.drop_of_length_le (by omega)] at h; exact h)
                      have hD := HD.out.done
                      clear HA5 HD
                      have HED := hid (hD.2.2 rfl)
                      clear hD
                      go_wp2_with fail
                      refine (End_any p s _ HR5.out (by have := HM5.out; unfold maxLen; omega)).mono ?_
                      rintro _ w8 ⟨rfl, rfl⟩
                      rw [HED.out]
                      go_wp2_with fail
                      go_roundw
                      case rel => exact ⟨3, by omega, by go_num, HB5.out⟩
                      case measure => simp [intOf]
            · go_wp2_with fail
              go_ret
              exact ⟨rfl, below_seq HBW.out HBK.out⟩
end Go.Proofs.Ytbbmeeijebkpbaa

/- The law ShaHex: a sum's digits are its bytes', two each, the higher first. -/
import Derived.Test.YtmfmbcghknknjaaDoorKnown2
namespace Go.Proofs.YtmfmbcghknknjaaDoor
open Go.RowKit
set_option linter.unusedSimpArgs false
set_option linter.unusedVariables false

theorem hexL_drop (l : List UInt8) (k : Nat) : (hexL l).drop (2 * k) = hexL (l.drop k) := by
  rcases Nat.lt_or_ge k l.length with h | h
  · have e : hexL l = hexL (l.take k) ++ hexL (l.drop k) := by rw [hexL, hexL, hexL, ← List.flatMap_append, List.take_append_drop]
    rw [e]
    exact List.drop_left' (by rw [hexL_len, List.length_take]; omega)
  · rw [List.drop_of_length_le h, List.drop_of_length_le (by rw [hexL_len]; omega)]
    rfl

theorem hexL_at (l : List UInt8) (k : Nat) (h : k < l.length) : (hexL l)[2 * k]? = some (dig ((l.getD k 0).toNat / 16)) ∧ (hexL l)[2 * k + 1]? = some (dig ((l.getD k 0).toNat % 16)) := by
  have e : l.drop k = l.getD k 0 :: l.drop (k + 1) := by
    rw [List.drop_eq_getElem_cons h, List.getD_eq_getElem?_getD, List.getElem?_eq_getElem h]; rfl
  have e2 : (hexL l).drop (2 * k) = dig ((l.getD k 0).toNat / 16) :: dig ((l.getD k 0).toNat % 16) :: hexL (l.drop (k + 1)) := by
    rw [hexL_drop, e]
    simp [hexL, hex2]
  have h0 := congrArg (·[0]?) e2
  have h1 := congrArg (·[1]?) e2
  simp only [List.getElem?_drop, List.getElem?_cons_zero, List.getElem?_cons_succ, Nat.add_zero] at h0 h1
  exact ⟨h0, h1⟩

theorem dig_cases (d : Nat) (h : d < 16) : (48 ≤ (dig d).toNat ∧ (dig d).toNat ≤ 57 ∧ (dig d).toNat = 48 + d) ∨ (97 ≤ (dig d).toNat ∧ (dig d).toNat ≤ 102 ∧ (dig d).toNat = 87 + d) := by
  unfold dig
  split
  · left; rw [UInt8.toNat_ofNat']; omega
  · right; rw [UInt8.toNat_ofNat']; omega

theorem int_eq {k : IntKind} {a b : Int} (h : a = b) : Value.int k a = Value.int k b := by rw [h]

theorem bytes_at (L : List UInt8) (j : Nat) (c : UInt8) (h : L[j]? = some c) (hs : j < (ByteArray.mk L.toArray).size) : (ByteArray.mk L.toArray)[j] = c := by
  have := (List.getElem?_eq_some_iff.1 h).2
  exact this

set_option maxRecDepth 100000 in
set_option maxHeartbeats 4000000 in
theorem hexlaw_any (l : List UInt8) (hl : l.length = 32) (w : World) (ht : Tabs w) :
    Calls Tryd.prog 6 #[.agg (B l).toArray] w fun e w' => e = .returned (.bool true) ∧ Below w.heap.size w w' := by
  obtain ⟨bs, hbs⟩ : ∃ bs, B l = bs := ⟨_, rfl⟩
  rw [hbs]
  obtain ⟨L, hL⟩ : ∃ L, w.heap.size = L := ⟨_, rfl⟩
  have h2 := ht.two
  have hbl : bs.length = 32 := by rw [← hbs, B_length, hl]
  have hi32 := hid (show (Tryd.prog.info? 24).map (·.size) = some bs.length by rw [hbl]; kernel_rfl)
  have HBS := hid hbs
  have HLl := hid hl
  have HT := hid ht
  clear hbs hl hbl ht
  go_enter Tryd.func6, Tryd.ntmps6
  go_wp2_with (show wpList _ _ _ (⟨some 1, Op.box _ _, _, _, _, _⟩ :: _) _ _; go_must (refine wpList_box_blk rfl 24 _ rfl bs rfl L hL ?_); intro w1 hB1 hb1 hs1; replace hB1 := hid hB1; replace hb1 := hid hb1)
  refine (known_any _ (HT.out.below hb1.out (by omega))).mono ?_
  rintro e w2 ⟨rfl, hb2⟩
  have HB2 := hid (hB1.out.later hb2)
  have Hb2 := hid (show Below L w w2 from hb1.out.trans (hb2.mono (by omega)))
  have hr2 := hid (show w2.rangeAt L 0 bs from HB2.out.range fun j v hv => by rw [Nat.zero_add]; exact hv)
  clear hB1 hb1 hb2 hs1
  go_wp2_with (show wpList _ _ _ (⟨some 10, Op.load _ _, _, _, _, _⟩ :: _) _ _; go_must (refine wpList_load_mid rfl 24 _ rfl L 0 rfl bs _ hr2.out Tryd.underlying24 rfl hi32.out ?_))
  rw [← HBS.out]
  refine (Hex_any l HLl.out _).mono ?_
  rintro e w3 ⟨rfl, hb3⟩
  rw [HBS.out]
  have HB3 := hid (HB2.out.later hb3)
  have Hb3 := hid (show Below L w w3 from Hb2.out.trans (hb3.mono (by have := Hb2.out.size; omega)))
  have HS := hid (show ∀ k, k < 32 → ∃ c d : UInt8, (∀ h, (hexS l)[2 * k]'h = c) ∧ (∀ h, (hexS l)[2 * k + 1]'h = d) ∧ c = dig ((l.getD k 0).toNat / 16) ∧ d = dig ((l.getD k 0).toNat % 16) by
    intro k hk
    have := hexL_at l k (by rw [HLl.out]; exact hk)
    exact ⟨_, _, fun h => bytes_at _ _ _ this.1 h, fun h => bytes_at _ _ _ this.2 h, rfl, rfl⟩)
  have hsz : (hexS l).size = 64 := by show (hexL l).length = 64; rw [hexL_len, HLl.out]
  clear HB2 Hb2 hr2 hb3 hi32
  generalize hexS l = S at *
  go_wp2_with fail
  go_loopw [4, 5, 6] (fun i n k wr => ∃ j : Nat, j ≤ 32 ∧ i = .int .i64 j ∧ wr = w3) (fun i _ _ _ => 32 - (intOf i).toNat)
  case atStart => exact ⟨0, Nat.zero_le _, rfl, rfl⟩
  case round =>
    obtain ⟨j, hj, rfl, rfl⟩ := hrel
    by_cases hlt : j < 32
    · have hlt' : (j : Int) < 32 := by omega
      obtain ⟨c, d, hc, hd, hcv, hdv⟩ := HS.out j hlt
      obtain ⟨b, hb⟩ : ∃ b, l.getD j 0 = b := ⟨_, rfl⟩
      rw [hb] at hcv hdv
      have hcell := HB3.out.cell (j := j) (u := .int .u8 b.toNat) (by rw [← HBS.out, ← hb]; exact B_getD l j (by rw [HLl.out]; exact hlt))
      have hb255 : (b.toNat : Int) ≤ 255 := by have := b.toNat_lt; omega
      have hbn := b.toNat_lt
      have Dc := hid (dig_cases (b.toNat / 16) (by omega))
      have Dd := hid (dig_cases (b.toNat % 16) (by omega))
      rw [← hcv] at Dc
      rw [← hdv] at Dd
      clear hcv hdv hb
      go_wp2_with fail
      go_loopw [5, 6] (fun n k wz => wz = wr ∧ ((k = .int .i64 0 ∧ n = .int .i64 0) ∨ (k = .int .i64 1 ∧ n = .int .i64 ((b.toNat / 16 : Nat) : Int)) ∨ (k = .int .i64 2 ∧ n = .int .i64 b.toNat))) (fun _ k _ => 2 - (intOf k).toNat)
      case atStart => exact ⟨rfl, .inl ⟨rfl, rfl⟩⟩
      case round =>
        obtain ⟨rfl, ⟨rfl, rfl⟩ | ⟨rfl, rfl⟩ | ⟨rfl, rfl⟩⟩ := hrel
        · rcases Dc.out with ⟨q1, q2, q3⟩ | ⟨q1, q2, q3⟩
          · have q1' : (48 : Int) ≤ (c.toNat : Int) := by omega
            have q2' : (c.toNat : Int) ≤ 57 := by omega
            have HV := hid q3
            clear q1 q2 q3
            go_wp2_with fail
            exact ⟨⟨by trivial, .inr (.inl ⟨rfl, int_eq (by have := HV.out; omega)⟩)⟩, by simp [intOf]⟩
          · have q1' : (97 : Int) ≤ (c.toNat : Int) := by omega
            have q2' : (c.toNat : Int) ≤ 102 := by omega
            have HV := hid q3
            clear q1 q2 q3
            go_wp2_with fail
            exact ⟨⟨by trivial, .inr (.inl ⟨rfl, int_eq (by have := HV.out; omega)⟩)⟩, by simp [intOf]⟩
        · rcases Dd.out with ⟨q1, q2, q3⟩ | ⟨q1, q2, q3⟩
          · have q1' : (48 : Int) ≤ (d.toNat : Int) := by omega
            have q2' : (d.toNat : Int) ≤ 57 := by omega
            have HV := hid q3
            clear q1 q2 q3
            go_wp2_with fail
            exact ⟨⟨by trivial, .inr (.inr ⟨rfl, int_eq (by have := HV.out; omega)⟩)⟩, by simp [intOf]⟩
          · have q1' : (97 : Int) ≤ (d.toNat : Int) := by omega
            have q2' : (d.toNat : Int) ≤ 102 := by omega
            have HV := hid q3
            clear q1 q2 q3
            go_wp2_with fail
            exact ⟨⟨by trivial, .inr (.inr ⟨rfl, int_eq (by have := HV.out; omega)⟩)⟩, by simp [intOf]⟩
        · go_wp2_with fail
          exact ⟨⟨j + 1, by omega, by go_num, by trivial⟩, by simp [intOf]; omega⟩
    · have hj32 : j = 32 := by omega
      subst hj32
      go_wp2_with fail
      go_ret
      exact ⟨rfl, by rw [hL]; exact Hb3.out⟩
end Go.Proofs.YtmfmbcghknknjaaDoor

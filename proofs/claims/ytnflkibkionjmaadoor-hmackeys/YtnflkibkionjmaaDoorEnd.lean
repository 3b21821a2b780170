/- The contract of end: the filling, and the state as bytes. -/
import Derived.Test.YtnflkibkionjmaaDoorAdd
namespace Go.Proofs.YtnflkibkionjmaaDoor
open Go.RowKit
set_option linter.unusedSimpArgs false
set_option linter.unusedVariables false
attribute [local go_sem] wadd wadd' wxor wand wnot

theorem zeroHash : (Tryd.prog.info? 26).bind (fun i => i.zero.map fun z => z.cells.toList) = some (B (List.replicate 32 0)) := by kernel_rfl
theorem zeroB64 : (Tryd.prog.info? 35).bind (fun i => i.zero.map fun z => z.cells.toList) = some (B (List.replicate 64 0)) := by kernel_rfl

theorem add_len (g : Nat) (h2 : 2 ≤ g) (sz : Int) (m b : List UInt8) (ao : Option Addr) (len cap : Nat) (hl : b.length = len) (w : World) (hW : Wk w 48 g sz m) (ht : Tabs w)
    (hr : Reads w (.slice ao len cap) (B b)) (hoff : B b ≠ [] → Off ao g) (hb : cap ≤ maxLen) :
    Calls Tryd.prog 18 #[.pointer (some ⟨g, 0, none⟩), .slice ao len cap] w fun e w' => e = .returned (.tuple #[]) ∧ Wk w' 48 g (IntKind.u64.wrap (sz + len)) (m ++ b) ∧ w.grownBy w' (some g) := by
  subst hl
  exact add_any g h2 sz m b ao cap w hW ht hr hoff hb

theorem be_int (Bd : Nat) (v : Value) (n : Nat) (xs : List Value) (u : Int) (U : Nat) (hU : u = (U : Int)) (k : Int) (K : Nat) (hK : k = (K : Int)) (hu : U < 18446744073709551616) (hk : K ≤ 8) (hb : n + K ≤ 1000) (w : World) (hown : Has w 5 Bd v n xs) (hBd : Bd ≤ w.heap.size) :
    Calls Tryd.prog 21 #[v, .int .u64 u, .int .i64 k] w fun e w' => ∃ v', e = .returned v' ∧ Has w' 5 Bd v' (n + K) (xs ++ B (be K U)) ∧ Below Bd w w' := by
  subst hU
  subst hK
  exact be_any Bd v n xs U K hu hk hb w hown hBd

theorem Has.off {w : World} {e : TypeId} {Bd g n : Nat} {v : Value} {xs : List Value} (h : Has w e Bd v n xs) (hg : g < Bd) : ∃ ao cap, v = .slice ao n cap ∧ Off ao g ∧ cap ≤ maxLen := by
  rcases h with ⟨rfl, rfl, rfl⟩ | ⟨b, cap, rfl, h1, h2⟩
  · exact ⟨none, 0, rfl, (fun _ h => by cases h), Nat.zero_le _⟩
  · exact ⟨some ⟨b, 0, none⟩, cap, rfl, (fun ad h => by cases h; show b ≠ g; omega), h2.2.2.1⟩

theorem grown_below {w w' : World} {row : Option Nat} (h : w.grownBy w' row) (Bd : Nat) (hb : ∀ k, row = some k → Bd ≤ k) (hs : Bd ≤ w.heap.size) : Below Bd w w' :=
  ⟨h.os, h.tape, h.output, h.size, fun k hk => h.block k (by omega) (by intro e; have := hb k e.symm; omega)⟩

theorem Blk.reads {w : World} {t : TypeId} {g : Nat} {l : List UInt8} (h : Blk w t g (B l)) (n cap : Nat) (hn : n ≤ l.length) (hc : n ≤ cap) : Reads w (.slice (some ⟨g, 0, none⟩) n cap) (B (l.take n)) := by
  have hl : (l.take n).length = n := by rw [List.length_take]; omega
  refine ⟨some ⟨g, 0, none⟩, cap, by rw [B_length, hl], by rw [B_length, hl]; exact hc, (fun h => by cases h), fun ad he j u hj => ?_⟩
  cases he
  rw [Addr.add_lit, Nat.zero_add]
  refine h.cell ?_
  rw [B_get] at hj ⊢
  rw [List.getElem?_take] at hj
  split at hj
  · exact hj
  · simp at hj

/-- The bytes of some words, the highest first. -/
def bytesOf (l : List UInt32) : List UInt8 := l.flatMap fun x => be 4 x.toNat
theorem bytesOf_len (l : List UInt32) : (bytesOf l).length = 4 * l.length := by
  induction l with
  | nil => rfl
  | cons x l ih =>
    have : bytesOf (x :: l) = be 4 x.toNat ++ bytesOf l := by simp [bytesOf]
    rw [this, List.length_append, be_len, ih, List.length_cons]
    omega
theorem bytesOf_step (l : List UInt32) (k : Nat) (h : k < l.length) : bytesOf (l.take (k + 1)) = bytesOf (l.take k) ++ be 4 (l.getD k 0).toNat := by
  have e : l.getD k 0 = l[k] := by rw [List.getD_eq_getElem?_getD, List.getElem?_eq_getElem h]; rfl
  rw [List.take_succ_eq_append_getElem h, e, bytesOf, bytesOf, List.flatMap_append, List.flatMap_singleton]

set_option maxRecDepth 100000 in
set_option maxHeartbeats 4000000 in
theorem end_any (g : Nat) (h2 : 2 ≤ g) (m : List UInt8) (hm : m.length ≤ 1000000000) (w : World) (hW : Wk w 48 g (m.length : Int) m) (ht : Tabs w) :
    Calls Tryd.prog 19 #[.pointer (some ⟨g, 0, none⟩)] w fun e w' => e = .returned (.agg (B (shaS m)).toArray) ∧ w.grownBy w' (some g) := by
  have hlt := hW.lt
  obtain ⟨L, hL⟩ : ∃ L, w.heap.size = L := ⟨_, rfl⟩
  have HW := hid hW
  have HT := hid ht
  clear hW ht
  go_enter Tryd.func19, Tryd.ntmps19
  go_wp2_with (show wpList _ _ _ (⟨some 2, Op.alloc _, _, _, _, _⟩ :: _) _ _; go_must (refine wpList_alloc_blk rfl 26 rfl _ zeroHash L hL ?_); intro w1 hB1 hb1 hs1; have cz := (HW.out.later (by rw [hL]; exact hb1)).size)
  have HW1 := hid (HW.out.later (by rw [hL]; exact hb1))
  have HB1 := hid hB1
  have HT1 := hid (HT.out.below hb1 (by omega))
  have HG1 := hid (show w.grownBy w1 (some g) from grown_of_below (by rw [hL]; exact hb1))
  clear hb1 hB1 HW HT cz
  refine (be_int (L + 1) _ 0 [] _ (8 * m.length) (by omega) _ 8 (by rfl) (by omega) (by omega) (by omega) _ (Has.nil _ _ _) (by omega)).mono ?_
  rintro e w2 ⟨v2, rfl, hH2, hb2⟩
  have hs2 := hb2.size
  have HW2 := hid (HW1.out.kept (hb2.block g (by omega)))
  have HB2 := hid (HB1.out.kept (hb2.block L (by omega)))
  have HT2 := hid (HT1.out.below hb2 (by omega))
  have HG2 := hid (grown_trans HG1.out (grown_of_below (row := some g) (by rw [hs1]; exact hb2)))
  have HH2 := hid hH2
  clear hH2 hb2 HW1 HB1 HT1 HG1
  go_wp2_with fail
  have hR3 : Reads (w2.alloc (Obj.cells #[Value.int IntKind.u8 128] 5)) (.slice (some ⟨w2.heap.size, 0, none⟩) 1 1) (B [128]) := Blk.reads (l := [128]) (Blk.new w2 5 (B [128])) 1 1 (Nat.le_refl _) (Nat.le_refl _)
  have hb3 : Below w2.heap.size w2 (w2.alloc (Obj.cells #[Value.int IntKind.u8 128] 5)) := (Below.refl _ _).alloc (Nat.le_refl _) _
  refine (add_len g h2 _ m [128] _ 1 1 rfl _ (HW2.out.later hb3) (HT2.out.below hb3 (by omega)) hR3 (fun _ ad h => by cases h; show w2.heap.size ≠ g; omega) (by unfold maxLen; omega)).mono ?_
  rintro e w3 ⟨rfl, hW3, hg3⟩
  have hg3' := grown_trans (grown_of_below (row := some g) hb3) hg3
  have hs3 := hg3'.size
  have HW3 := hid hW3
  have HB3 := hid (HB2.out.kept (hg3'.block L (by omega) (by intro e; injection e; omega)))
  have HT3 := hid (HT2.out.grown hg3' h2)
  have HG3 := hid (grown_trans HG2.out hg3')
  have HH3 := hid (show Has w3 5 (L + 1) v2 8 (B (be 8 (8 * m.length))) by
    have h := HH2.out
    rw [List.nil_append, Nat.zero_add] at h
    rcases h with h | ⟨b, cap, rfl, h1, h2⟩
    · exact .inl h
    · exact .inr ⟨b, cap, rfl, h1, h2.kept (hg3'.block b h2.lt (by intro e; injection e; omega))⟩)
  have ch := hW3.held
  obtain ⟨sz3, hsz3⟩ : ∃ z, IntKind.u64.wrap ((m.length : Int) + ((1 : Nat) : Int)) = z := ⟨_, rfl⟩
  rw [hsz3] at HW3
  obtain ⟨hd, hhd⟩ : ∃ hd, (m ++ [128]).length % 64 = hd := ⟨_, rfl⟩
  rw [hhd] at ch
  have hd64 : hd < 64 := by omega
  have HHD := hid hhd
  clear hR3 hb3 hW3 hg3 hg3' hhd hsz3 HW2 HB2 HT2 HG2 HH2
  obtain ⟨L3, hL3⟩ : ∃ L3, w3.heap.size = L3 := ⟨_, rfl⟩
  have hLL3 : L + 1 ≤ L3 := by omega
  have hgL : g < L := by omega
  clear hs3 hs2 hs1
  obtain ⟨k, hk⟩ : ∃ k, (120 - hd) % 64 = k := ⟨_, rfl⟩
  have hkk : (120 - (hd : Int)) % 64 = (k : Int) := by omega
  have hk0 : (0 : Int) ≤ (k : Int) := by omega
  have hk1 : (k : Int) ≤ 64 := by omega
  have HK := hid hk
  clear hk
  go_wp2_with (show wpList _ _ _ (⟨some 4, Op.alloc _, _, _, _, _⟩ :: _) _ _; go_must (refine wpList_alloc_blk rfl 35 rfl _ zeroB64 L3 hL3 ?_); intro w4 hB4 hb4 hs4; have ch4 : w4.cell? ⟨g, 9, none⟩ = some (.int .i64 (hd : Nat)) := cell_later (by rw [hL3]; exact hb4) ch)
  have HB4 := hid hB4
  have hb4' : Below w3.heap.size w3 w4 := by rw [hL3]; exact hb4
  have HW4 := hid (HW3.out.later hb4')
  have HT4 := hid (HT3.out.below hb4 (by omega))
  have HG4 := hid (grown_trans HG3.out (grown_of_below (row := some g) hb4'))
  have HH4 := hid (HH3.out.later hb4')
  have HBh4 := hid (HB3.out.later hb4')
  clear hB4 hb4 hb4' HW3 HT3 HG3 HH3 HB3 ch ch4
  have hR5 := HB4.out.reads k 64 (by rw [List.length_replicate]; omega) (by omega)
  rw [List.take_replicate, show min k 64 = k by omega] at hR5
  refine (add_len g h2 _ (m ++ [128]) (List.replicate k 0) _ k 64 List.length_replicate _ HW4.out HT4.out hR5 (fun _ ad h => by cases h; show L3 ≠ g; omega) (by unfold maxLen; omega)).mono ?_
  rintro e w5 ⟨rfl, hW5, hg5⟩
  have HW5 := hid hW5
  have HT5 := hid (HT4.out.grown hg5 h2)
  have HG5 := hid (grown_trans HG4.out hg5)
  have HH5 := hid (show Has w5 5 (L + 1) v2 8 (B (be 8 (8 * m.length))) by
    rcases HH4.out with h | ⟨b, cap, rfl, h1, h2⟩
    · exact .inl h
    · exact .inr ⟨b, cap, rfl, h1, h2.kept (hg5.block b h2.lt (by intro e; injection e; omega))⟩)
  have HBh5 := hid (HBh4.out.kept (hg5.block L (by omega) (by intro e; injection e; omega)))
  have hs5 := hg5.size
  clear hW5 hg5 HW4 HT4 HG4 HH4 HBh4 HB4 hR5
  obtain ⟨ao6, cap6, hv6, hoff6, hcap6⟩ := HH5.out.off (g := g) (by omega)
  subst hv6
  have HO6 := hid hoff6
  have HC6 := hid hcap6
  clear hoff6 hcap6
  go_wp2_with fail
  refine (add_len g h2 _ _ (be 8 (8 * m.length)) ao6 8 cap6 (be_len _ _) _ HW5.out HT5.out HH5.out.reads (fun _ => HO6.out) HC6.out).mono ?_
  rintro e w6 ⟨rfl, hW6, hg6⟩
  have hfill : m ++ [128] ++ List.replicate k 0 ++ be 8 (8 * m.length) = fill m := by
    have h1 := HK.out
    have h2 := HHD.out
    rw [List.length_append, List.length_singleton] at h2
    rw [fill, h2, h1, show m.length * 8 % 18446744073709551616 = 8 * m.length by omega]
  rw [hfill] at hW6
  obtain ⟨l, hl⟩ : ∃ l, (runS (fill m) ((fill m).length / 64)).l = l := ⟨_, rfl⟩
  have hll : l.length = 8 := by rw [← hl]; exact S8.len _
  have hsha : shaS m = bytesOf l := by rw [shaS, hl]; rfl
  have HR6 := hid (show w6.rangeAt g 0 (U l) by
    obtain ⟨b, la, h1, h2, h3, h4⟩ := hW6
    rw [hl] at h4
    exact h4.range fun j v hv => by
      rw [Nat.zero_add]
      have hj := (List.getElem?_eq_some_iff.1 hv).1
      unfold wk
      rw [List.getElem?_append_left hj]
      exact hv)
  have hs6 := hg6.size
  have HB6 := hid (HBh5.out.kept (hg6.block L (by omega) (by intro e; injection e; omega)))
  have HG6 := hid (grown_trans HG5.out hg6)
  have HSH := hid hsha
  have HLL := hid hll
  clear hW6 hg6 hfill hl hsha hll HW5 HT5 HG5 HH5 HBh5 HO6 HC6 HK HHD hkk hk0 hk1 hd64
  have h6L : L + 1 ≤ w6.heap.size := by omega
  clear hs4 hs5 hs6 hL3
  have hi8 := hid (show (Tryd.prog.info? 43).map (·.size) = some (U l).length by rw [U_length, HLL.out]; kernel_rfl)
  go_wp2_with (show wpList _ _ _ (⟨some 33, Op.load _ _, _, _, _, _⟩ :: _) _ _; go_must (refine wpList_load_mid rfl 43 _ rfl g 0 rfl (U l) _ HR6.out Tryd.underlying43 rfl hi8.out ?_))
  go_loopw [5, 34] (fun out i wr => ∃ j : Nat, j ≤ 8 ∧ i = .int .i64 j ∧ Has wr 5 w6.heap.size out (4 * j) (B (bytesOf (l.take j))) ∧ Below w6.heap.size w6 wr) (fun _ i _ => 8 - (intOf i).toNat)
  case atStart => exact ⟨0, Nat.zero_le _, rfl, Has.nil _ _ _, Below.refl _ _⟩
  case round =>
    obtain ⟨j, hj, rfl, hH, hb⟩ := hrel
    have HH := hid hH
    have Hb := hid hb
    have hsz := hb.size
    clear hH hb
    by_cases hlt : j < 8
    · have hlt' : (j : Int) < 8 := by omega
      obtain ⟨x, hx⟩ : ∃ x, l.getD j 0 = x := ⟨_, rfl⟩
      have hix := hid (show (U l).toArray[j]? = some (.int .u32 (nt x)) by rw [List.getElem?_toArray, ← hx]; exact U_getD l j (by rw [HLL.out]; exact hlt))
      have HST := hid (show bytesOf (l.take (j + 1)) = bytesOf (l.take j) ++ be 4 x.toNat by rw [← hx]; exact bytesOf_step l j (by rw [HLL.out]; exact hlt))
      have lox := nt_lo x
      have hix2 := nt_hi x
      clear hx
      go_wp2_with (show wpList _ _ _ (⟨_, Op.index _ _ _, _, _, _, _⟩ :: _) _ _; go_must (refine wpList_index_agg rfl 43 _ _ rfl 40 8 .u32 Tryd.underlying43 Tryd.underlying40 Tryd.sizeWord _ .i64 j rfl rfl hlt (.int .u32 (nt x)) hix.out ?_))
      refine (be_int w6.heap.size _ (4 * j) _ _ x.toNat (by rfl) _ 4 (by rfl) (by have := tn x; omega) (by omega) (by omega) _ HH.out (by omega)).mono ?_
      rintro e w7 ⟨v7, rfl, hH7, hb7⟩
      go_wp2_with fail
      go_roundw
      case rel => exact ⟨j + 1, by omega, by go_num, by rw [HST.out, B_append]; exact hH7, Hb.out.trans hb7⟩
      case measure => simp [intOf]; omega
    · have hj8 : j = 8 := by omega
      subst hj8
      obtain ⟨sh, hsh⟩ : ∃ sh, shaS m = sh := ⟨_, rfl⟩
      have hshl : sh.length = 32 := by rw [← hsh]; exact shaS_len m
      have HH8 := hid (show Has wr 5 w6.heap.size u5 32 (B sh) by
        have h := HH.out
        rw [List.take_of_length_le (by rw [HLL.out]; omega), ← HSH.out, hsh] at h
        exact h)
      have hBL : Blk wr 26 L (B (List.replicate 32 0)) := HB6.out.later Hb.out
      have hgr : w.grownBy wr (some g) := grown_trans HG6.out (grown_of_below (row := some g) Hb.out)
      obtain ⟨L8, hL8⟩ : ∃ L8, wr.heap.size = L8 := ⟨_, rfl⟩
      have hLL8 : L < L8 := by omega
      have Hsh := hid hsh
      obtain ⟨bs, hbs⟩ : ∃ bs, B sh = bs := ⟨_, rfl⟩
      have hbl : bs.length = 32 := by rw [← hbs, B_length]; exact hshl
      have ho := hid (show ∀ v ∈ bs, v.oneCell' = true by rw [← hbs]; exact B_one sh)
      have hlen := hid (show 32 = Nat.min bs.length 32 by rw [hbl]; rfl)
      have hi := hid (show (Tryd.prog.info? 26).map (·.size) = some bs.length by rw [hbl]; kernel_rfl)
      have HE := hid (show B (shaS m) = bs by rw [Hsh.out]; exact hbs)
      have HP := hid (show ∀ w8 : World, Blk w8 26 L8 (B (List.replicate 32 0)) → Below L8 wr w8 → Reads w8 u5 bs ∧ w8.there L8 0 32 ∧ Blk (w8.setCells L8 0 (bs.take 32)) 26 L8 bs ∧ Blk w8 26 L (B (List.replicate 32 0)) ∧ w.grownBy w8 (some g) by
        intro w8 hB8 hb8
        have hb8' : Below wr.heap.size wr w8 := by rw [hL8]; exact hb8
        refine ⟨by rw [← hbs]; exact (HH8.out.later hb8').reads, hB8.there (by rw [B_length, List.length_replicate]; omega), ?_, hBL.later hb8', grown_trans hgr (grown_of_below (row := some g) hb8')⟩
        have := Blk.setCells (t := 26) (g := L8) (bs.take 32) [] (B (List.replicate 32 0)) [] (w := w8) (o := 0) (by rw [List.nil_append, List.append_nil]; exact hB8) (by rw [B_length, List.length_replicate, List.length_take, hbl]; omega) rfl
        rw [List.nil_append, List.append_nil, List.take_of_length_le (by omega)] at this
        rw [List.take_of_length_le (by omega)]
        exact this)
      have HBL32 := hid hbl
      clear hshl hBL hgr hsh HH HSH HB6 HG6 Hb HR6 HLL hi8 h6L hsz hbs hbl HH8 Hsh
      go_wp2_with (first
        | (show wpList _ _ _ (⟨some 8, Op.alloc _, _, _, _, _⟩ :: _) _ _; go_must (refine wpList_alloc_blk rfl 26 rfl _ zeroHash L8 hL8 ?_); intro w8 hB8 hb8 hs8; have HQ := hid (HP.out w8 hB8 hb8); clear hB8 hb8)
        | (show wpList _ _ _ (⟨some 44, _, _, _, _, _⟩ :: _) _ _; go_must (refine wpList_copy_list rfl _ _ 22 22 rfl 5 Tryd.underlying22 Tryd.size1 L8 0 32 32 rfl u5 rfl bs HQ.out.1 32 hlen.out HQ.out.2.1 ho.out ?_); intro w9 hw9; replace hw9 := hid hw9; have hr9 := hid (show w9.rangeAt L8 0 bs by rw [hw9.out]; exact HQ.out.2.2.1.range fun j v hv => by rw [Nat.zero_add]; exact hv); have ht9 := hid (show w9.there L 0 bs.length by rw [hw9.out]; exact Blk.there (HQ.out.2.2.2.1.kept (setCells_heap (by omega) _ _ _)) (by rw [B_length, List.length_replicate, HBL32.out]; omega)))
        | (show wpList _ _ _ (⟨some 45, Op.load _ _, _, _, _, _⟩ :: _) _ _; go_must (refine wpList_load_mid rfl 26 _ rfl L8 0 rfl bs _ hr9.out Tryd.underlying26 rfl hi.out ?_))
        | (show wpList _ _ _ (⟨none, Op.store _ _ _, _, _, _, _⟩ :: _) _ _; go_must (refine wpList_store_list rfl 26 _ _ rfl L 0 bs rfl rfl ht9.out hi.out ho.out ?_); intro w10 hw10; replace hw10 := hid hw10))
      have hG9 := hid (show w.grownBy w9 (some g) by
        rw [hw9.out]
        have hb := below_setCells (B := w.heap.size) (g := L8) (by omega) (bs.take 32) 0 (Below.refl w.heap.size w8)
        have hG8 := HQ.out.2.2.2.2
        exact ⟨hb.os.trans hG8.os, hb.tape.trans hG8.tape, hb.output.trans hG8.output, Nat.le_trans hG8.size hb.size, fun k hk hne => by rw [hb.block k hk, hG8.block k hk hne]⟩)
      refine ret_cell 2 26 rfl L rfl bs _ ?_ Tryd.underlying26 rfl hi.out rfl ⟨by rw [HE.out], ?_⟩
      · rw [hw10.out]
        exact World.rangeAt_setCells_same w9 L 0 bs ht9.out
      · rw [hw10.out]
        have hb := below_setCells (B := w.heap.size) (g := L) (by omega) bs 0 (Below.refl w.heap.size w9)
        exact ⟨hb.os.trans hG9.out.os, hb.tape.trans hG9.out.tape, hb.output.trans hG9.out.output, Nat.le_trans hG9.out.size hb.size, fun k hk hne => by rw [hb.block k hk, hG9.out.block k hk hne]⟩
end Go.Proofs.YtnflkibkionjmaaDoor

/- Texts laid together: End, Sum2. -/
import Derived.Test.YtinifnpajkldbaaDoorAdd
import Derived.Great.BuildSlice

/- The contract of end: the filling, and the state as bytes. -/
namespace Go.Proofs.YtinifnpajkldbaaDoor
open Go.RowKit
set_option linter.unusedSimpArgs false
set_option linter.unusedVariables false
attribute [local go_sem] wadd wadd' wxor wand wnot

theorem zeroHash : (Tryd.prog.info? 26).bind (fun i => i.zero.map fun z => z.cells.toList) = some (B (List.replicate 32 0)) := by kernel_rfl
theorem zeroB64 : (Tryd.prog.info? 113).bind (fun i => i.zero.map fun z => z.cells.toList) = some (B (List.replicate 64 0)) := by kernel_rfl

theorem add_len (g : Nat) (h2 : 2 ≤ g) (sz : Int) (m b : List UInt8) (ao : Option Addr) (len cap : Nat) (hl : b.length = len) (w : World) (hW : Wk w 115 g sz m) (ht : Tabs w)
    (hr : Reads w (.slice ao len cap) (B b)) (hoff : B b ≠ [] → Off ao g) (hb : cap ≤ maxLen) :
    Calls Tryd.prog 73 #[.pointer (some ⟨g, 0, none⟩), .slice ao len cap] w fun e w' => e = .returned (.tuple #[]) ∧ Wk w' 115 g (IntKind.u64.wrap (sz + len)) (m ++ b) ∧ w.grownBy w' (some g) := by
  subst hl
  exact add_any g h2 sz m b ao cap w hW ht hr hoff hb

theorem be_int (Bd : Nat) (v : Value) (n : Nat) (xs : List Value) (u : Int) (U : Nat) (hU : u = (U : Int)) (k : Int) (K : Nat) (hK : k = (K : Int)) (hu : U < 18446744073709551616) (hk : K ≤ 8) (hb : n + K ≤ 1000) (w : World) (hown : Has w 5 Bd v n xs) (hBd : Bd ≤ w.heap.size) :
    Calls Tryd.prog 93 #[v, .int .u64 u, .int .i64 k] w fun e w' => ∃ v', e = .returned v' ∧ Has w' 5 Bd v' (n + K) (xs ++ B (be K U)) ∧ Below Bd w w' := by
  subst hU
  subst hK
  exact be_any Bd v n xs U K hu hk hb w hown hBd

theorem Has.off {w : World} {e : TypeId} {Bd g n : Nat} {v : Value} {xs : List Value} (h : Has w e Bd v n xs) (hg : g < Bd) : ∃ ao cap, v = .slice ao n cap ∧ Off ao g ∧ cap ≤ maxLen := by
  rcases h with ⟨rfl, rfl, rfl⟩ | ⟨b, cap, rfl, h1, h2⟩
  · exact ⟨none, 0, rfl, (fun _ h => by cases h), Nat.zero_le _⟩
  · exact ⟨some ⟨b, 0, none⟩, cap, rfl, (fun ad h => by cases h; show b ≠ g; omega), h2.2.2.1⟩

theorem grown_below {w w' : World} {row : Option Nat} (h : w.grownBy w' row) (Bd : Nat) (hb : ∀ k, row = some k → Bd ≤ k) (hs : Bd ≤ w.heap.size) : Below Bd w w' :=
  ⟨h.os, h.tape, h.output, h.size, fun k hk => h.block k (by omega) (by intro e; have := hb k e.symm; omega)⟩

theorem Blk.reads {w : World} {t : TypeId} {g : Nat} {l : List UInt8} (h : Blk w t g (B l)) (n cap : Nat) (hn : n ≤ l.length) (hc : n ≤ cap) : Reads w (.slice (some ⟨g, 0, none⟩) n cap) (B (l.take n)) := by
  have hl : (l.take n).length = n := by rw [List.length_take]; omega
  refine ⟨some ⟨g, 0, none⟩, cap, by rw [B_length, hl], by rw [B_length, hl]; exact hc, (fun h => by cases h), fun ad he j u hj => ?_⟩
  cases he
  rw [Addr.add_lit, Nat.zero_add]
  refine h.cell ?_
  rw [B_get] at hj ⊢
  rw [List.getElem?_take] at hj
  split at hj
  · exact hj
  · simp at hj

/-- The bytes of some words, the highest first. -/
def bytesOf (l : List UInt32) : List UInt8 := l.flatMap fun x => be 4 x.toNat
theorem bytesOf_len (l : List UInt32) : (bytesOf l).length = 4 * l.length := by
  induction l with
  | nil => rfl
  | cons x l ih =>
    have : bytesOf (x :: l) = be 4 x.toNat ++ bytesOf l := by simp [bytesOf]
    rw [this, List.length_append, be_len, ih, List.length_cons]
    omega
theorem bytesOf_step (l : List UInt32) (k : Nat) (h : k < l.length) : bytesOf (l.take (k + 1)) = bytesOf (l.take k) ++ be 4 (l.getD k 0).toNat := by
  have e : l.getD k 0 = l[k] := by rw [List.getD_eq_getElem?_getD, List.getElem?_eq_getElem h]; rfl
  rw [List.take_succ_eq_append_getElem h, e, bytesOf, bytesOf, List.flatMap_append, List.flatMap_singleton]

set_option maxRecDepth 100000 in
set_option maxHeartbeats 4000000 in
theorem shaEnd_any (g : Nat) (h2 : 2 ≤ g) (m : List UInt8) (hm : m.length ≤ 1000000000) (w : World) (hW : Wk w 115 g (m.length : Int) m) (ht : Tabs w) :
    Calls Tryd.prog 74 #[.pointer (some ⟨g, 0, none⟩)] w fun e w' => e = .returned (.agg (B (shaS m)).toArray) ∧ w.grownBy w' (some g) := by
  have hlt := hW.lt
  obtain ⟨L, hL⟩ : ∃ L, w.heap.size = L := ⟨_, rfl⟩
  have HW := hid hW
  have HT := hid ht
  clear hW ht
  go_enter Tryd.func74, Tryd.ntmps74
  go_wp2_with (show wpList _ _ _ (⟨some 2, Op.alloc _, _, _, _, _⟩ :: _) _ _; go_must (refine wpList_alloc_blk rfl 26 rfl _ zeroHash L hL ?_); intro w1 hB1 hb1 hs1; have cz := (HW.out.later (by rw [hL]; exact hb1)).size)
  have HW1 := hid (HW.out.later (by rw [hL]; exact hb1))
  have HB1 := hid hB1
  have HT1 := hid (HT.out.below hb1 (by omega))
  have HG1 := hid (show w.grownBy w1 (some g) from grown_of_below (by rw [hL]; exact hb1))
  clear hb1 hB1 HW HT cz
  refine (be_int (L + 1) _ 0 [] _ (8 * m.length) (by omega) _ 8 (by rfl) (by omega) (by omega) (by omega) _ (Has.nil _ _ _) (by omega)).mono ?_
  rintro e w2 ⟨v2, rfl, hH2, hb2⟩
  have hs2 := hb2.size
  have HW2 := hid (HW1.out.kept (hb2.block g (by omega)))
  have HB2 := hid (HB1.out.kept (hb2.block L (by omega)))
  have HT2 := hid (HT1.out.below hb2 (by omega))
  have HG2 := hid (grown_trans HG1.out (grown_of_below (row := some g) (by rw [hs1]; exact hb2)))
  have HH2 := hid hH2
  clear hH2 hb2 HW1 HB1 HT1 HG1
  go_wp2_with fail
  have hR3 : Reads (w2.alloc (Obj.cells #[Value.int IntKind.u8 128] 5)) (.slice (some ⟨w2.heap.size, 0, none⟩) 1 1) (B [128]) := Blk.reads (l := [128]) (Blk.new w2 5 (B [128])) 1 1 (Nat.le_refl _) (Nat.le_refl _)
  have hb3 : Below w2.heap.size w2 (w2.alloc (Obj.cells #[Value.int IntKind.u8 128] 5)) := (Below.refl _ _).alloc (Nat.le_refl _) _
  refine (add_len g h2 _ m [128] _ 1 1 rfl _ (HW2.out.later hb3) (HT2.out.below hb3 (by omega)) hR3 (fun _ ad h => by cases h; show w2.heap.size ≠ g; omega) (by unfold maxLen; omega)).mono ?_
  rintro e w3 ⟨rfl, hW3, hg3⟩
  have hg3' := grown_trans (grown_of_below (row := some g) hb3) hg3
  have hs3 := hg3'.size
  have HW3 := hid hW3
  have HB3 := hid (HB2.out.kept (hg3'.block L (by omega) (by intro e; injection e; omega)))
  have HT3 := hid (HT2.out.grown hg3' h2)
  have HG3 := hid (grown_trans HG2.out hg3')
  have HH3 := hid (show Has w3 5 (L + 1) v2 8 (B (be 8 (8 * m.length))) by
    have h := HH2.out
    rw [List.nil_append, Nat.zero_add] at h
    rcases h with h | ⟨b, cap, rfl, h1, h2⟩
    · exact .inl h
    · exact .inr ⟨b, cap, rfl, h1, h2.kept (hg3'.block b h2.lt (by intro e; injection e; omega))⟩)
  have ch := hW3.held
  obtain ⟨sz3, hsz3⟩ : ∃ z, IntKind.u64.wrap ((m.length : Int) + ((1 : Nat) : Int)) = z := ⟨_, rfl⟩
  rw [hsz3] at HW3
  obtain ⟨hd, hhd⟩ : ∃ hd, (m ++ [128]).length % 64 = hd := ⟨_, rfl⟩
  rw [hhd] at ch
  have hd64 : hd < 64 := by omega
  have HHD := hid hhd
  clear hR3 hb3 hW3 hg3 hg3' hhd hsz3 HW2 HB2 HT2 HG2 HH2
  obtain ⟨L3, hL3⟩ : ∃ L3, w3.heap.size = L3 := ⟨_, rfl⟩
  have hLL3 : L + 1 ≤ L3 := by omega
  have hgL : g < L := by omega
  clear hs3 hs2 hs1
  obtain ⟨k, hk⟩ : ∃ k, (120 - hd) % 64 = k := ⟨_, rfl⟩
  have hkk : (120 - (hd : Int)) % 64 = (k : Int) := by omega
  have hk0 : (0 : Int) ≤ (k : Int) := by omega
  have hk1 : (k : Int) ≤ 64 := by omega
  have HK := hid hk
  clear hk
  go_wp2_with (show wpList _ _ _ (⟨some 4, Op.alloc _, _, _, _, _⟩ :: _) _ _; go_must (refine wpList_alloc_blk rfl 113 rfl _ zeroB64 L3 hL3 ?_); intro w4 hB4 hb4 hs4; have ch4 : w4.cell? ⟨g, 9, none⟩ = some (.int .i64 (hd : Nat)) := cell_later (by rw [hL3]; exact hb4) ch)
  have HB4 := hid hB4
  have hb4' : Below w3.heap.size w3 w4 := by rw [hL3]; exact hb4
  have HW4 := hid (HW3.out.later hb4')
  have HT4 := hid (HT3.out.below hb4 (by omega))
  have HG4 := hid (grown_trans HG3.out (grown_of_below (row := some g) hb4'))
  have HH4 := hid (HH3.out.later hb4')
  have HBh4 := hid (HB3.out.later hb4')
  clear hB4 hb4 hb4' HW3 HT3 HG3 HH3 HB3 ch ch4
  have hR5 := HB4.out.reads k 64 (by rw [List.length_replicate]; omega) (by omega)
  rw [List.take_replicate, show min k 64 = k by omega] at hR5
  refine (add_len g h2 _ (m ++ [128]) (List.replicate k 0) _ k 64 List.length_replicate _ HW4.out HT4.out hR5 (fun _ ad h => by cases h; show L3 ≠ g; omega) (by unfold maxLen; omega)).mono ?_
  rintro e w5 ⟨rfl, hW5, hg5⟩
  have HW5 := hid hW5
  have HT5 := hid (HT4.out.grown hg5 h2)
  have HG5 := hid (grown_trans HG4.out hg5)
  have HH5 := hid (show Has w5 5 (L + 1) v2 8 (B (be 8 (8 * m.length))) by
    rcases HH4.out with h | ⟨b, cap, rfl, h1, h2⟩
    · exact .inl h
    · exact .inr ⟨b, cap, rfl, h1, h2.kept (hg5.block b h2.lt (by intro e; injection e; omega))⟩)
  have HBh5 := hid (HBh4.out.kept (hg5.block L (by omega) (by intro e; injection e; omega)))
  have hs5 := hg5.size
  clear hW5 hg5 HW4 HT4 HG4 HH4 HBh4 HB4 hR5
  obtain ⟨ao6, cap6, hv6, hoff6, hcap6⟩ := HH5.out.off (g := g) (by omega)
  subst hv6
  have HO6 := hid hoff6
  have HC6 := hid hcap6
  clear hoff6 hcap6
  go_wp2_with fail
  refine (add_len g h2 _ _ (be 8 (8 * m.length)) ao6 8 cap6 (be_len _ _) _ HW5.out HT5.out HH5.out.reads (fun _ => HO6.out) HC6.out).mono ?_
  rintro e w6 ⟨rfl, hW6, hg6⟩
  have hfill : m ++ [128] ++ List.replicate k 0 ++ be 8 (8 * m.length) = fill m := by
    have h1 := HK.out
    have h2 := HHD.out
    rw [List.length_append, List.length_singleton] at h2
    rw [fill, h2, h1, show m.length * 8 % 18446744073709551616 = 8 * m.length by omega]
  rw [hfill] at hW6
  obtain ⟨l, hl⟩ : ∃ l, (runS (fill m) ((fill m).length / 64)).l = l := ⟨_, rfl⟩
  have hll : l.length = 8 := by rw [← hl]; exact S8.len _
  have hsha : shaS m = bytesOf l := by rw [shaS, hl]; rfl
  have HR6 := hid (show w6.rangeAt g 0 (U l) by
    obtain ⟨b, la, h1, h2, h3, h4⟩ := hW6
    rw [hl] at h4
    exact h4.range fun j v hv => by
      rw [Nat.zero_add]
      have hj := (List.getElem?_eq_some_iff.1 hv).1
      unfold wk
      rw [List.getElem?_append_left hj]
      exact hv)
  have hs6 := hg6.size
  have HB6 := hid (HBh5.out.kept (hg6.block L (by omega) (by intro e; injection e; omega)))
  have HG6 := hid (grown_trans HG5.out hg6)
  have HSH := hid hsha
  have HLL := hid hll
  clear hW6 hg6 hfill hl hsha hll HW5 HT5 HG5 HH5 HBh5 HO6 HC6 HK HHD hkk hk0 hk1 hd64
  have h6L : L + 1 ≤ w6.heap.size := by omega
  clear hs4 hs5 hs6 hL3
  have hi8 := hid (show (Tryd.prog.info? 111).map (·.size) = some (U l).length by rw [U_length, HLL.out]; kernel_rfl)
  go_wp2_with (show wpList _ _ _ (⟨some 33, Op.load _ _, _, _, _, _⟩ :: _) _ _; go_must (refine wpList_load_mid rfl 111 _ rfl g 0 rfl (U l) _ HR6.out Tryd.underlying111 rfl hi8.out ?_))
  go_loopw [5, 34] (fun out i wr => ∃ j : Nat, j ≤ 8 ∧ i = .int .i64 j ∧ Has wr 5 w6.heap.size out (4 * j) (B (bytesOf (l.take j))) ∧ Below w6.heap.size w6 wr) (fun _ i _ => 8 - (intOf i).toNat)
  case atStart => exact ⟨0, Nat.zero_le _, rfl, Has.nil _ _ _, Below.refl _ _⟩
  case round =>
    obtain ⟨j, hj, rfl, hH, hb⟩ := hrel
    have HH := hid hH
    have Hb := hid hb
    have hsz := hb.size
    clear hH hb
    by_cases hlt : j < 8
    · have hlt' : (j : Int) < 8 := by omega
      obtain ⟨x, hx⟩ : ∃ x, l.getD j 0 = x := ⟨_, rfl⟩
      have hix := hid (show (U l).toArray[j]? = some (.int .u32 (nt x)) by rw [List.getElem?_toArray, ← hx]; exact U_getD l j (by rw [HLL.out]; exact hlt))
      have HST := hid (show bytesOf (l.take (j + 1)) = bytesOf (l.take j) ++ be 4 x.toNat by rw [← hx]; exact bytesOf_step l j (by rw [HLL.out]; exact hlt))
      have lox := nt_lo x
      have hix2 := nt_hi x
      clear hx
      go_wp2_with (show wpList _ _ _ (⟨_, Op.index _ _ _, _, _, _, _⟩ :: _) _ _; go_must (refine wpList_index_agg rfl 111 _ _ rfl 108 8 .u32 Tryd.underlying111 Tryd.underlying108 Tryd.sizeWord _ .i64 j rfl rfl hlt (.int .u32 (nt x)) hix.out ?_))
      refine (be_int w6.heap.size _ (4 * j) _ _ x.toNat (by rfl) _ 4 (by rfl) (by have := tn x; omega) (by omega) (by omega) _ HH.out (by omega)).mono ?_
      rintro e w7 ⟨v7, rfl, hH7, hb7⟩
      go_wp2_with fail
      go_roundw
      case rel => exact ⟨j + 1, by omega, by go_num, by rw [HST.out, B_append]; exact hH7, Hb.out.trans hb7⟩
      case measure => simp [intOf]; omega
    · have hj8 : j = 8 := by omega
      subst hj8
      obtain ⟨sh, hsh⟩ : ∃ sh, shaS m = sh := ⟨_, rfl⟩
      have hshl : sh.length = 32 := by rw [← hsh]; exact shaS_len m
      have HH8 := hid (show Has wr 5 w6.heap.size u5 32 (B sh) by
        have h := HH.out
        rw [List.take_of_length_le (by rw [HLL.out]; omega), ← HSH.out, hsh] at h
        exact h)
      have hBL : Blk wr 26 L (B (List.replicate 32 0)) := HB6.out.later Hb.out
      have hgr : w.grownBy wr (some g) := grown_trans HG6.out (grown_of_below (row := some g) Hb.out)
      obtain ⟨L8, hL8⟩ : ∃ L8, wr.heap.size = L8 := ⟨_, rfl⟩
      have hLL8 : L < L8 := by omega
      have Hsh := hid hsh
      obtain ⟨bs, hbs⟩ : ∃ bs, B sh = bs := ⟨_, rfl⟩
      have hbl : bs.length = 32 := by rw [← hbs, B_length]; exact hshl
      have ho := hid (show ∀ v ∈ bs, v.oneCell' = true by rw [← hbs]; exact B_one sh)
      have hlen := hid (show 32 = Nat.min bs.length 32 by rw [hbl]; rfl)
      have hi := hid (show (Tryd.prog.info? 26).map (·.size) = some bs.length by rw [hbl]; kernel_rfl)
      have HE := hid (show B (shaS m) = bs by rw [Hsh.out]; exact hbs)
      have HP := hid (show ∀ w8 : World, Blk w8 26 L8 (B (List.replicate 32 0)) → Below L8 wr w8 → Reads w8 u5 bs ∧ w8.there L8 0 32 ∧ Blk (w8.setCells L8 0 (bs.take 32)) 26 L8 bs ∧ Blk w8 26 L (B (List.replicate 32 0)) ∧ w.grownBy w8 (some g) by
        intro w8 hB8 hb8
        have hb8' : Below wr.heap.size wr w8 := by rw [hL8]; exact hb8
        refine ⟨by rw [← hbs]; exact (HH8.out.later hb8').reads, hB8.there (by rw [B_length, List.length_replicate]; omega), ?_, hBL.later hb8', grown_trans hgr (grown_of_below (row := some g) hb8')⟩
        have := Blk.setCells (t := 26) (g := L8) (bs.take 32) [] (B (List.replicate 32 0)) [] (w := w8) (o := 0) (by rw [List.nil_append, List.append_nil]; exact hB8) (by rw [B_length, List.length_replicate, List.length_take, hbl]; omega) rfl
        rw [List.nil_append, List.append_nil, List.take_of_length_le (by omega)] at this
        rw [List.take_of_length_le (by omega)]
        exact this)
      have HBL32 := hid hbl
      clear hshl hBL hgr hsh HH HSH HB6 HG6 Hb HR6 HLL hi8 h6L hsz hbs hbl HH8 Hsh
      go_wp2_with (first
        | (show wpList _ _ _ (⟨some 8, Op.alloc _, _, _, _, _⟩ :: _) _ _; go_must (refine wpList_alloc_blk rfl 26 rfl _ zeroHash L8 hL8 ?_); intro w8 hB8 hb8 hs8; have HQ := hid (HP.out w8 hB8 hb8); clear hB8 hb8)
        | (show wpList _ _ _ (⟨some 44, _, _, _, _, _⟩ :: _) _ _; go_must (refine wpList_copy_list rfl _ _ 22 22 rfl 5 Tryd.underlying22 Tryd.size1 L8 0 32 32 rfl u5 rfl bs HQ.out.1 32 hlen.out HQ.out.2.1 ho.out ?_); intro w9 hw9; replace hw9 := hid hw9; have hr9 := hid (show w9.rangeAt L8 0 bs by rw [hw9.out]; exact HQ.out.2.2.1.range fun j v hv => by rw [Nat.zero_add]; exact hv); have ht9 := hid (show w9.there L 0 bs.length by rw [hw9.out]; exact Blk.there (HQ.out.2.2.2.1.kept (setCells_heap (by omega) _ _ _)) (by rw [B_length, List.length_replicate, HBL32.out]; omega)))
        | (show wpList _ _ _ (⟨some 45, Op.load _ _, _, _, _, _⟩ :: _) _ _; go_must (refine wpList_load_mid rfl 26 _ rfl L8 0 rfl bs _ hr9.out Tryd.underlying26 rfl hi.out ?_))
        | (show wpList _ _ _ (⟨none, Op.store _ _ _, _, _, _, _⟩ :: _) _ _; go_must (refine wpList_store_list rfl 26 _ _ rfl L 0 bs rfl rfl ht9.out hi.out ho.out ?_); intro w10 hw10; replace hw10 := hid hw10))
      have hG9 := hid (show w.grownBy w9 (some g) by
        rw [hw9.out]
        have hb := below_setCells (B := w.heap.size) (g := L8) (by omega) (bs.take 32) 0 (Below.refl w.heap.size w8)
        have hG8 := HQ.out.2.2.2.2
        exact ⟨hb.os.trans hG8.os, hb.tape.trans hG8.tape, hb.output.trans hG8.output, Nat.le_trans hG8.size hb.size, fun k hk hne => by rw [hb.block k hk, hG8.block k hk hne]⟩)
      refine ret_cell 2 26 rfl L rfl bs _ ?_ Tryd.underlying26 rfl hi.out rfl ⟨by rw [HE.out], ?_⟩
      · rw [hw10.out]
        exact World.rangeAt_setCells_same w9 L 0 bs ht9.out
      · rw [hw10.out]
        have hb := below_setCells (B := w.heap.size) (g := L) (by omega) bs 0 (Below.refl w.heap.size w9)
        exact ⟨hb.os.trans hG9.out.os, hb.tape.trans hG9.out.tape, hb.output.trans hG9.out.output, Nat.le_trans hG9.out.size hb.size, fun k hk hne => by rw [hb.block k hk, hG9.out.block k hk hne]⟩
end Go.Proofs.YtinifnpajkldbaaDoor

/- The contract of Sum: SHA-256 of all parts, one behind the other. -/
namespace Go.Proofs.YtinifnpajkldbaaDoor
open Go.RowKit
set_option linter.unusedSimpArgs false
set_option linter.unusedVariables false
attribute [local go_sem] wadd wadd' wxor wand wnot

/-- A slice of slices of bytes that reads as ls. -/
def Parts (w : World) (v : Value) (ls : List (List UInt8)) : Prop :=
  ∃ ao cap, v = .slice ao ls.length cap ∧ ls.length ≤ cap ∧ (ao = none → ls = []) ∧ ∀ ad, ao = some ad → ∀ j l, ls[j]? = some l → ∃ p c, w.cell? (ad.add j) = some (.slice p l.length c) ∧ Reads w (.slice p l.length c) (B l) ∧ c ≤ maxLen

theorem Parts.later {w w' : World} {v : Value} {ls : List (List UInt8)} (h : Parts w v ls) (hb : Below w.heap.size w w') : Parts w' v ls := by
  obtain ⟨ao, cap, e, hc, hn, hcell⟩ := h
  refine ⟨ao, cap, e, hc, hn, fun ad he j l hj => ?_⟩
  obtain ⟨p, c, h1, h2, h3⟩ := hcell ad he j l hj
  exact ⟨p, c, cell_later hb h1, h2.later hb, h3⟩

theorem zeroWork : (Tryd.prog.info? 115).bind (fun i => i.zero.map fun z => z.cells.toList) = some (wk (List.replicate 8 0) 0 0 (List.replicate 64 0) (List.replicate 64 0) (List.replicate 64 0)) := by kernel_rfl
theorem builtWork : Tryd.prog.built 115 [(0, .agg (U H0.l).toArray)] = some (wk H0.l 0 0 (List.replicate 64 0) (List.replicate 64 0) (List.replicate 64 0)).toArray := by kernel_rfl
theorem spread0 : spreadS (List.replicate 64 0) = List.replicate 64 0 := by decide +kernel
theorem infoWork : (Tryd.prog.info? 115).map (·.size) = some 202 := by kernel_rfl

theorem reads_bound {w : World} {p : Option Addr} {n c : Nat} {xs : List Value} (h : Reads w (.slice p n c) xs) (hne : xs ≠ []) : ∀ ad, p = some ad → ad.block < w.heap.size := by
  intro ad he
  obtain ⟨p', c', e, hc, hn, hcell⟩ := h
  injection e with e1 e2 e3
  subst e1
  cases xs with
  | nil => exact absurd rfl hne
  | cons u xs =>
    have := World.block_lt_of_cell? w _ (hcell ad he 0 u rfl)
    rwa [Addr.add_block] at this

theorem wpList_build_one {P : Program} {ops : Array Oper} {rest : List Oper} {o : Oper} {a : Act} {w : World} {Q : Exit → Act → World → Prop} (hg : o.guard = none) (t : TypeId) (x : Operand) (ho : o.op = .build t #[(0, x)])
    (v : Value) (hx : a.eval x = v) (cells : Array Value) (hf : P.built t [(0, v)] = some cells)
    (h : wpList P ops Q rest (a.put o.dst (.agg cells)) w) : wpList P ops Q (o :: rest) a w :=
  wpList_buildTo hg t _ ho _ rfl cells (by rw [List.map_toArray]; simp only [List.map_cons, List.map_nil, hx]; exact hf) h

set_option maxRecDepth 100000 in
set_option maxHeartbeats 4000000 in
theorem Sum_any (w : World) (ht : Tabs w) (v : Value) (ls : List (List UInt8)) (hp : Parts w v ls) (hln : ls.length ≤ 1000000) (htot : ls.flatten.length ≤ 1000000) :
    Calls Tryd.prog 50 #[v] w fun e w' => e = .returned (.agg (B (shaS ls.flatten)).toArray) ∧ Below w.heap.size w w' := by
  have HP := hid hp
  have HT := hid ht
  have h2w := ht.two
  obtain ⟨ao, cap, rfl, hcap, hnone, hcell⟩ := hp
  have HN := hid hnone
  have HC := hid hcell
  obtain ⟨L, hL⟩ : ∃ L, w.heap.size = L := ⟨_, rfl⟩
  obtain ⟨n, hn⟩ : ∃ n, ls.length = n := ⟨_, rfl⟩
  rw [hn] at hcap HP hln ⊢
  have HLN := hid hn
  clear hn hnone hcell ht
  have hi8 := hid (show (Tryd.prog.info? 111).map (·.size) = some (U H0.l).length by kernel_rfl)
  have hlw : ∀ s z h b l ws, s.length = 8 → b.length = 64 → l.length = 64 → ws.length = 64 → (wk s z h b l ws).length = 202 := by
    intro s z h b l ws h1 h2 h3 h4
    simp only [wk, List.length_append, U_length, B_length, h1, h2, h3, h4, List.length_cons, List.length_nil]
  have how : ∀ s z h b l ws, ∀ v ∈ wk s z h b l ws, v.oneCell' = true := by
    intro s z h b l ws v hv
    simp only [wk, List.mem_append, List.mem_cons, List.not_mem_nil, or_false] at hv
    rcases hv with hv | (rfl | rfl) | hv | hv | hv
    · exact U_one _ v hv
    · rfl
    · rfl
    · exact B_one _ v hv
    · exact B_one _ v hv
    · exact U_one _ v hv
  obtain ⟨W0, hW0⟩ : ∃ W0, wk H0.l 0 0 (List.replicate 64 0) (List.replicate 64 0) (List.replicate 64 0) = W0 := ⟨_, rfl⟩
  have hW0l : W0.length = 202 := by rw [← hW0]; exact hlw _ _ _ _ _ _ rfl List.length_replicate List.length_replicate List.length_replicate
  have HW0o := hid (show ∀ v ∈ W0, v.oneCell' = true by rw [← hW0]; exact how _ _ _ _ _ _)
  have HB0 := hid (show Tryd.prog.built 115 [(0, .agg (U H0.l).toArray)] = some W0.toArray by rw [← hW0]; exact builtWork)
  have Hi0 := hid (show (Tryd.prog.info? 115).map (·.size) = some W0.length by rw [hW0l]; exact infoWork)
  have HZL := hid (hlw (List.replicate 8 0) 0 0 (List.replicate 64 0) (List.replicate 64 0) (List.replicate 64 0) List.length_replicate List.length_replicate List.length_replicate List.length_replicate)
  have HW0 := hid hW0
  have HW0l := hid hW0l
  clear hlw how hW0 hW0l
  go_enter Tryd.func50, Tryd.ntmps50
  go_wp2_with (first
    | (show wpList _ _ _ (⟨some 2, Op.alloc _, _, _, _, _⟩ :: _) _ _; go_must (refine wpList_alloc_blk rfl 26 rfl _ zeroHash L hL ?_); intro w1 hB1 hb1 hs1; replace hB1 := hid hB1; replace hb1 := hid hb1; have hr1 := hid (HT.out.below hb1.out (by omega)).begin)
    | (show wpList _ _ _ (⟨some 6, Op.load _ _, _, _, _, _⟩ :: _) _ _; go_must (refine wpList_load_mid rfl 111 _ rfl 0 0 rfl (U H0.l) _ hr1.out Tryd.underlying111 rfl hi8.out ?_))
    | (show wpList _ _ _ (⟨some 7, Op.build _ _, _, _, _, _⟩ :: _) _ _; go_must (refine wpList_build_one rfl 115 _ rfl (.agg (U H0.l).toArray) rfl W0.toArray HB0.out ?_))
    | (show wpList _ _ _ (⟨some 3, Op.alloc _, _, _, _, _⟩ :: _) _ _; go_must (refine wpList_alloc_blk rfl 115 rfl _ zeroWork (L + 1) hs1 ?_); intro w2 hB2 hb2 hs2; replace hB2 := hid hB2; replace hb2 := hid hb2; have ht2 := hid (hB2.out.there (o := 0) (n := W0.length) (by rw [HZL.out, HW0l.out]; omega)))
    | (show wpList _ _ _ (⟨none, Op.store _ _ _, _, _, _, _⟩ :: _) _ _; go_must (refine wpList_store_list rfl 115 _ _ rfl (L + 1) 0 W0 rfl rfl ht2.out Hi0.out HW0o.out ?_); intro w3 hw3; replace hw3 := hid hw3))
  have hw3B : Blk w3 115 (L + 1) W0 := by
    rw [hw3.out]
    have := Blk.setCells (t := 115) (g := L + 1) W0 [] (wk (List.replicate 8 0) 0 0 (List.replicate 64 0) (List.replicate 64 0) (List.replicate 64 0)) [] (w := w2) (o := 0) (by rw [List.nil_append, List.append_nil]; exact hB2.out) (by rw [HZL.out, HW0l.out]) rfl
    rw [List.nil_append, List.append_nil] at this
    exact this
  have hWk3 := hid (show Wk w3 115 (L + 1) 0 [] by
    refine ⟨List.replicate 64 0, List.replicate 64 0, List.length_replicate, List.length_replicate, rfl, ?_⟩
    rw [spread0]
    have h := hw3B
    rw [← HW0.out] at h
    exact h)
  have hb3 : Below L w w3 := by rw [hw3.out]; exact below_setCells (by omega) _ _ (hb1.out.trans (hb2.out.mono (by omega)))
  have hBL3 := hid (show Blk w3 26 L (B (List.replicate 32 0)) by
    rw [hw3.out]
    exact (hB1.out.kept (hb2.out.block L (by omega))).kept (setCells_heap (by omega) _ _ _))
  have Hb3 := hid hb3
  have hs3 : L + 2 ≤ w3.heap.size := by have := hw3B.lt; omega
  clear hw3 hw3B hb3 hB1 hb1 hB2 hb2 hs1 hs2 ht2 hr1 hi8 HB0 Hi0 HZL HW0 HW0l HW0o
  go_loopw [5, 10] (fun p i wr => ∃ j : Nat, j ≤ n ∧ i = .int .i64 j ∧ Wk wr 115 (L + 1) (((ls.take j).flatten.length : Nat) : Int) (ls.take j).flatten ∧ Blk wr 26 L (B (List.replicate 32 0)) ∧ Below L w wr) (fun _ i _ => n - (intOf i).toNat)
  case atStart => exact ⟨0, Nat.zero_le _, rfl, hWk3.out, hBL3.out, Hb3.out⟩
  case round =>
    obtain ⟨j, hj, rfl, hW, hB, hb⟩ := hrel
    have HW := hid hW
    have HB := hid hB
    have Hb := hid hb
    have hsz := hb.size
    have hlt2 := hW.lt
    clear hW hB hb
    by_cases hlt : j < n
    · have hlt' : (j : Int) < (n : Int) := by omega
      obtain ⟨l, hl⟩ : ∃ l, ls[j]? = some l := ⟨_, List.getElem?_eq_getElem (by rw [HLN.out]; exact hlt)⟩
      cases ao with
      | none => have := HN.out rfl; rw [this] at hl; simp at hl
      | some ad =>
      obtain ⟨p, c, hc1, hc2, hc3⟩ := HC.out ad rfl j l hl
      have hcr := cell_later (w := w) (by rw [hL]; exact Hb.out) hc1
      have HRD := hid (hc2.later (by rw [hL]; exact Hb.out))
      have HOF := hid (show B l ≠ [] → Off p (L + 1) from fun hne ad he => by have := reads_bound hc2 hne ad he; omega)
      have HC3 := hid hc3
      have hfl : (ls.take (j + 1)).flatten = (ls.take j).flatten ++ l := by
        rw [List.take_add_one, hl]
        simp
      have HFL := hid hfl
      have hbd : (ls.take j).flatten.length + l.length ≤ 1000000 := by
        have h1 : (ls.take (j + 1)).flatten.length ≤ ls.flatten.length := by
          rw [← List.take_append_drop (j + 1) ls, List.flatten_append, List.length_append, List.take_append_drop]
          omega
        rw [hfl, List.length_append] at h1
        omega
      have HBD := hid hbd
      clear hc1 hc2 hc3 hfl hbd hl
      go_wp2_with fail
      refine (add_any (L + 1) (by omega) _ _ l p c _ HW.out (HT.out.below Hb.out (by omega)) HRD.out HOF.out HC3.out).mono ?_
      rintro e w4 ⟨rfl, hW4, hg4⟩
      go_wp2_with fail
      go_roundw
      case rel =>
        refine ⟨j + 1, by omega, by go_num, ?_, HB.out.kept (hg4.block L HB.out.lt (by intro e; injection e; omega)), Hb.out.trans (grown_below hg4 L (by intro k hk; cases hk; omega) (by omega))⟩
        rw [HFL.out]
        have := HBD.out
        rw [IntWalk.u64_in _ (by omega)] at hW4
        rw [List.length_append]
        exact hW4
      case measure => simp [intOf]; omega
    · have hjn : j = n := by omega
      subst hjn
      have hfl : (ls.take j).flatten = ls.flatten := by rw [List.take_of_length_le (by rw [HLN.out]; omega)]
      have HWf := hid (show Wk wr 115 (L + 1) ((ls.flatten.length : Nat) : Int) ls.flatten by have h := HW.out; rw [hfl] at h; exact h)
      obtain ⟨bs, hbs⟩ : ∃ bs, B (shaS ls.flatten) = bs := ⟨_, rfl⟩
      have hbl : bs.length = 32 := by rw [← hbs, B_length, shaS_len]
      have ho := hid (show ∀ v ∈ bs, v.oneCell' = true by rw [← hbs]; exact B_one _)
      have hi := hid (show (Tryd.prog.info? 26).map (·.size) = some bs.length by rw [hbl]; kernel_rfl)
      have HE := hid hbs
      have HBL32 := hid hbl
      clear hfl hbs hbl HW
      go_wp2_with fail
      refine (shaEnd_any (L + 1) (by omega) _ (by omega) _ HWf.out (HT.out.below Hb.out (by omega))).mono ?_
      rintro e w4 ⟨rfl, hg4⟩
      rw [HE.out]
      have ht4 := hid (show w4.there L 0 bs.length from Blk.there (HB.out.kept (hg4.block L HB.out.lt (by intro e; injection e; omega))) (by rw [B_length, List.length_replicate, HBL32.out]; omega))
      have hb4 := hid (show Below L w w4 from Hb.out.trans (grown_below hg4 L (by intro k hk; cases hk; omega) (by omega)))
      clear hg4
      go_wp2_with (show wpList _ _ _ (⟨none, Op.store _ _ _, _, _, _, _⟩ :: _) _ _; go_must (refine wpList_store_list rfl 26 _ _ rfl L 0 bs rfl rfl ht4.out hi.out ho.out ?_); intro w5 hw5; replace hw5 := hid hw5)
      refine ret_cell 2 26 rfl L rfl bs _ ?_ Tryd.underlying26 rfl hi.out rfl ⟨by rw [HE.out], ?_⟩
      · rw [hw5.out]
        exact World.rangeAt_setCells_same w4 L 0 bs ht4.out
      · rw [hw5.out, hL]
        exact below_setCells (Nat.le_refl _) _ _ hb4.out
end Go.Proofs.YtinifnpajkldbaaDoor

/- The law LogReads: of any bytes what is told, and left, is the document's. -/
import Derived.Test.YtifdoneffnfogaaQ11b
import Derived.Test.YtifdoneffnfogaaWithin11
import Derived.Test.YtifdoneffnfogaaRows11
import Derived.Test.YtifdoneffnfogaaArgB
import Derived.Test.YtifdoneffnfogaaPLog
import Derived.BigQuiet
import Derived.Deep.DeepCutAuto
namespace Go.Proofs.Ytifdoneffnfogaa
open Go.RowKit
set_option linter.unusedSimpArgs false
set_option linter.unusedVariables false

theorem Owns.newB (w : World) (e : TypeId) (l : List UInt8) (n : Nat) (hn : l.length = n) (hm : n ≤ maxLen) : Owns (w.alloc (.cells (B l).toArray e)) e w.heap.size n n (B l) := (Blk.new w e (B l)).ownsB hn hm
theorem head8 (w : World) (e : TypeId) (z : Int) (h0 : 0 ≤ z) (h1 : z < 256) : Has (w.alloc (.cells #[.int .u8 z, .int .u8 0, .int .u8 0, .int .u8 0, .int .u8 0, .int .u8 0, .int .u8 0, .int .u8 0] e)) e w.heap.size (.slice (some ⟨w.heap.size, 0, none⟩) 8 8) 8 (B [UInt8.ofNat z.toNat, 0, 0, 0, 0, 0, 0, 0]) := by
  have h := Owns.newB w e [UInt8.ofNat z.toNat, 0, 0, 0, 0, 0, 0, 0] 8 rfl (by unfold maxLen; omega)
  have h2 : B [UInt8.ofNat z.toNat, 0, 0, 0, 0, 0, 0, 0] = [.int .u8 z, .int .u8 0, .int .u8 0, .int .u8 0, .int .u8 0, .int .u8 0, .int .u8 0, .int .u8 0] := by
    show Value.int .u8 (UInt8.ofNat z.toNat).toNat :: _ = _
    rw [UInt8.toNat_ofNat']
    congr 2
    omega
  rw [h2] at h ⊢
  exact .inr ⟨_, 8, rfl, Nat.le_refl _, h⟩
theorem on_reads (b : List UInt8) (Z : Nat) : openS ⟨b, 0, Z, 0, false⟩ = (0, (recs b).1, ⟨b.take (recs b).2, (recs b).2, Z, 0, false⟩) := by
  have h := recs_len b
  have hc : (⟨b, 0, Z, 0, false⟩ : Dk).cut ((recs b).2 : Int) = (0, ⟨b.take (recs b).2, (recs b).2, Z, 0, false⟩) := by
    rw [Dk.cut, if_neg (by simp), if_neg (by show ¬ (((recs b).2 : Int) < 0 ∨ (b.length : Int) < ((recs b).2 : Int)); omega), if_neg (by simp)]
    rfl
  rw [openS, if_neg (by simp)]
  simp only
  rw [hc, if_neg (by simp)]
/-- Both disks of the law, side by side, in two states. -/
structure PB (L : Nat) (w w1 : World) (d r x : Nat) (s t : Dk) : Prop where
  kd : KD L w w1 d r s
  xv : ∃ ao cap, XV w1 x t ao cap (fun j => j = d ∨ j = r)
  lx : L ≤ x
  dx : d < x ∧ r < x
section
variable {L : Nat} {w w1 w2 : World} {d r x : Nat} {s s' t t' : Dk}
theorem PB.new (hK : KD L w w1 d r s) (hR : RK w2 x t) (hb : Below w1.heap.size w1 w2) (hx : w1.heap.size ≤ x) : PB L w w2 d r x s t := by
  obtain ⟨ao, cap, hv, h1, h2⟩ := hR.opened
  have hl := hK.lt
  exact ⟨hK.later hb, ⟨ao, cap, hv, hR.ok, h1, h2, fun j hj hP => by have := (hv.bk hj).1; rcases hP with e | e <;> subst e <;> omega⟩, by have := hK.le; omega, by omega⟩
theorem XV.only {ao : Option Addr} {cap : Nat} (h : XV w1 x t ao cap (fun j => j = d ∨ j = r)) (ho : Only w1 w2 d r) (hd : d < x ∧ r < x) : XV w2 x t ao cap (fun j => j = d ∨ j = r) :=
  h.kept (ho.block x h.rv.lt (by omega) (by omega)) fun j hj hP => ho.block j hj (fun e => hP (.inl e)) (fun e => hP (.inr e))
theorem PB.stepK (h : PB L w w1 d r x s t) (hK : KD L w w2 d r s') (ho : Only w1 w2 d r) : PB L w w2 d r x s' t := by
  obtain ⟨ao, cap, hx⟩ := h.xv
  exact ⟨hK, ⟨ao, cap, hx.only ho h.dx⟩, h.lx, h.dx⟩
theorem PB.stepX (h : PB L w w1 d r x s t) {ao : Option Addr} {cap : Nat} {v' : Value} (hx : XV w1 x t ao cap (fun j => j = d ∨ j = r)) (hv : RKv w2 x t' v') (ok : t'.Ok) (hs : XStep w1 w2 x (.slice ao t.b.length cap) v') : PB L w w2 d r x s t' := by
  have hd := h.kd.lt
  have hdx := h.dx
  have kept : ∀ j, j < w1.heap.size → (j = d ∨ j = r) → w2.heap[j]? = w1.heap[j]? := fun j h1 h2 => hs.block j h1 (fun e => by subst e; omega) (fun h3 => hx.ap j h3 h2)
  have hbel : Below L w w2 := h.kd.bel.trans ((hs.below hx.rv).mono h.lx)
  obtain ⟨ao', cap', hx'⟩ := hx.step hv ok (fun j hj => by rcases hj with e | e <;> subst e <;> omega) hs.fresh
  exact ⟨⟨h.kd.dk.kept (kept d hd.1 (.inl rfl)) (kept r hd.2 (.inr rfl)), hbel, Nat.le_trans h.kd.le hs.size, h.kd.d, h.kd.r⟩, ⟨ao', cap', hx'⟩, h.lx, h.dx⟩
theorem PB.pd (h : PB L w w1 d r x s s) : PD L w w1 d r x s := by
  obtain ⟨ao, cap, hx⟩ := h.xv
  exact ⟨h.kd, hx.rv.shut hx.ok, h.dx.1, h.dx.2⟩
end

set_option maxRecDepth 100000 in
set_option maxHeartbeats 16000000 in
theorem lreads_any (bo : Option Addr) (bl bc : Nat) (l1 : List UInt8) (n : Int) (ro : Option Addr) (rl rc : Nat) (l2 : List UInt8) (w : World) (hbl : l1.length = bl) (hb : Reads w (.slice bo bl bc) (B l1)) (hbc : bl ≤ bc) (hbm : bc ≤ maxLen) (hrl : l2.length = rl) (hr : Reads w (.slice ro rl rc) (B l2)) :
    Calls Try.prog 4 #[.slice bo bl bc, .int .i64 n, .slice ro rl rc] w fun e w' => e = .returned (.bool true) ∧ Below w.heap.size w w' := by
  obtain ⟨i0, hi, hz0, hz1, hz2⟩ := info_parts Try.infoByte
  obtain ⟨L, hL⟩ : ∃ L, w.heap.size = L := ⟨_, rfl⟩
  have HL := hid hL
  rw [hL]
  clear hL
  have HB := hid (show ∀ wx, Below L w wx → Reads wx (.slice bo bl bc) (B l1) from fun wx h => hb.later (by rw [HL.out]; exact h))
  have HR := hid (show ∀ wx, Below L w wx → Reads wx (.slice ro rl rc) (B l2) from fun wx h => hr.later (by rw [HL.out]; exact h))
  have HBL := hid hbl
  have HRL := hid hrl
  clear hb hr hbl hrl
  go_enter Try.func4, Try.ntmps4
  go_wp2_with fail
  refine (known11_any _).mono ?_
  rintro _ w1 ⟨rfl, hb1⟩
  have Hb1 := hid (show Below L w w1 by rw [← HL.out]; exact hb1)
  have HL1 := hid (show L ≤ w1.heap.size by rw [← HL.out]; exact hb1.size)
  clear hb1
  by_cases h200 : (200 : Int) < (bl : Int)
  · go_wp2_with fail
    go_ret
    exact ⟨rfl, Hb1.out⟩
  by_cases h100 : (100 : Int) < (rl : Int)
  · go_wp2_with fail
    go_ret
    exact ⟨rfl, Hb1.out⟩
  have hbl2 : bl ≤ 200 := by omega
  have hrl2 : rl ≤ 100 := by omega
  go_wp2_with fail
  refine (within11_any n ((rl : Int) + 3) (by omega) (by omega) _).mono ?_
  rintro _ wx ⟨rfl, hwx⟩
  rw [hwx]
  clear hwx wx
  obtain ⟨k, hk⟩ : ∃ k : Nat, n % ((rl : Int) + 3) = (k : Int) := ⟨(n % ((rl : Int) + 3)).toNat, by have := Int.emod_nonneg n (b := (rl : Int) + 3) (by omega); omega⟩
  have hk2 : k < 103 := by have := Int.emod_lt_of_pos n (b := (rl : Int) + 3) (by omega); omega
  rw [hk]
  clear hk
  have HH8 := hid (head8 w1 5 (k : Int) (by omega) (by omega))
  have HB8 := hid (Hb1.out.alloc HL1.out (.cells #[.int .u8 (k : Int), .int .u8 0, .int .u8 0, .int .u8 0, .int .u8 0, .int .u8 0, .int .u8 0, .int .u8 0] 5))
  have hk3 : ((k : Int) % 256) = (k : Int) := by omega
  obtain ⟨n8, hn8⟩ : ∃ n8, 8 + rl + bl = n8 := ⟨_, rfl⟩
  have hn8b : n8 ≤ 308 := by omega
  have HN8E := hid hn8
  clear hn8
  have HS8 := hid (show L ≤ (w1.alloc (.cells #[.int .u8 (k : Int), .int .u8 0, .int .u8 0, .int .u8 0, .int .u8 0, .int .u8 0, .int .u8 0, .int .u8 0] 5)).heap.size by rw [← HL.out]; exact HB8.out.size)
  go_wp2_with (first
    | (at_builtin; show wpList _ _ _ (⟨some 38, _, _, _, _, _⟩ :: _) _ _; go_must (refine wpList_append_any rfl _ _ 37 37 rfl 5 i0 (.int .u8 0) Try.underlying37 hi hz0 hz1 hz2 rfl L _ 8 (B [UInt8.ofNat (k : Int).toNat, 0, 0, 0, 0, 0, 0, 0]) rfl (HH8.out.mono HL1.out) HS8.out _ rl (B l2) rfl (Src.ofBytes _ Try.underlying37 HRL.out (HR.out _ HB8.out)) (by omega) ?_); go_must (intro v2 w2 hH2 hb2; rw [← B_append] at hH2; obtain ⟨a2, k2, rfl⟩ := hH2.form; have HH2 := hid hH2; have Hb2 := hid (HB8.out.trans hb2); clear hH2 hb2))
    | (at_builtin; show wpList _ _ _ (⟨some 40, _, _, _, _, _⟩ :: _) _ _; go_must (refine wpList_append_any rfl _ _ 37 37 rfl 5 i0 (.int .u8 0) Try.underlying37 hi hz0 hz1 hz2 rfl L _ (8 + rl) _ rfl HH2.out (by rw [← HL.out]; exact Hb2.out.size) _ bl (B l1) rfl (Src.ofBytes _ Try.underlying37 HBL.out (HB.out _ Hb2.out)) (by omega) ?_); go_must (intro v3 w3 hH3 hb3; rw [← B_append] at hH3; rw [HN8E.out] at hH3; obtain ⟨a3, k3, rfl⟩ := hH3.form; have HH3 := hid hH3; have Hb3 := hid (Hb2.out.trans hb3); clear hH3 hb3)))
  have HS3 := hid (show L ≤ w3.heap.size by rw [← HL.out]; exact Hb3.out.size)
  have HC6 := hid (Blk.new w3 37 [.slice bo bl bc, .slice a3 n8 k3])
  have Hb6 := hid (Hb3.out.alloc HS3.out (.cells #[.slice bo bl bc, .slice a3 n8 k3] 37))
  have HR6 := hid ((HH3.out.later ((Below.refl w3.heap.size w3).alloc (Nat.le_refl _) (.cells #[.slice bo bl bc, .slice a3 n8 k3] 37))).reads)
  have HN8 := hid (show (([UInt8.ofNat (k : Int).toNat, 0, 0, 0, 0, 0, 0, 0] ++ l2) ++ l1).length = n8 by rw [List.length_append, List.length_append, HRL.out, HBL.out, ← HN8E.out]; rfl)
  have HB6 := hid (HB.out _ Hb6.out)
  generalize ([UInt8.ofNat (k : Int).toNat, 0, 0, 0, 0, 0, 0, 0] ++ l2) ++ l1 = l3 at *
  generalize hg : w3.heap.size = g at *
  obtain ⟨w6, hw6⟩ : ∃ w6, w3.alloc (.cells #[.slice bo bl bc, .slice a3 n8 k3] 37) = w6 := ⟨_, rfl⟩
  have hw6' : w3.alloc (.cells [.slice bo bl bc, .slice a3 n8 k3].toArray 37) = w6 := hw6
  rw [hw6] at Hb6 HR6 HB6
  rw [hw6'] at HC6
  have HIN := hid (show ∀ j, j < 2 → ∃ po pl pc l, List.length l = pl ∧ pl ≤ 308 ∧ ∀ wx, Below w6.heap.size w6 wx → wx.cell? ⟨g, j, none⟩ = some (.slice po pl pc) ∧ Reads wx (.slice po pl pc) (B l) from fun j hj => by
    rcases j with _ | _ | j
    · exact ⟨bo, bl, bc, l1, HBL.out, by omega, fun wx h => ⟨cell_later h (HC6.out.cell rfl), HB6.out.later h⟩⟩
    · exact ⟨a3, n8, k3, l3, HN8.out, hn8b, fun wx h => ⟨cell_later h (HC6.out.cell rfl), HR6.out.later h⟩⟩
    · omega)
  clear HN8E HH3 HH2 HH8 HS8 HC6 HR6 HN8 HB6 HB HR HBL HRL Hb3 Hb2 HB8 HS3 hw6'
  go_wp2_with fail
  rw [hw6]
  clear hw6 hg
  go_loopw [10] (fun i wr => ∃ j : Nat, j ≤ 2 ∧ i = .int .i64 j ∧ Below w6.heap.size w6 wr) (fun i _ => 2 - (intOf i).toNat)
  case atStart => exact ⟨0, by omega, rfl, Below.refl _ _⟩
  case round =>
    obtain ⟨j, hj, rfl, hbr⟩ := hrel
    have HBR := hid hbr
    clear hbr
    by_cases hj2 : j = 2
    · subst hj2
      go_wp2_with fail
      go_ret
      exact ⟨rfl, Hb6.out.trans (HBR.out.mono (by rw [← HL.out]; exact Hb6.out.size))⟩
    have hj3 : j < 2 := by omega
    have hj4 : (j : Int) < 2 := by omega
    obtain ⟨po, pl, pc, l, hpl, hpl2, hin⟩ := HIN.out j hj3
    have HPL := hid hpl
    have HE := hid hin
    clear hpl hin hj2
    obtain ⟨q, hq⟩ : ∃ q, (recs l).1.length = q := ⟨_, rfl⟩
    have hq2 : q ≤ 308 := by have := recs_many l.length l (Nat.le_refl _); have := HPL.out; omega
    have HQ := hid hq
    clear hq
    have HNA := hid (show (Dk.new (1000 : Int)).app l = (0, ⟨l, 0, 1000, 0, false⟩) from fresh_app 1000 (by rfl) l (by have := HPL.out; omega))
    have HON := hid (on_reads l 1000)
    go_wp2_with fail
    refine (kNew_at (L := w6.heap.size) (w := w6) 1000 HBR.out HBR.out.size).mono ?_
    rintro _ wa ⟨d, r, rfl, hK, _, _, _⟩
    have HKa := hid hK
    clear hK
    go_wp2_with fail
    refine (xNew_any 1000 _).mono ?_
    rintro _ wb ⟨rfl, hR, hb⟩
    have HPb := hid (PB.new HKa.out hR hb (Nat.le_refl _))
    clear hR hb HKa
    generalize wa.heap.size = x at *
    have hc := (HE.out _ HPb.out.kd.bel).1
    go_wp2_with fail
    refine (kAppend_at HPb.out.kd _ l (HE.out _ HPb.out.kd.bel).2 (by have := HPL.out; omega) 0 ⟨l, 0, 1000, 0, false⟩ HNA.out).mono ?_
    rintro _ wc ⟨rfl, hK, ho⟩
    have HPc := hid (HPb.out.stepK hK ho)
    clear hK ho hc HPb
    have hc := (HE.out _ HPc.out.kd.bel).1
    obtain ⟨xo, xc, hx⟩ := HPc.out.xv
    have HX := hid hx
    clear hx
    go_wp2_with fail
    refine (xAppend_v x _ xo xc _ l _ HX.out.rv HX.out.ok (HE.out _ HPc.out.kd.bel).2 (by have := HPL.out; omega)).mono ?_
    rintro _ wd ⟨v1, rfl, hv, hs⟩
    have HPd := hid (HPc.out.stepX HX.out hv (Dk.app_ok _ HX.out.ok l) hs)
    rw [HNA.out] at HPd
    rw [HNA.out]
    clear hv hs HX HPc hc
    obtain ⟨yo, yc, hx⟩ := HPd.out.xv
    have HX := hid hx
    clear hx
    go_wp2_with fail
    refine (lgOpen_at HPd.out.kd (recs l).1 _ q HON.out HQ.out).mono ?_
    rintro _ we ⟨qa, ra, rb, rfl, hD, hR, ho, _⟩
    have HPe := hid (HPd.out.stepK hD.kd ho)
    have HXe := hid (HX.out.only ho HPd.out.dx)
    have HBKe := hid (fun k h => (HX.out.rv.bk (k := k) h).2)
    have HLX := hid (show x < wd.heap.size from HX.out.rv.lt)
    have HRe := hid hR
    clear hD hR ho HX HPd
    go_wp2_with fail
    refine (yOpen_any x _ yo yc HXe.out.c1 HXe.out.c2 _ HXe.out.rv HXe.out.ok).mono ?_
    rintro _ wf ⟨v2, hv, hs, hcase⟩
    have HPf := hid (HPe.out.stepX HXe.out hv (openS_ok HXe.out.ok) hs)
    have HRf := hid (HRe.out.keptAt fun k h1 h2 => hs.block k h2 (by have := HLX.out; omega) (fun h => by have := HBKe.out k h; omega)).parts
    rw [HON.out] at hcase HPf
    rcases hcase with ⟨h, _⟩ | ⟨_, q2, rv, rfl, _, _, hRW⟩
    · exact absurd rfl h
    have HR2 := hid hRW.parts
    obtain ⟨rc2, rd2, rfl⟩ := hRW.form
    clear hv hs hRW HPe HXe HBKe HRe HLX
    go_wp2_with fail
    refine (rows11_any _ _ (recs l).1 _ (by rw [HQ.out]; omega) HRf.out HR2.out).mono ?_
    rintro _ wg ⟨rfl, hb⟩
    have HPg := hid (HPf.out.pd.later hb)
    clear hb HPf HRf HR2
    go_wp2_with fail
    refine (same10_any HPg.out).mono ?_
    rintro _ wh ⟨rfl, hP, _⟩
    have HPh := hid hP
    clear hP HPg
    go_wp2_with fail
    go_roundw
    case rel => exact ⟨j + 1, by omega, by go_num, HPh.out.kd.bel⟩
    case measure => simp [intOf]; omega
theorem lreads_row (W : World) (a : Option Addr) (len cap : Nat) (zs : List Int) (h : IsRow .u8 W a len cap zs) (p : Int) (wp_ : (Lit.int .i64 p).wf = true) (a2 : Option Addr) (len2 cap2 : Nat) (zs2 : List Int) (h2 : IsRow .u8 W a2 len2 cap2 zs2) (_u : World) :
    Calls Try.prog 4 #[.slice a len cap, .int .i64 p, .slice a2 len2 cap2] W fun e w' => e = .returned (.bool true) ∧ Below W.heap.size W w' := by
  obtain ⟨l, h3, h4, h5, h6⟩ := bytes_arg h
  obtain ⟨l2, k3, k4, k5, k6⟩ := bytes_arg h2
  exact lreads_any a len cap l p a2 len2 cap2 l2 W h3 h6 h4 h5 k3 k6
end Go.Proofs.Ytifdoneffnfogaa

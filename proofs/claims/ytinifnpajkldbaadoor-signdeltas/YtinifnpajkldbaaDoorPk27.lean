/- Texts laid together: ReadS8, DRead, DRead2. -/
import Derived.Test.YtinifnpajkldbaaDoorPk3
import Derived.Test.YtinifnpajkldbaaDoorPk26
import Derived.Test.YtinifnpajkldbaaDoorPk4

/- How an operation and a delta are read: functions of what a Reader holds. -/
namespace Go.Proofs.YtinifnpajkldbaaDoor
open Go.RowKit
set_option linter.unusedSimpArgs false
set_option linter.unusedVariables false

def intV (s : St) : Int := intR (jn 8 0 0 s)
def intN (s : St) : St := (jn 8 0 0 s).2
def txtV (s : St) : List UInt8 := (textR (jn 2 0 0 s)).1
def txtN (s : St) : St := (textR (jn 2 0 0 s)).2

theorem intN_len (s : St) : (intN s).1.length ≤ s.1.length := jn_len 8 0 0 s
theorem failS_len (s : St) (e : Int) : (failS s e).1.length ≤ s.1.length := by unfold failS; split <;> simp
theorem txtN_len (s : St) : (txtN s).1.length ≤ s.1.length := by
  have h := jn_len 2 0 0 s
  unfold txtN textR
  split
  · simp; omega
  · exact Nat.le_trans (failS_len _ _) h
theorem txtV_len (s : St) : (txtV s).length ≤ 65535 := by
  have h := jn_lt 2 0 0 s (by simp)
  unfold txtV textR
  split
  · simp; omega
  · simp

def partV (s : St) : Cp := ⟨byteS s, intV (nextS s), ⟨(txtV (intN (nextS s))).toArray⟩⟩
def partN (s : St) : St := txtN (intN (nextS s))
theorem partN_len (s : St) : (partN s).1.length ≤ s.1.length := Nat.le_trans (txtN_len _) (Nat.le_trans (intN_len _) (nextS_len _))
theorem partV_size (s : St) : (partV s).s.size ≤ 65535 := txtV_len _
def partsV : Nat → St → List Cp
  | 0, _ => []
  | n + 1, s => partV s :: partsV n (partN s)
def partsE : Nat → St → St
  | 0, s => s
  | n + 1, s => partsE n (partN s)
theorem partsV_len : ∀ (n : Nat) (s : St), (partsV n s).length = n
  | 0, _ => rfl
  | n + 1, s => by rw [partsV, List.length_cons, partsV_len]
theorem partsV_size : ∀ (n : Nat) (s : St), ∀ c ∈ partsV n s, c.s.size ≤ 65535
  | 0, _, c, h => by simp [partsV] at h
  | n + 1, s, c, h => by
    rw [partsV, List.mem_cons] at h
    rcases h with rfl | h
    · exact partV_size s
    · exact partsV_size n _ c h
theorem partsE_len : ∀ (n : Nat) (s : St), (partsE n s).1.length ≤ s.1.length
  | 0, _ => Nat.le_refl _
  | n + 1, s => Nat.le_trans (partsE_len n _) (partN_len s)

/-- Where there is an error nothing is read. -/
theorem next_err {s : St} (h : s.2 ≠ 0) : nextS s = s := by simp [nextS, h]
theorem int_err {s : St} (h : s.2 ≠ 0) : intN s = s := by unfold intN; rw [jn_err 8 0 0 s h]
theorem txt_err {s : St} (h : s.2 ≠ 0) : txtN s = s := by
  unfold txtN textR
  rw [jn_err 2 0 0 s h, if_neg (fun e => h e.1)]
  simp [failS, h]
theorem part_err {s : St} (h : s.2 ≠ 0) : partN s = s := by unfold partN; rw [next_err h, int_err h, txt_err h]
theorem parts_err : ∀ (n : Nat) {s : St}, s.2 ≠ 0 → partsE n s = s
  | 0, _, _ => rfl
  | n + 1, s, h => by rw [partsE, part_err h, parts_err n h]
theorem endS_err {s : St} (h : s.2 ≠ 0) : endS s = s.2 := by simp [endS, h]

/-- An operation, read: its parts and the error. -/
def opP (b : List UInt8) : List Cp × Int :=
  if 40 < byteS (b, 0) then ([], 4) else
  if endS (partsE (byteS (b, 0)) (nextS (b, 0))) ≠ 0 then ([], endS (partsE (byteS (b, 0)) (nextS (b, 0)))) else
  if chkS (partsV (byteS (b, 0)) (nextS (b, 0))) ≠ 0 then ([], chkS (partsV (byteS (b, 0)) (nextS (b, 0)))) else (partsV (byteS (b, 0)) (nextS (b, 0)), 0)

def hashV : Nat → St → List UInt8
  | 0, _ => []
  | n + 1, s => UInt8.ofNat (byteS s) :: hashV n (nextS s)
def hashN : Nat → St → St
  | 0, s => s
  | n + 1, s => hashN n (nextS s)
theorem hashV_len : ∀ (n : Nat) (s : St), (hashV n s).length = n
  | 0, _ => rfl
  | n + 1, s => by rw [hashV, List.length_cons, hashV_len]
theorem hashN_len : ∀ (n : Nat) (s : St), (hashN n s).1.length ≤ s.1.length
  | 0, _ => Nat.le_refl _
  | n + 1, s => Nat.le_trans (hashN_len n _) (nextS_len s)

/-- A delta's numbers, the text of its operation, and what is left. -/
def fldV (s : St) : Dl :=
  { aD := intV s, aU := intV (intN s), id := intV (intN (intN s)), ver := intV (intN (intN (intN s))), h := hashV 32 (intN (intN (intN (intN s)))),
    k := byteS (hashN 32 (intN (intN (intN (intN s))))), wD := intV (txtN (nextS (hashN 32 (intN (intN (intN (intN s))))))), wU := intV (intN (txtN (nextS (hashN 32 (intN (intN (intN (intN s)))))))) }
def fldT (s : St) : List UInt8 := txtV (nextS (hashN 32 (intN (intN (intN (intN s))))))
def fldN (s : St) : St := intN (intN (txtN (nextS (hashN 32 (intN (intN (intN (intN s))))))))
theorem fldV_len (s : St) : (fldV s).h.length = 32 := hashV_len 32 _
theorem fldT_len (s : St) : (fldT s).length ≤ 65535 := txtV_len _

/-- A delta, read: it, its operation, and the error. -/
def delP (b : List UInt8) : Dl × List Cp × Int :=
  if endS (fldN (b, 0)) ≠ 0 then (Dl.zero, [], endS (fldN (b, 0))) else
  if (opP (fldT (b, 0))).2 ≠ 0 then (Dl.zero, [], (opP (fldT (b, 0))).2) else
  if chkD (fldV (b, 0)) (opP (fldT (b, 0))).1 ≠ 0 then (Dl.zero, [], chkD (fldV (b, 0)) (opP (fldT (b, 0))).1) else (fldV (b, 0), (opP (fldT (b, 0))).1, 0)

theorem opP_size (b : List UInt8) : (∀ c ∈ (opP b).1, c.s.size ≤ 65535) ∧ (opP b).1.length ≤ 40 := by
  unfold opP
  split
  · exact ⟨fun c hc => by simp at hc, by simp⟩
  · split
    · exact ⟨fun c hc => by simp at hc, by simp⟩
    · split
      · exact ⟨fun c hc => by simp at hc, by simp⟩
      · exact ⟨partsV_size _ _, by rw [partsV_len]; omega⟩
end Go.Proofs.YtinifnpajkldbaaDoor

/- The contracts of package delta's part and parts. -/
namespace Go.Proofs.YtinifnpajkldbaaDoor
open Go.RowKit
variable {N : Nat}
set_option linter.unusedSimpArgs false
set_option linter.unusedVariables false

theorem Blk.grownAt {w w' : World} {t : TypeId} {q p : Nat} {cs : List Value} (h : Blk w t q cs) (hg : w.grownBy w' (some p)) (hne : q ≠ p) : Blk w' t q cs := h.kept (hg.block q h.lt (by simpa using hne))
theorem grownBy_own {w w' : World} {p q : Nat} (hq : w.heap.size ≤ q) (h : w.grownBy w' (some p)) (j : Nat) (v : Value) : w.grownBy (w'.setCell ⟨q, j, none⟩ v) (some p) :=
  grown_setCell h q j v (.inr hq)

set_option maxRecDepth 100000 in
set_option maxHeartbeats 2000000 in
theorem dPart_any (p : Nat) (s : St) (w : World) (hR : RD N w p s) (hm : s.1.length ≤ maxLen) (hN : N ≤ w.heap.size) :
    Calls Tryd.prog 97 #[.func (Fn.func 83) #[.pointer (some ⟨p, 0, none⟩)] #[], .func (Fn.func 80) #[.pointer (some ⟨p, 0, none⟩)] #[], .func (Fn.func 84) #[.pointer (some ⟨p, 0, none⟩)] #[]] w fun e w' =>
      e = .returned (.agg (partV s).vals.toArray) ∧ RD N w' p (partN s) ∧ w.grownBy w' (some p) := by
  obtain ⟨L, hL⟩ : ∃ L, w.heap.size = L := ⟨_, rfl⟩
  have hpl := hR.lt
  have HR0 := hid ((hR.later ((Below.refl _ _).alloc (Nat.le_refl _) (.cells #[.int .i64 0, .int .i64 0, .string ⟨#[]⟩] 62))).later ((Below.refl _ _).alloc (Nat.le_refl _) (.cells #[.int .i64 0, .int .i64 0, .string ⟨#[]⟩] 62)))
  have HB6 := hid (show Blk ((w.alloc (.cells #[.int .i64 0, .int .i64 0, .string ⟨#[]⟩] 62)).alloc (.cells #[.int .i64 0, .int .i64 0, .string ⟨#[]⟩] 62)) 62 L [.int .i64 0, .int .i64 0, .string ⟨#[]⟩] by rw [← hL]; exact (Blk.new w _ _).alloc _)
  have HB7 := hid (show Blk ((w.alloc (.cells #[.int .i64 0, .int .i64 0, .string ⟨#[]⟩] 62)).alloc (.cells #[.int .i64 0, .int .i64 0, .string ⟨#[]⟩] 62)) 62 (L + 1) [.int .i64 0, .int .i64 0, .string ⟨#[]⟩] by rw [← hL]; have := Blk.new (w.alloc (.cells #[.int .i64 0, .int .i64 0, .string ⟨#[]⟩] 62)) 62 [.int .i64 0, .int .i64 0, .string ⟨#[]⟩]; rwa [show (w.alloc (.cells #[.int .i64 0, .int .i64 0, .string ⟨#[]⟩] 62)).heap.size = w.heap.size + 1 by simp] at this)
  have HG0 := hid (show w.grownBy ((w.alloc (.cells #[.int .i64 0, .int .i64 0, .string ⟨#[]⟩] 62)).alloc (.cells #[.int .i64 0, .int .i64 0, .string ⟨#[]⟩] 62)) (some p) from grown_alloc (grown_alloc (World.grownBy.refl _ _) _) _)
  have HM := hid hm
  clear hR hm
  go_enter Tryd.func97, Tryd.ntmps97
  go_wp2_with fail
  generalize (w.alloc (.cells #[.int .i64 0, .int .i64 0, .string ⟨#[]⟩] 62)).alloc (.cells #[.int .i64 0, .int .i64 0, .string ⟨#[]⟩] 62) = w0 at *
  try rw [hL]
  have hpL : L ≠ p := by omega
  have hpL1 : L + 1 ≠ p := by omega
  refine (Byte_any p s _ HR0.out HM.out).mono ?_
  rintro _ w1 ⟨rfl, hR1, hg1⟩
  have HA1 := hid (HB6.out.grownAt hg1 hpL)
  have HB1 := hid (HB7.out.grownAt hg1 hpL1)
  have c0 := HB1.out.cell (j := 0) rfl
  have f0 := HB1.out.frozen 0
  have HR1 := hid (hR1.apart (grownC w1 (L + 1) 0 (.int .i64 (byteS s : Nat))) (by omega) (fun e => hpL1 e.symm))
  have HG1 := hid (grownBy_own (by omega) (grownT HG0.out hg1) (q := L + 1) 0 (.int .i64 (byteS s : Nat)))
  replace HA1 := hid (HA1.out.grownAt (grownC w1 (L + 1) 0 (.int .i64 (byteS s : Nat))) (by omega))
  replace HB1 := hid (HB1.out.setCell 0 (.int .i64 (byteS s : Nat)))
  clear hR1 hg1 HR0 HB6 HB7 HG0
  go_wp2_with fail
  generalize w1.setCell ⟨L + 1, 0, none⟩ (.int .i64 (byteS s : Nat)) = w2 at *
  refine (Int_any p (nextS s) _ HR1.out (Nat.le_trans (nextS_len s) HM.out)).mono ?_
  rintro _ w3 ⟨rfl, hR3, hg3⟩
  change RD N w3 p (intN (nextS s)) at hR3
  rw [show intR (jn 8 0 0 (nextS s)) = intV (nextS s) from rfl]
  have HA3 := hid (HA1.out.grownAt hg3 hpL)
  have HB3 := hid (HB1.out.grownAt hg3 hpL1)
  clear c0 f0
  have c1 := HB3.out.cell (j := 1) rfl
  have f1 := HB3.out.frozen 1
  have HR3 := hid (hR3.apart (grownC w3 (L + 1) 1 (.int .i64 (intV (nextS s)))) (by omega) (fun e => hpL1 e.symm))
  have HG3 := hid (grownBy_own (by omega) (grownT HG1.out hg3) (q := L + 1) 1 (.int .i64 (intV (nextS s))))
  replace HA3 := hid (HA3.out.grownAt (grownC w3 (L + 1) 1 (.int .i64 (intV (nextS s)))) (by omega))
  replace HB3 := hid (HB3.out.setCell 1 (.int .i64 (intV (nextS s))))
  clear hR3 hg3 HR1 HA1 HB1 HG1
  go_wp2_with fail
  generalize w3.setCell ⟨L + 1, 1, none⟩ (.int .i64 (intV (nextS s))) = w4 at *
  refine (Text_any p (intN (nextS s)) _ HR3.out (Nat.le_trans (intN_len _) (Nat.le_trans (nextS_len s) HM.out))).mono ?_
  rintro _ w5 ⟨rfl, hR5, hg5⟩
  change RD N w5 p (partN s) at hR5
  rw [show (textR (jn 2 0 0 (intN (nextS s)))).1 = txtV (intN (nextS s)) from rfl]
  have HA5 := hid (HA3.out.grownAt hg5 hpL)
  have HB5 := hid (HB3.out.grownAt hg5 hpL1)
  obtain ⟨X, hX⟩ : ∃ X : ByteArray, (⟨(txtV (intN (nextS s))).toArray⟩ : ByteArray) = X := ⟨_, rfl⟩
  rw [hX]
  clear c1 f1
  have c0 := HB5.out.cell (j := 0) rfl
  have c1 := HB5.out.cell (j := 1) rfl
  have c2 := HB5.out.cell (j := 2) rfl
  have f2 := HB5.out.frozen 2
  have a0 := HA5.out.cell (j := 0) rfl
  have a1 := HA5.out.cell (j := 1) rfl
  have a2 := HA5.out.cell (j := 2) rfl
  have b0 := HA5.out.frozen 0
  have b1 := HA5.out.frozen 1
  have b2 := HA5.out.frozen 2
  have HR5 := hid hR5
  have HG5 := hid (grownT HG3.out hg5)
  clear hR5 hg5 HR3 HA3 HB3 HG3
  go_wp2_with fail
  have hB := (((HA5.out.grownAt (grownC w5 (L + 1) 2 (.string X)) (by omega)).setCell 0 (.int .i64 (byteS s : Nat))).setCell 1 (.int .i64 (intV (nextS s)))).setCell 2 (.string X)
  have hE : partV s = ⟨byteS s, intV (nextS s), X⟩ := by rw [partV, hX]
  refine ret_cell 6 62 rfl L rfl [.int .i64 (byteS s : Nat), .int .i64 (intV (nextS s)), .string X] _ (hB.range fun j v hv => by rw [Nat.zero_add]; exact hv) Tryd.underlying62 rfl (by kernel_rfl) rfl ⟨by rw [hE]; rfl, ?_, ?_⟩
  · exact (((HR5.out.apart (grownC _ (L + 1) 2 _) (by omega) (fun e => hpL1 e.symm)).apart (grownC _ L 0 _) (by omega) (fun e => hpL e.symm)).apart (grownC _ L 1 _) (by omega) (fun e => hpL e.symm)).apart (grownC _ L 2 _) (by omega) (fun e => hpL e.symm)
  · exact grownBy_own (by omega) (grownBy_own (by omega) (grownBy_own (by omega) (grownBy_own (by omega) HG5.out 2 _) 0 _) 1 _) 2 _
end Go.Proofs.YtinifnpajkldbaaDoor

/- The contracts of package delta's parts and OpParse. -/
namespace Go.Proofs.YtinifnpajkldbaaDoor
open Go.RowKit
variable {N : Nat}
set_option linter.unusedSimpArgs false
set_option linter.unusedVariables false

theorem below_fld {Bd : Nat} {w w' : World} (h : w.heap.size ≤ w'.heap.size → Below Bd w w') (hs : w.heap.size ≤ w'.heap.size) : Below Bd w w' := h hs
theorem RdN.below {w w' : World} {Bd : Nat} {ao : Option Addr} {k cap : Nat} {l : List UInt8} (h : RdN N w ao k cap l) (hb : Below Bd w w') (hN : N ≤ Bd) : RdN N w' ao k cap l := ⟨by
  obtain ⟨a, c, e, h1, h2, h3⟩ := h.reads
  injection e with e1 e2 e3
  subst e1 e2 e3
  refine ⟨ao, cap, rfl, h1, h2, fun ad he j u hj => ?_⟩
  have hl : 0 < l.length := by
    have := (List.getElem?_eq_some_iff.1 hj).1
    rw [B_length] at this
    omega
  have h4 := h.blk ad he hl
  have hc : (ad.add j).block = ad.block := by unfold Addr.add; split <;> rfl
  have h5 := h3 ad he j u hj
  have h6 := hb.block ad.block (by omega)
  simp only [World.cell?, hc] at h5 ⊢
  rw [h6]
  exact h5, h.blk⟩
theorem RD.below {w w' : World} {Bd p : Nat} {s : St} (h : RD N w p s) (hb : Below Bd w w') (hN : N ≤ Bd) (hp : p < Bd) : RD N w' p s := by
  obtain ⟨ao, cap, hh, hr⟩ := h
  exact ⟨ao, cap, by rw [hb.block p hp]; exact hh, hr.below hb hN⟩
theorem HasC.grownAt {w w' : World} {Bd p : Nat} {v : Value} {o : List Cp} (h : HasC w Bd v o) (hg : w.grownBy w' (some p)) (hp : p < Bd) : HasC w' Bd v o := by
  rcases h with h | ⟨g, cap, cur, rfl, h1, h2, h3, h4, h5, h6⟩
  · exact .inl h
  · exact .inr ⟨g, cap, cur, rfl, h1, h2, h3, by rw [hg.block g (Array.getElem?_eq_some_iff.1 h4).1 (by simp; omega)]; exact h4, h5, h6⟩
theorem grown_below' {w w1 w2 : World} {r : Option Nat} (h : w.grownBy w1 r) (hb : Below w.heap.size w1 w2) : w.grownBy w2 r :=
  ⟨hb.os.trans h.os, hb.tape.trans h.tape, hb.output.trans h.output, Nat.le_trans h.size hb.size, fun k hk hne => by rw [hb.block k hk, h.block k hk hne]⟩

/-- What parts answers. -/
def PartsR (N : Nat) (w : World) (p : Nat) (s : St) (v : Value) (w' : World) : Prop :=
  if 40 < byteS s then v = .slice none 0 0 ∧ RD N w' p (failS (nextS s) 4) else HasC w' w.heap.size v (partsV (byteS s) (nextS s)) ∧ RD N w' p (partsE (byteS s) (nextS s))

set_option maxRecDepth 100000 in
set_option maxHeartbeats 4000000 in
theorem dParts_any (p : Nat) (s : St) (w : World) (hR : RD N w p s) (hm : s.1.length ≤ maxLen) (hN : N ≤ w.heap.size) :
    Calls Tryd.prog 85 #[.pointer (some ⟨p, 0, none⟩)] w fun e w' => ∃ v, e = .returned v ∧ PartsR N w p s v w' ∧ w.grownBy w' (some p) := by
  have hpl := hR.lt
  have HR := hid hR
  have HM := hid hm
  obtain ⟨n, hn⟩ : ∃ n, byteS s = n := ⟨_, rfl⟩
  clear hR hm
  have HP := hid (show ∀ v w', (if 40 < n then v = .slice none 0 0 ∧ RD N w' p (failS (nextS s) 4) else HasC w' w.heap.size v (partsV n (nextS s)) ∧ RD N w' p (partsE n (nextS s))) → PartsR N w p s v w' by
    intro v w' h; unfold PartsR; rw [hn]; exact h)
  go_enter Tryd.func85, Tryd.ntmps85
  go_wp2_with fail
  refine wp_scope_at 0 (fun a' w' => ∃ (k : Nat) (s1 : St) (vo : Value) (acc : List Cp), a' = ⟨#[.pointer (some ⟨p, 0, none⟩), a'.tmps.getD 1 undef, a'.tmps.getD 2 undef, vo, .func (Fn.func 83) #[.pointer (some ⟨p, 0, none⟩)] #[], .func (Fn.func 80) #[.pointer (some ⟨p, 0, none⟩)] #[], .func (Fn.func 84) #[.pointer (some ⟨p, 0, none⟩)] #[], .int .i64 (k : Nat), a'.tmps.getD 8 undef, a'.tmps.getD 9 undef, a'.tmps.getD 10 undef, a'.tmps.getD 11 undef, a'.tmps.getD 12 undef, a'.tmps.getD 13 undef, a'.tmps.getD 14 undef, a'.tmps.getD 15 undef, a'.tmps.getD 16 undef, a'.tmps.getD 17 undef, a'.tmps.getD 18 undef, a'.tmps.getD 19 undef, a'.tmps.getD 20 undef, a'.tmps.getD 21 undef, a'.tmps.getD 22 undef, a'.tmps.getD 23 undef, a'.tmps.getD 24 undef, a'.tmps.getD 25 undef, a'.tmps.getD 26 undef, a'.tmps.getD 27 undef, a'.tmps.getD 28 undef, a'.tmps.getD 29 undef, a'.tmps.getD 30 undef, a'.tmps.getD 31 undef], []⟩ ∧ n ≤ 40 ∧ acc.length + k = n ∧ RD N w' p s1 ∧ s1.1.length ≤ maxLen ∧ HasC w' w.heap.size vo acc ∧ w.grownBy w' (some p) ∧ acc ++ partsV k s1 = partsV n (nextS s) ∧ partsE k s1 = partsE n (nextS s))
    (fun a' _ => (intOf (a'.tmps.getD 7 undef)).toNat) rfl ?pass ?first
  case first =>
    intro hy
    have HY := hid hy
    clear hy
    go_wp2_with fail
    refine (Byte_any p s _ HR.out HM.out).mono ?_
    rintro _ w1 ⟨rfl, hR1, hg1⟩
    rw [hn]
    have HR1 := hid hR1
    have HG1 := hid hg1
    clear hR1 hg1
    by_cases h40 : 40 < n
    · have h40' : (40 : Int) < (n : Int) := by omega
      go_wp2_with fail
      refine (Fail_any p (nextS s) 4 _ HR1.out).mono ?_
      rintro _ w2 ⟨rfl, hR2, hg2⟩
      have HX := hid (HP.out (.slice none 0 0) w2 (by rw [if_pos h40]; exact ⟨rfl, hR2⟩))
      have HG2 := hid (grownT HG1.out hg2)
      clear hR2 hg2
      go_wp2_with fail
      simp only [Exit.jump]
      go_ret
      exact ⟨_, rfl, HX.out, HG2.out⟩
    · have h40' : ¬ (40 : Int) < (n : Int) := by omega
      go_wp2_with fail
      rename_i hK
      exact wp_label (hK _ _ (HY.out _ _ ⟨n, nextS s, _, [], rfl, by omega, by simp, HR1.out, Nat.le_trans (nextS_len s) HM.out, HasC.nil _ _, HG1.out, rfl, rfl⟩))
  case pass =>
    rintro a' w' ⟨k, s1, vo, acc, ha, hn40, hk, hR1, hm1, hH, hg, hV, hE⟩
    obtain ⟨f, ha2⟩ : ∃ f : Nat → Value, a' = ⟨#[.pointer (some ⟨p, 0, none⟩), f 1, f 2, vo, .func (Fn.func 83) #[.pointer (some ⟨p, 0, none⟩)] #[], .func (Fn.func 80) #[.pointer (some ⟨p, 0, none⟩)] #[], .func (Fn.func 84) #[.pointer (some ⟨p, 0, none⟩)] #[], .int .i64 (k : Nat), f 8, f 9, f 10, f 11, f 12, f 13, f 14, f 15, f 16, f 17, f 18, f 19, f 20, f 21, f 22, f 23, f 24, f 25, f 26, f 27, f 28, f 29, f 30, f 31], []⟩ := ⟨fun j => a'.tmps.getD j undef, ha⟩
    clear ha
    subst ha2
    obtain ⟨av, cv, rfl⟩ := hH.form
    have HR1 := hid hR1
    have HM1 := hid hm1
    have HH := hid hH
    have HG := hid hg
    have HV := hid hV
    have HE := hid hE
    have HL := hid hk
    clear hR1 hm1 hH hg hV hE hn
    cases k with
    | zero =>
      have HX := hid (HP.out (.slice av acc.length cv) w' (by
        rw [if_neg (by omega)]
        have h1 := HV.out
        have h2 := HE.out
        simp only [partsV, partsE, List.append_nil] at h1 h2
        rw [← h1, ← h2]
        exact ⟨HH.out, HR1.out⟩))
      go_wp2_with fail
      simp only [Exit.jump]
      go_ret
      exact ⟨_, rfl, HX.out, HG.out⟩
    | succ k =>
      have hne : (((k + 1 : Nat) : Int) == 0) = false := by simp; omega
      have hka : acc.length + 1 ≤ 40 := by omega
      have hkb : (k : Int) ≤ 40 := by omega
      have hpw : p < w'.heap.size := HR1.out.lt
      have hsz : w.heap.size ≤ w'.heap.size := HG.out.size
      clear hk
      go_wp2_with fail
      refine (dPart_any (N := N) p s1 _ HR1.out HM1.out (by omega)).mono ?_
      rintro _ w2 ⟨rfl, hR2, hg2⟩
      obtain ⟨c, hc⟩ : ∃ c, partV s1 = c := ⟨_, rfl⟩
      rw [hc]
      have HC := hid hc
      clear hc
      obtain ⟨ck, cn, cx⟩ := c
      have HR2 := hid (hR2.later ((Below.refl _ _).alloc (Nat.le_refl _) (.cells #[.int .i64 ck, .int .i64 cn, .string cx] 62)))
      have HH2 := hid ((HH.out.grownAt hg2 hpl).later ((Below.refl _ _).alloc (Nat.le_refl _) (.cells #[.int .i64 ck, .int .i64 cn, .string cx] 62)))
      have HG2 := hid (show w.grownBy (w2.alloc (.cells #[.int .i64 ck, .int .i64 cn, .string cx] 62)) (some p) from grown_alloc (grownT HG.out hg2) _)
      have hs2 : w.heap.size ≤ w2.heap.size := (grownT HG.out hg2).size
      have HN := hid (show RC (w2.alloc (.cells #[.int .i64 ck, .int .i64 cn, .string cx] 62)) (.slice (some ⟨w2.heap.size, 0, none⟩) 1 1) [⟨ck, cn, cx⟩] from (one_new w2 ⟨ck, cn, cx⟩ w.heap.size hs2).reads)
      have hsA : w.heap.size ≤ (w2.alloc (.cells #[.int .i64 ck, .int .i64 cn, .string cx] 62)).heap.size := HG2.out.size
      simp only [Cp.vals]
      clear hR2 hg2 HR1 HH HG
      go_wp2_with (at_builtin; go_must (refine wpList_append_c rfl _ _ rfl w.heap.size _ acc rfl HH2.out hsA _ [⟨ck, cn, cx⟩] rfl HN.out (by simp; omega) ?_); intro v3 w3 hH3 hb3)
      refine wp_goto ?_
      refine ⟨rfl, ⟨k, partN s1, v3, acc ++ [⟨ck, cn, cx⟩], rfl, hn40, by have := HL.out; simp; omega, HR2.out.below hb3 hN hpl, Nat.le_trans (partN_len s1) HM1.out, hH3, grown_below' HG2.out hb3, by have h1 := HV.out; rw [partsV, HC.out] at h1; simpa using h1, HE.out⟩, by simp [intOf]⟩

set_option maxRecDepth 100000 in
set_option maxHeartbeats 2000000 in
theorem dOpParse_any (v : Value) (b : List UInt8) (w : World) (hr : Reads w v (B b)) (hb : b.length ≤ 140737488355328) :
    Calls Tryd.prog 65 #[v] w fun e w' => ∃ v', e = .returned (.tuple #[v', .int .i64 (opP b).2]) ∧ HasC w' w.heap.size v' (opP b).1 ∧ Below w.heap.size w w' := by
  have hml : b.length ≤ maxLen := by unfold maxLen; omega
  go_enter Tryd.func65, Tryd.ntmps65
  go_wp2_with fail
  refine (New_any v b _ hr hb).mono ?_
  rintro _ w1 ⟨p, rfl, hp, hR1, hb1⟩
  have HR1 := hid hR1
  have Hb1 := hid hb1
  clear hR1 hb1 hr
  go_wp2_with fail
  refine (dParts_any (N := w1.heap.size) p (b, 0) _ HR1.out hml (Nat.le_refl _)).mono ?_
  rintro _ w2 ⟨v2, rfl, hP, hg2⟩
  have Hb2 := hid (below_at Hb1.out hg2 hp)
  unfold PartsR at hP
  have HSZ := hid Hb1.out.size
  clear hg2 Hb1
  by_cases h40 : 40 < byteS (b, 0)
  · rw [if_pos h40] at hP
    obtain ⟨rfl, hR2⟩ := hP
    have HO := hid (show opP b = ([], 4) by rw [opP, if_pos h40])
    have hs : failS (nextS (b, 0)) 4 = ([], 4) := by
      cases b with
      | nil => simp [byteS] at h40
      | cons x r => simp [nextS, failS]
    rw [hs] at hR2
    have HR2 := hid hR2
    clear hR2 hs h40
    go_wp2_with fail
    refine (End_any p ([], 4) _ HR2.out (Nat.zero_le _)).mono ?_
    rintro _ w3 ⟨rfl, hw3⟩
    rw [hw3, show endS ([], (4 : Int)) = 4 from rfl]
    clear hw3
    go_wp2_with fail
    go_ret2
    rw [HO.out]
    exact ⟨_, rfl, HasC.nil _ _, Hb2.out⟩
  · rw [if_neg h40] at hP
    obtain ⟨hH2, hR2⟩ := hP
    have HO := hid (show opP b = if endS (partsE (byteS (b, 0)) (nextS (b, 0))) ≠ 0 then ([], endS (partsE (byteS (b, 0)) (nextS (b, 0)))) else if chkS (partsV (byteS (b, 0)) (nextS (b, 0))) ≠ 0 then ([], chkS (partsV (byteS (b, 0)) (nextS (b, 0)))) else (partsV (byteS (b, 0)) (nextS (b, 0)), 0) by rw [opP, if_neg h40])
    have hll := partsV_len (byteS (b, 0)) (nextS (b, 0))
    have HZ := hid (partsV_size (byteS (b, 0)) (nextS (b, 0)))
    have HLE := hid (Nat.le_trans (partsE_len (byteS (b, 0)) (nextS (b, 0))) (Nat.le_trans (nextS_len (b, 0)) hml))
    generalize partsE (byteS (b, 0)) (nextS (b, 0)) = sE at *
    generalize partsV (byteS (b, 0)) (nextS (b, 0)) = oV at *
    have hol : oV.length ≤ 40 := by omega
    clear hll h40
    have HH2 := hid (hH2.mono HSZ.out)
    have HR2 := hid hR2
    clear hH2 hR2
    obtain ⟨av, cv, rfl⟩ := HH2.out.form
    go_wp2_with fail
    refine (End_any p sE _ HR2.out HLE.out).mono ?_
    rintro _ w3 ⟨rfl, hw3⟩
    rw [hw3]
    clear hw3
    obtain ⟨e, he⟩ : ∃ e, endS sE = e := ⟨_, rfl⟩
    rw [he] at HO ⊢
    clear he
    by_cases h0 : e = 0
    · subst h0
      go_wp2_with fail
      refine (Check_any _ oV _ HH2.out.reads (fun c hc => by have := HZ.out c hc; omega) (by omega)).mono ?_
      rintro _ w4 ⟨rfl, hb4⟩
      have HH4 := hid (HH2.out.later hb4)
      have Hb4 := hid (show Below w.heap.size w w4 from below_seq Hb2.out hb4)
      clear hb4 HH2 Hb2
      obtain ⟨r, hr⟩ : ∃ r, chkS oV = r := ⟨_, rfl⟩
      rw [hr] at HO ⊢
      clear hr
      by_cases hr0 : r = 0
      · subst hr0
        go_wp2_with fail
        go_ret2
        rw [HO.out, if_neg (by simp), if_neg (by simp)]
        exact ⟨_, rfl, HH4.out, Hb4.out⟩
      · have hne : (r == 0) = false := by simpa using hr0
        go_wp2_with fail
        go_ret2
        rw [HO.out, if_neg (by simp), if_pos hr0]
        exact ⟨_, rfl, HasC.nil _ _, Hb4.out⟩
    · have hne : (e == 0) = false := by simpa using h0
      go_wp2_with fail
      go_ret2
      rw [HO.out, if_pos h0]
      exact ⟨_, rfl, HasC.nil _ _, Hb2.out⟩
end Go.Proofs.YtinifnpajkldbaaDoor

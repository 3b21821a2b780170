/- Texts laid together: Take, Join, Int, Plain. -/
import Derived.Test.YtinifnpajkldbaaDoorPk2
import Derived.Test.YtinifnpajkldbaaDoorPk0

/- The contracts of a Reader's take and Byte. -/
namespace Go.Proofs.YtinifnpajkldbaaDoor
open Go.RowKit
variable {N : Nat}

theorem Reads.cap {w : World} {ao : Option Addr} {k cap : Nat} {l : List UInt8} (h : Reads w (.slice ao k cap) (B l)) : l.length ≤ cap := by
  obtain ⟨a, c, e, h1, _⟩ := h
  injection e with _ _ e3
  rw [e3]
  rwa [B_length] at h1

theorem add_add (a : Addr) (i j : Nat) : (a.add i).add j = a.add (i + j) := by
  unfold Addr.add
  by_cases hi : i = 0 <;> by_cases hj : j = 0 <;> simp [hi, hj, Nat.add_assoc]

theorem Reads.take {w : World} {ao : Option Addr} {cap : Nat} {l : List UInt8} (h : Reads w (.slice ao l.length cap) (B l)) {n : Nat} (hn : n ≤ l.length) : Reads w (.slice ao n cap) (B (l.take n)) := by
  have hc := h.cap
  obtain ⟨a, c, e, h1, h2, h3⟩ := h
  injection e with e1 e2 e3
  subst e1 e3
  have hl : (B (l.take n)).length = n := by rw [B_length, List.length_take]; omega
  refine ⟨ao, cap, by rw [hl], by rw [hl]; omega, h2, fun ad he j u hj => h3 ad he j u ?_⟩
  rw [B_get, List.getElem?_take] at hj
  rw [B_get]
  split at hj
  · exact hj
  · cases hj

theorem Reads.drop {w : World} {ao : Option Addr} {cap : Nat} {l : List UInt8} (h : Reads w (.slice ao l.length cap) (B l)) {n : Nat} (hn : n ≤ l.length) : Reads w (.slice (ao.map fun x => x.add n) (l.length - n) (cap - n)) (B (l.drop n)) := by
  have hc := h.cap
  obtain ⟨a, c, e, h1, h2, h3⟩ := h
  injection e with e1 e2 e3
  subst e1 e3
  have hl : (B (l.drop n)).length = l.length - n := by rw [B_length, List.length_drop]
  refine ⟨_, cap - n, by rw [hl], by rw [hl]; omega, ?_, ?_⟩
  · intro he
    have : ao = none := by cases ao with | none => rfl | some x => cases he
    have := h2 this
    omega
  · intro ad he j u hj
    cases ao with
    | none => cases he
    | some x =>
      cases he
      rw [add_add]
      refine h3 x rfl (n + j) u ?_
      rw [B_get] at hj ⊢
      rwa [List.getElem?_drop] at hj

theorem Reads.drop_all {w : World} {ao : Option Addr} {l : List UInt8} : Reads w (.slice ao (l.length - l.length) (l.length - l.length)) (B (l.drop l.length)) := by
  rw [Nat.sub_self, List.drop_length]
  exact ⟨ao, 0, rfl, Nat.le_refl _, fun _ => rfl, fun ad he j u hj => by simp [B] at hj⟩

theorem RdN.take {w : World} {ao : Option Addr} {cap : Nat} {l : List UInt8} (h : RdN N w ao l.length cap l) {n : Nat} (hn : n ≤ l.length) : RdN N w ao n cap (l.take n) :=
  ⟨h.reads.take hn, fun ad h1 h2 => h.blk ad h1 (by rw [List.length_take] at h2; omega)⟩
theorem RdN.drop {w : World} {ao : Option Addr} {cap : Nat} {l : List UInt8} (h : RdN N w ao l.length cap l) {n : Nat} (hn : n ≤ l.length) : RdN N w (ao.map fun x => x.add n) (l.length - n) (cap - n) (l.drop n) :=
  ⟨h.reads.drop hn, fun ad h1 h2 => by
    rw [List.length_drop] at h2
    cases ao with
    | none => cases h1
    | some x =>
      cases h1
      have := h.blk x rfl (by omega)
      have hc : (x.add n).block = x.block := by unfold Addr.add; split <;> rfl
      show (x.add n).block < N
      rw [hc]; exact this⟩
theorem RdN.drop_all {w : World} {ao : Option Addr} {l : List UInt8} : RdN N w ao (l.length - l.length) (l.length - l.length) (l.drop l.length) :=
  ⟨Reads.drop_all, fun ad h1 h2 => by simp at h2⟩

set_option maxRecDepth 100000 in
set_option maxHeartbeats 400000 in
theorem take_no (p : Nat) (s : St) (n : Int) (w : World) (hR : RD N w p s) (hm : s.1.length ≤ maxLen) (h : s.2 = 0 → (s.1.length : Int) < n) :
    Calls Tryd.prog 95 #[.pointer (some ⟨p, 0, none⟩), .int .i64 n] w fun x w' => x = .returned (.slice none 0 0) ∧ RD N w' p (failS s 8) ∧ w.grownBy w' (some p) := by
  obtain ⟨l, err⟩ := s
  have HR : Hid (RD N w p (l, err)) := hR
  obtain ⟨ao, cap, hh, hr⟩ := hR
  obtain ⟨c0, c1, f0, f1⟩ := cells2 hh
  clear hh hr f0 f1
  unfold maxLen at hm
  simp only at c0 c1 h hm
  by_cases he : err = 0
  · subst he
    have hlt : (l.length : Int) < n := h rfl
    clear h
    go_enter Tryd.func95, Tryd.ntmps95
    go_wp2_with fail
    refine (Fail_any p (l, 0) 8 _ HR.out).mono ?_
    rintro e w1 ⟨rfl, hR1, hg1⟩
    go_wp2_with fail
    go_ret
    exact ⟨rfl, hR1, hg1⟩
  · have he' : (err == 0) = false := by simpa using he
    have he2 : (err != 0) = true := by simpa using he
    clear h
    go_enter Tryd.func95, Tryd.ntmps95
    go_wp2_with fail
    refine (Fail_any p (l, err) 8 _ HR.out).mono ?_
    rintro e w1 ⟨rfl, hR1, hg1⟩
    go_wp2_with fail
    go_ret
    exact ⟨rfl, hR1, hg1⟩

set_option maxRecDepth 100000 in
set_option maxHeartbeats 400000 in
theorem take_yes (p : Nat) (l : List UInt8) (n : Nat) (w : World) (hR : RD N w p (l, 0)) (h : n ≤ l.length) :
    Calls Tryd.prog 95 #[.pointer (some ⟨p, 0, none⟩), .int .i64 n] w fun x w' => ∃ ao cap, x = .returned (.slice ao n cap) ∧ Reads w' (.slice ao n cap) (B (l.take n)) ∧ RD N w' p (l.drop n, 0) ∧ w.grownBy w' (some p) := by
  have HR : Hid (RD N w p (l, 0)) := hR
  obtain ⟨ao, cap, hh, hr⟩ := hR
  obtain ⟨c0, c1, f0, f1⟩ := cells2 hh
  have HH : Hid (w.heap[p]? = some (.cells #[.slice ao l.length cap, .int .i64 0] 124 (0, 0))) := hh
  have hcap : l.length ≤ cap := Reads.cap hr.reads
  have HRR : Hid (RdN N w ao l.length cap l) := hr
  clear hh hr
  simp only at c0 c1
  have h' : (n : Int) ≤ l.length := by omega
  have h'' : (n : Int) ≤ cap := by omega
  have HF : Hid (∀ ao', RdN N w ao' (l.length - n) (cap - n) (l.drop n) → Reads (w.setCell ⟨p, 0, none⟩ (.slice ao' (l.length - n) (cap - n))) (.slice ao n cap) (B (l.take n)) ∧ RD N (w.setCell ⟨p, 0, none⟩ (.slice ao' (l.length - n) (cap - n))) p (l.drop n, 0)) := by
    intro ao' hd
    refine ⟨Reads.off rfl HH.out (HRR.out.take h).reads (grownC _ _ _ _), ao', cap - n, ?_, ?_⟩
    · simp only [List.length_drop]
      exact set2_0 HH.out
    · simp only [List.length_drop]
      exact ⟨Reads.off rfl HH.out hd.reads (grownC _ _ _ _), fun ad h1 h2 => hd.blk ad h1 h2⟩
  by_cases hcn : cap = n
  · have hln : l.length = n := by omega
    have HD : Hid (RdN N w ao (l.length - n) (cap - n) (l.drop n)) := by
      show RdN N w ao (l.length - n) (cap - n) (l.drop n)
      rw [hcn, ← hln]
      exact RdN.drop_all
    have hcn2 : ¬ cap ≠ n := by omega
    clear hln
    subst hcn
    go_enter Tryd.func95, Tryd.ntmps95
    go_wp2_with fail
    go_ret
    have hf := HF.out ao HD.out
    rw [show l.length - cap = 0 by omega, Nat.sub_self] at hf
    exact ⟨ao, _, rfl, hf.1, hf.2, grownC _ _ _ _⟩
  · have HD : Hid (RdN N w (ao.map fun x => x.add n) (l.length - n) (cap - n) (l.drop n)) := HRR.out.drop h
    go_enter Tryd.func95, Tryd.ntmps95
    go_wp2_with fail
    go_ret
    exact ⟨ao, _, rfl, (HF.out _ HD.out).1, (HF.out _ HD.out).2, grownC _ _ _ _⟩

def byteS (s : St) : Nat := if s.2 = 0 then (match s.1 with | b :: _ => b.toNat | [] => 0) else 0
def nextS (s : St) : St := if s.2 = 0 then (match s.1 with | _ :: r => (r, 0) | [] => ([], 8)) else s

set_option maxRecDepth 100000 in
set_option maxHeartbeats 400000 in
theorem Byte_any (p : Nat) (s : St) (w : World) (hR : RD N w p s) (hm : s.1.length ≤ maxLen) :
    Calls Tryd.prog 83 #[.pointer (some ⟨p, 0, none⟩)] w fun x w' => x = .returned (.int .i64 (byteS s)) ∧ RD N w' p (nextS s) ∧ w.grownBy w' (some p) := by
  obtain ⟨l, err⟩ := s
  by_cases he : err = 0
  · subst he
    cases l with
    | nil =>
      go_enter Tryd.func83, Tryd.ntmps83
      go_wp2_with fail
      refine (take_no p ([], 0) 1 _ hR hm (by simp)).mono ?_
      rintro e w1 ⟨rfl, hR1, hg1⟩
      have HR1 : Hid (RD N w1 p ([], 8)) := hid (by simpa [failS] using hR1)
      obtain ⟨ao, cap, hh, hr⟩ := HR1.out
      obtain ⟨c0, c1, f0, f1⟩ := cells2 hh
      clear hh hr hR1 f0 f1 c0
      simp only at c1
      go_wp2_with fail
      go_ret
      exact ⟨rfl, HR1.out, hg1⟩
    | cons b r =>
      go_enter Tryd.func83, Tryd.ntmps83
      go_wp2_with fail
      refine (take_yes p (b :: r) 1 _ hR (by simp)).mono ?_
      rintro e w1 ⟨ao1, cap1, rfl, hr1, hR1, hg1⟩
      simp only [List.take_succ_cons, List.take_zero, List.drop_succ_cons, List.drop_zero] at hr1 hR1
      have HR1 : Hid (RD N w1 p (r, 0)) := hR1
      obtain ⟨ao, cap, hh, hr⟩ := hR1
      obtain ⟨c0, c1, f0, f1⟩ := cells2 hh
      have hcap := hr1.cap
      obtain ⟨a2, c2, e2, h21, h22, h23⟩ := hr1
      injection e2 with e21 e22 e23
      subst e21 e23
      cases ao1 with
      | none => have := h22 rfl; simp at hcap; omega
      | some ad =>
        have hc := h23 ad rfl 0 (.int .u8 b.toNat) rfl
        have hc' : w1.cell? ad = some (.int .u8 b.toNat) := by simpa [Addr.add] using hc
        clear hh hr f0 f1 c0 h21 h22 h23 e22 hc
        simp only at c1
        have hb255 : (b.toNat : Int) ≤ 255 := by have := b.toNat_lt; omega
        go_wp2_with fail
        go_ret
        exact ⟨rfl, HR1.out, hg1⟩
  · have he' : (err == 0) = false := by simpa using he
    have he2 : (err != 0) = true := by simpa using he
    go_enter Tryd.func83, Tryd.ntmps83
    go_wp2_with fail
    refine (take_no p (l, err) 1 _ hR hm (fun h => absurd h he)).mono ?_
    rintro e w1 ⟨rfl, hR1, hg1⟩
    have HR1 : Hid (RD N w1 p (l, err)) := hid (by simpa [failS, he] using hR1)
    obtain ⟨ao, cap, hh, hr⟩ := HR1.out
    obtain ⟨c0, c1, f0, f1⟩ := cells2 hh
    clear hh hr hR1 f0 f1 c0
    simp only at c1
    go_wp2_with fail
    go_ret
    exact ⟨by simp [byteS, he], by simpa [nextS, he] using HR1.out, hg1⟩
end Go.Proofs.YtinifnpajkldbaaDoor

/- The contract of join over a Reader's Byte. -/
namespace Go.Proofs.YtinifnpajkldbaaDoor
open Go.RowKit
variable {N : Nat}

/-- So many bytes more, from the i-th on. -/
def jn : Nat → Nat → Nat → St → Nat × St
  | 0, _, acc, s => (acc, s)
  | k + 1, i, acc, s => jn k (i + 1) (acc + byteS s * 256 ^ i) (nextS s)

theorem nextS_len (s : St) : (nextS s).1.length ≤ s.1.length := by
  obtain ⟨l, e⟩ := s
  unfold nextS
  by_cases h : e = 0
  · cases l <;> simp [h]
  · simp [h]

theorem byteS_lt (s : St) : byteS s < 256 := by
  obtain ⟨l, e⟩ := s
  unfold byteS
  by_cases h : e = 0
  · cases l with
    | nil => simp [h]
    | cons b r => simpa [h] using b.toNat_lt
  · simp [h]

theorem pow_256 (i : Nat) : 256 ^ i = 2 ^ (8 * i) := by rw [Nat.pow_mul]

theorem or_step (acc b i sh : Nat) (h : sh = 8 * i) (ha : acc < 256 ^ i) (hb : b < 256) (hs : sh ≤ 56) :
    bits .or .u64 (acc : Int) (IntKind.u64.wrap (IntKind.u64.wrap (b : Int) * 2 ^ sh)) = ((acc + b * 256 ^ i : Nat) : Int) := by
  subst h
  rw [pow_256] at ha ⊢
  have hp : (2 : Nat) ^ (8 * i) ≤ 2 ^ 56 := Nat.pow_le_pow_right (by omega) hs
  have hm : b * 2 ^ (8 * i) ≤ 255 * 2 ^ 56 := Nat.mul_le_mul (by omega) hp
  generalize hq : 2 ^ (8 * i) = q at *
  have e1 : IntKind.u64.wrap (b : Int) = (b : Int) := by rw [IntKind.wrap_u64]; omega
  have e3 : (2 : Int) ^ (8 * i) = ((q : Nat) : Int) := by rw [← hq]; exact (Int.natCast_pow 2 (8 * i)).symm
  have e2 : IntKind.u64.wrap ((b : Int) * 2 ^ (8 * i)) = ((b * q : Nat) : Int) := by
    rw [e3, ← Int.natCast_mul, IntKind.wrap_u64]
    generalize b * q = z at *
    omega
  rw [e1, e2, bits_or_u64_nat acc (b * q) (by omega) (by omega)]
  have e4 := Nat.two_pow_add_eq_or_of_lt (i := 8 * i) (b := acc) (by rw [hq]; exact ha) b
  rw [hq] at e4
  rw [Nat.or_comm, Nat.mul_comm b q, ← e4, Nat.add_comm]

theorem pow_step (acc b i : Nat) (ha : acc < 256 ^ i) (hb : b < 256) : acc + b * 256 ^ i < 256 ^ (i + 1) := by
  rw [Nat.pow_succ]
  generalize 256 ^ i = q at *
  have : b * q ≤ 255 * q := Nat.mul_le_mul_right q (by omega)
  omega

set_option maxRecDepth 100000 in
set_option maxHeartbeats 400000 in
theorem join_nat (p : Nat) (s : St) (cnt : Nat) (w : World) (hR : RD N w p s) (hm : s.1.length ≤ maxLen) (hc : cnt ≤ 8) :
    Calls Tryd.prog 94 #[.func (Fn.func 83) #[.pointer (some ⟨p, 0, none⟩)] #[], .int .i64 cnt] w fun x w' => x = .returned (.int .i64 (wrap64 (jn cnt 0 0 s).1)) ∧ RD N w' p (jn cnt 0 0 s).2 ∧ w.grownBy w' (some p) := by
  have hc' : (cnt : Int) ≤ 8 := by omega
  go_enter Tryd.func94, Tryd.ntmps94
  go_wp2_with fail
  refine wp_scope_pre 0 (fun a' w' => ∃ (acc i sh k : Nat) (s1 : St) (t7 t8 t9 t10 t11 t12 t13 t14 t15 t16 t17 t18 t19 t20 t21 : Value),
      a' = { tmps := #[.func (Fn.func 83) #[.pointer (some ⟨p, 0, none⟩)] #[], .int .i64 cnt, undef, undef, .int .i64 0, .int .u64 acc, .int .i64 sh, t7, t8, t9, t10, t11, t12, t13, t14, t15, t16, t17, t18, t19, t20, t21], defers := [] } ∧
      RD N w' p s1 ∧ s1.1.length ≤ maxLen ∧ w.grownBy w' (some p) ∧ i + k = cnt ∧ sh = 8 * i ∧ acc < 256 ^ i ∧ jn k i acc s1 = jn cnt 0 0 s)
    (fun a' _ => 64 - (intOf (a'.tmps.getD 6 undef)).toNat) rfl ?_ ?_
  · go_wp2_with fail
    exact ⟨0, 0, 0, cnt, s, _, _, _, _, _, _, _, _, _, _, _, _, _, _, _, rfl, hR, hm, World.grownBy.refl _ _, by omega, rfl, by simp, rfl⟩
  · rintro x hx a' w' ⟨acc, i, sh, k, s1, t7, t8, t9, t10, t11, t12, t13, t14, t15, t16, t17, t18, t19, t20, t21, rfl, hR1, hm1, hg1, hik, hsh, hacc, hjn⟩
    have HJ : Hid (jn k i acc s1 = jn cnt 0 0 s) := hjn
    have HI : Hid (i + k = cnt) := hik
    have HS : Hid (sh = 8 * i) := hsh
    have HA : Hid (acc < 256 ^ i) := hacc
    cases k with
    | zero =>
      have ht : ((sh : Int) == 8 * (cnt : Int)) = true := by rw [beq_iff_eq]; omega
      have HF : Hid ((acc, s1) = jn cnt 0 0 s) := hjn
      clear hjn hik hsh hacc
      rcases hx with rfl | rfl
      · go_wp2_with fail
        go_step3
        go_wp2_with fail
        simp only [Exit.jump]
        go_ret
        rw [← HF.out]
        exact ⟨rfl, hR1, hg1⟩
      · go_wp2_with fail
        simp only [Exit.jump]
        go_ret
        rw [← HF.out]
        exact ⟨rfl, hR1, hg1⟩
    | succ k =>
      have ht : ((sh : Int) == 8 * (cnt : Int)) = false := by rw [beq_eq_false_iff_ne]; omega
      have hsb : (sh : Int) ≤ 56 := by omega
      have HO : Hid (bits .or .u64 (acc : Int) (IntKind.u64.wrap (IntKind.u64.wrap (byteS s1 : Int) * 2 ^ sh)) = ((acc + byteS s1 * 256 ^ i : Nat) : Int)) := or_step acc (byteS s1) i sh hsh hacc (byteS_lt s1) (by omega)
      have HP : Hid (acc + byteS s1 * 256 ^ i < 256 ^ (i + 1)) := pow_step acc (byteS s1) i hacc (byteS_lt s1)
      clear hjn hik hsh hacc
      rcases hx with rfl | rfl
      · go_wp2_with fail
        go_step3
        go_wp2_with fail
        refine (Byte_any p s1 _ hR1 hm1).mono ?_
        rintro e w2 ⟨rfl, hR2, hg2⟩
        go_wp2_with fail
        go_step3
        rw [HO.out]
        exact ⟨rfl, ⟨_, i + 1, sh + 8, k, nextS s1, _, _, _, _, _, _, _, _, _, _, _, _, _, _, _, rfl, hR2, Nat.le_trans (nextS_len s1) hm1, grownT hg1 hg2, by have := HI.out; omega, by have := HS.out; omega, HP.out, HJ.out⟩, by simp [intOf]; omega⟩
      · go_wp2_with fail
        refine (Byte_any p s1 _ hR1 hm1).mono ?_
        rintro e w2 ⟨rfl, hR2, hg2⟩
        go_wp2_with fail
        go_step3
        rw [HO.out]
        exact ⟨rfl, ⟨_, i + 1, sh + 8, k, nextS s1, _, _, _, _, _, _, _, _, _, _, _, _, _, _, _, rfl, hR2, Nat.le_trans (nextS_len s1) hm1, grownT hg1 hg2, by have := HI.out; omega, by have := HS.out; omega, HP.out, HJ.out⟩, by simp [intOf]; omega⟩
end Go.Proofs.YtinifnpajkldbaaDoor

/- The contracts of a Reader's Int and Text, of bytes.Clone and of New. -/
namespace Go.Proofs.YtinifnpajkldbaaDoor
open Go.RowKit
variable {N : Nat}

theorem join_any (p : Nat) (s : St) (cnt : Int) (h0 : 0 ≤ cnt) (h8 : cnt ≤ 8) (w : World) (hR : RD N w p s) (hm : s.1.length ≤ maxLen) :
    Calls Tryd.prog 94 #[.func (Fn.func 83) #[.pointer (some ⟨p, 0, none⟩)] #[], .int .i64 cnt] w fun x w' => x = .returned (.int .i64 (wrap64 (jn cnt.toNat 0 0 s).1)) ∧ RD N w' p (jn cnt.toNat 0 0 s).2 ∧ w.grownBy w' (some p) := by
  obtain ⟨c, rfl⟩ := Int.eq_ofNat_of_zero_le h0
  exact join_nat p s c w hR hm (by omega)

theorem RD.err {w : World} {p : Nat} {s : St} (h : RD N w p s) : w.cell? ⟨p, 1, none⟩ = some (.int .i64 s.2) := by
  obtain ⟨ao, cap, hh, _⟩ := h
  exact (cells2 hh).2.1

def intR (r : Nat × St) : Int := if r.2.2 = 0 then wrap64 r.1 else 0

set_option maxRecDepth 100000 in
set_option maxHeartbeats 400000 in
theorem Int_any (p : Nat) (s : St) (w : World) (hR : RD N w p s) (hm : s.1.length ≤ maxLen) :
    Calls Tryd.prog 80 #[.pointer (some ⟨p, 0, none⟩)] w fun x w' => x = .returned (.int .i64 (intR (jn 8 0 0 s))) ∧ RD N w' p (jn 8 0 0 s).2 ∧ w.grownBy w' (some p) := by
  have HJ := hid (join_any p s 8 (by omega) (by omega) w hR hm)
  have e8 : (8 : Int).toNat = 8 := rfl
  rw [e8] at HJ
  generalize jn 8 0 0 s = r at *
  clear e8 hR
  obtain ⟨n, l, err⟩ := r
  simp only at HJ
  by_cases he : err = 0
  · subst he
    have hi : Hid (intR (n, l, 0) = wrap64 n) := hid (by simp [intR])
    go_enter Tryd.func80, Tryd.ntmps80
    go_wp2_with fail
    refine HJ.out.mono ?_
    rintro e w1 ⟨rfl, hR1, hg1⟩
    have HR1 := hid hR1
    have c1 := hR1.err
    clear hR1 HJ
    simp only at c1
    go_wp2_with fail
    go_ret
    exact ⟨by rw [hi.out]; rfl, HR1.out, hg1⟩
  · have he' : (err == 0) = false := by simpa using he
    have he2 : (err != 0) = true := by simpa using he
    have hi : Hid (intR (n, l, err) = 0) := hid (by simp [intR, he])
    go_enter Tryd.func80, Tryd.ntmps80
    go_wp2_with fail
    refine HJ.out.mono ?_
    rintro e w1 ⟨rfl, hR1, hg1⟩
    have HR1 := hid hR1
    have c1 := hR1.err
    clear hR1 HJ
    simp only at c1
    go_wp2_with fail
    go_ret
    exact ⟨by rw [hi.out]; rfl, HR1.out, hg1⟩

theorem jn_lt : ∀ (k i acc : Nat) (s : St), acc < 256 ^ i → (jn k i acc s).1 < 256 ^ (i + k)
  | 0, _, _, _, h => h
  | k + 1, i, acc, s, h => by
    have := jn_lt k (i + 1) (acc + byteS s * 256 ^ i) (nextS s) (pow_step _ _ _ h (byteS_lt s))
    rw [jn]
    rwa [show i + (k + 1) = i + 1 + k by omega]

theorem jn_len : ∀ (k i acc : Nat) (s : St), (jn k i acc s).2.1.length ≤ s.1.length
  | 0, _, _, _ => Nat.le_refl _
  | k + 1, i, acc, s => by
    rw [jn]
    exact Nat.le_trans (jn_len k _ _ _) (nextS_len s)

def textR (r : Nat × St) : List UInt8 × St := if r.2.2 = 0 ∧ r.1 ≤ r.2.1.length then (r.2.1.take r.1, (r.2.1.drop r.1, 0)) else ([], failS r.2 8)

set_option maxRecDepth 100000 in
set_option maxHeartbeats 400000 in
theorem Text_any (p : Nat) (s : St) (w : World) (hR : RD N w p s) (hm : s.1.length ≤ maxLen) :
    Calls Tryd.prog 84 #[.pointer (some ⟨p, 0, none⟩)] w fun x w' => x = .returned (.string ⟨(textR (jn 2 0 0 s)).1.toArray⟩) ∧ RD N w' p (textR (jn 2 0 0 s)).2 ∧ w.grownBy w' (some p) := by
  have HJ := hid (join_any p s 2 (by omega) (by omega) w hR hm)
  have e8 : (2 : Int).toNat = 2 := rfl
  have hlt : (jn 2 0 0 s).1 < 65536 := jn_lt 2 0 0 s (by simp)
  have hlen : (jn 2 0 0 s).2.1.length ≤ s.1.length := jn_len 2 0 0 s
  rw [e8] at HJ
  generalize jn 2 0 0 s = r at *
  clear e8 hR
  obtain ⟨n, l, err⟩ := r
  simp only at HJ hlt hlen
  have hw : wrap64 (n : Int) = n := by simp only [wrap64]; omega
  rw [hw] at HJ
  clear hw
  have hml : l.length ≤ maxLen := Nat.le_trans hlen hm
  by_cases hok : err = 0 ∧ n ≤ l.length
  · obtain ⟨rfl, hn⟩ := hok
    have ht : Hid (textR (n, l, 0) = (l.take n, (l.drop n, 0))) := hid (by simp [textR, hn])
    go_enter Tryd.func84, Tryd.ntmps84
    go_wp2_with fail
    refine HJ.out.mono ?_
    rintro e w1 ⟨rfl, hR1, hg1⟩
    have HR1 := hid hR1
    clear hR1 HJ
    go_wp2_with fail
    refine (take_yes p l n _ HR1.out hn).mono ?_
    rintro e w2 ⟨ao, cap, rfl, hr2, hR2, hg2⟩
    have hS := run_string (P := Tryd.prog) w2 22 9 5 Tryd.underlying22 Tryd.underlying5 Tryd.underlying9 hr2
    have HR2 := hid hR2
    clear hr2 hR2
    go_wp2_with fail
    go_ret
    rw [ht.out]
    exact ⟨rfl, HR2.out, grownT hg1 hg2⟩
  · have ht : Hid (textR (n, l, err) = ([], failS (l, err) 8)) := hid (by simp [textR, hok])
    have hno : err = 0 → (l.length : Int) < n := fun h => by have : ¬ n ≤ l.length := fun h' => hok ⟨h, h'⟩; omega
    have HN := hid hno
    clear hok hno
    go_enter Tryd.func84, Tryd.ntmps84
    go_wp2_with fail
    refine HJ.out.mono ?_
    rintro e w1 ⟨rfl, hR1, hg1⟩
    have HR1 := hid hR1
    clear hR1 HJ
    go_wp2_with fail
    refine (take_no p (l, err) n _ HR1.out hml HN.out).mono ?_
    rintro e w2 ⟨rfl, hR2, hg2⟩
    have hS := run_string (P := Tryd.prog) w2 22 9 5 Tryd.underlying22 Tryd.underlying5 Tryd.underlying9 (l := []) (Reads.nil w2)
    have HR2 := hid hR2
    clear hR2
    go_wp2_with fail
    go_ret
    rw [ht.out]
    exact ⟨rfl, HR2.out, grownT hg1 hg2⟩

set_option maxRecDepth 100000 in
set_option maxHeartbeats 400000 in
theorem clone_any (v : Value) (l : List UInt8) (w : World) (hr : Reads w v (B l)) (hl : l.length ≤ 140737488355328) :
    Calls Tryd.prog 48 #[v] w fun x w' => ∃ ao cap, x = .returned (.slice ao l.length cap) ∧ Reads w' (.slice ao l.length cap) (B l) ∧ Below w.heap.size w w' := by
  obtain ⟨i0, hi, hz0, hz1, hz2⟩ := info_parts Tryd.infoByte
  have HR : Hid (Reads w v (B l)) := hr
  obtain ⟨ao, c, rfl, hc, hn, hcell⟩ := hr
  rw [B_length] at hc HR ⊢
  cases ao with
  | none =>
    have h0 := hn rfl
    subst h0
    have h00 : l.length = 0 := by omega
    clear hn hcell
    rw [h00] at HR ⊢
    have hE := run_isNil (P := Tryd.prog) w 22 5 none 0 0 Tryd.underlying22
    go_enter Tryd.func48, Tryd.ntmps48
    go_wp2_with fail
    go_ret
    exact ⟨none, 0, rfl, HR.out, Below.refl _ _⟩
  | some ad =>
    clear hn hcell
    have hE := run_isNil (P := Tryd.prog) w 22 5 (some ad) l.length c Tryd.underlying22
    go_enter Tryd.func48, Tryd.ntmps48
    go_wp2_with (at_builtin; go_must (refine wpList_append_src _ rfl _ _ 22 22 rfl 5 i0 (.int .u8 0) Tryd.underlying22 hi hz0 hz1 hz2 rfl w.heap.size 0 0 [] rfl (Owns.empty _ _) _ l.length (B l) rfl (Src.ofBytes _ Tryd.underlying22 rfl (HR.out.later ((Below.refl _ _).alloc (Nat.le_refl _) _))) (by omega) ?_); intro g2 cap2 w2 hG2)
    go_ret
    have hO := hG2.own
    rw [Nat.zero_add, List.nil_append] at hO
    exact ⟨some ⟨g2, 0, none⟩, cap2, by simp, hO.reads, hG2.below ((Below.refl _ _).alloc (Nat.le_refl _) _) (Nat.le_refl _)⟩

set_option maxRecDepth 100000 in
set_option maxHeartbeats 400000 in
theorem New_any (v : Value) (l : List UInt8) (w : World) (hr : Reads w v (B l)) (hl : l.length ≤ 140737488355328) :
    Calls Tryd.prog 62 #[v] w fun x w' => ∃ p, x = .returned (.pointer (some ⟨p, 0, none⟩)) ∧ w.heap.size ≤ p ∧ RD w'.heap.size w' p (l, 0) ∧ Below w.heap.size w w' := by
  go_enter Tryd.func62, Tryd.ntmps62
  go_wp2_with fail
  refine (clone_any v l _ hr hl).mono ?_
  rintro e w1 ⟨ao, cap, rfl, hr1, hb1⟩
  have HR := hid hr1
  clear hr1 hr
  go_wp2_with fail
  go_ret
  refine ⟨w1.heap.size, rfl, hb1.size, ⟨ao, cap, heap_alloc_new w1 _, RdN.own (HR.out.later ((Below.refl _ _).alloc (Nat.le_refl _) _))⟩, hb1.alloc hb1.size _⟩
end Go.Proofs.YtinifnpajkldbaaDoor

/- Plain facts on what a Reader reads. -/
namespace Go.Proofs.YtinifnpajkldbaaDoor
open Go.RowKit
variable {N : Nat}

/-- The number that bytes make, the lowest first. -/
def num : List UInt8 → Nat
  | [] => 0
  | b :: r => b.toNat + 256 * num r

theorem jn_err : ∀ (k i acc : Nat) (s : St), s.2 ≠ 0 → jn k i acc s = (acc, s)
  | 0, _, _, _, _ => rfl
  | k + 1, i, acc, s, h => by
    have h1 : nextS s = s := by simp [nextS, h]
    have h2 : byteS s = 0 := by simp [byteS, h]
    rw [jn, h1, h2, Nat.zero_mul, Nat.add_zero]
    exact jn_err k (i + 1) acc s h

theorem jn_ok : ∀ (k i acc : Nat) (l : List UInt8), k ≤ l.length → jn k i acc (l, 0) = (acc + num (l.take k) * 256 ^ i, (l.drop k, 0))
  | 0, i, acc, l, _ => by simp [jn, num]
  | k + 1, i, acc, [], h => by simp at h
  | k + 1, i, acc, b :: r, h => by
    have h1 : nextS (b :: r, 0) = (r, 0) := by simp [nextS]
    have h2 : byteS (b :: r, 0) = b.toNat := by simp [byteS]
    rw [jn, h1, h2, jn_ok k (i + 1) _ r (by simpa using h)]
    simp only [List.take_succ_cons, List.drop_succ_cons, num, Nat.pow_succ]
    congr 1
    rw [Nat.add_mul, Nat.mul_comm (256 ^ i) 256, ← Nat.mul_assoc, Nat.mul_comm (num (r.take k)) 256, Nat.add_assoc]

theorem jn_short : ∀ (k i acc : Nat) (l : List UInt8), l.length < k → (jn k i acc (l, 0)).2 = ([], 8)
  | 0, i, acc, l, h => by simp at h
  | k + 1, i, acc, [], _ => by
    have h1 : nextS ([], 0) = ([], 8) := by simp [nextS]
    rw [jn, h1, jn_err k _ _ _ (by simp)]
  | k + 1, i, acc, b :: r, h => by
    have h1 : nextS (b :: r, 0) = (r, 0) := by simp [nextS]
    rw [jn, h1]
    exact jn_short k _ _ r (by simpa using h)

theorem num_le : ∀ (k u : Nat), u < 256 ^ k → num (le k u) = u
  | 0, u, h => by simp at h; simp [le, num, h]
  | k + 1, u, h => by
    rw [Nat.pow_succ] at h
    rw [le, num, num_le k (u / 256) (by omega), UInt8.toNat_ofNat']
    omega

theorem wrap_back (x : Int) (h0 : -9223372036854775808 ≤ x) (h1 : x ≤ 9223372036854775807) : wrap64 (((x % 18446744073709551616).toNat : Nat) : Int) = x := by
  simp only [wrap64]
  omega

/-- A number that was written is read. -/
theorem Int_read (p : Nat) (x : Int) (r : List UInt8) (w : World) (h0 : -9223372036854775808 ≤ x) (h1 : x ≤ 9223372036854775807) (hR : RD N w p (le 8 (x % 18446744073709551616).toNat ++ r, 0)) (hm : r.length + 8 ≤ maxLen) :
    Calls Tryd.prog 80 #[.pointer (some ⟨p, 0, none⟩)] w fun e w' => e = .returned (.int .i64 x) ∧ RD N w' p (r, 0) ∧ w.grownBy w' (some p) := by
  have h := Int_any p _ w hR (by simp only [List.length_append, le_length]; omega)
  have e1 : jn 8 0 0 (le 8 (x % 18446744073709551616).toNat ++ r, 0) = ((x % 18446744073709551616).toNat, (r, 0)) := by
    rw [jn_ok 8 0 0 _ (by rw [List.length_append, le_length]; omega), List.take_left' (le_length 8 _), List.drop_left' (le_length 8 _), num_le 8 _ (by omega)]
    simp
  rw [e1] at h
  have e2 : intR ((x % 18446744073709551616).toNat, (r, (0 : Int))) = x := by
    unfold intR
    rw [if_pos rfl]
    exact wrap_back x h0 h1
  rw [e2] at h
  exact h

/-- A byte that was written is read. -/
theorem Byte_read (p : Nat) (x : Int) (r : List UInt8) (w : World) (hR : RD N w p (le 1 (x % 18446744073709551616).toNat ++ r, 0)) (hm : r.length + 1 ≤ maxLen) :
    Calls Tryd.prog 83 #[.pointer (some ⟨p, 0, none⟩)] w fun e w' => e = .returned (.int .i64 (x % 256)) ∧ RD N w' p (r, 0) ∧ w.grownBy w' (some p) := by
  have h := Byte_any p _ w hR (by simp only [List.length_append, le_length]; omega)
  have e1 : ((byteS (le 1 (x % 18446744073709551616).toNat ++ r, 0) : Nat) : Int) = x % 256 := by
    simp only [byteS, le, List.cons_append, if_pos, UInt8.toNat_ofNat']
    omega
  have e2 : nextS (le 1 (x % 18446744073709551616).toNat ++ r, 0) = (r, 0) := by simp [nextS, le]
  rw [e1, e2] at h
  exact h

/-- A text that was written is read. -/
theorem Text_read (p : Nat) (t r : List UInt8) (w : World) (ht : t.length ≤ 65535) (hR : RD N w p (le 2 t.length ++ (t ++ r), 0)) (hm : r.length + t.length + 2 ≤ maxLen) :
    Calls Tryd.prog 84 #[.pointer (some ⟨p, 0, none⟩)] w fun e w' => e = .returned (.string ⟨t.toArray⟩) ∧ RD N w' p (r, 0) ∧ w.grownBy w' (some p) := by
  have h := Text_any p _ w hR (by simp only [List.length_append, le_length]; omega)
  have e1 : jn 2 0 0 (le 2 t.length ++ (t ++ r), 0) = (t.length, (t ++ r, 0)) := by
    rw [jn_ok 2 0 0 _ (by rw [List.length_append, le_length]; omega), List.take_left' (le_length 2 _), List.drop_left' (le_length 2 _), num_le 2 _ (by omega)]
    simp
  rw [e1] at h
  have e2 : textR (t.length, (t ++ r, (0 : Int))) = (t, (r, 0)) := by
    unfold textR
    rw [if_pos ⟨rfl, by simp⟩]
    simp
  rw [e2] at h
  exact h

theorem and_255 (x : Int) : bits .and .i64 x 255 = x % 256 := by
  show IntKind.i64.wrap ((BitVec.ofInt 64 x &&& BitVec.ofInt 64 255).toNat : Int) = _
  have e1 : (BitVec.ofInt 64 255).toNat = 2 ^ 8 - 1 := by decide
  have e2 : (BitVec.ofInt 64 x).toNat = (x % 18446744073709551616).toNat := by rw [BitVec.toNat_ofInt]; rfl
  rw [BitVec.toNat_and, e1, e2, Nat.and_two_pow_sub_one_eq_mod, IntKind.wrap_i64]
  omega
end Go.Proofs.YtinifnpajkldbaaDoor

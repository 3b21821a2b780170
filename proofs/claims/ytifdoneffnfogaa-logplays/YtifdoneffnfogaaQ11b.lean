/- Texts laid together: DBits, LgAt, Known11. -/
import Derived.Test.YtifdoneffnfogaaKAt0
import Derived.Test.YtifdoneffnfogaaQ11a

/- What the laws of the disk share. -/
namespace Go.Proofs.Ytifdoneffnfogaa
open Go.RowKit
set_option linter.unusedSimpArgs false
set_option linter.unusedVariables false

theorem crash_again (b : List UInt8) (t : Nat) (ht : t ≤ b.length) (z : Nat) (q : Int) : (⟨b.take t, t, z, 0, false⟩ : Dk).crash q = ⟨b.take t, t, z, 0, false⟩ := by
  have h1 : (b.take t).length = t := by rw [List.length_take]; omega
  have h2 : (⟨b.take t, t, z, 0, false⟩ : Dk).stay q = t := by
    show t + (q % (((b.take t).length - t + 1 : Nat) : Int)).toNat = t
    rw [h1, Nat.sub_self, Nat.zero_add, show ((1 : Nat) : Int) = 1 from rfl, Int.emod_one]
    rfl
  show (⟨(b.take t).take _, _, _, _, _⟩ : Dk) = _
  rw [h2, List.take_of_length_le (by omega)]
theorem fresh_app (z : Nat) (hz : (Dk.new z).size = z) (l : List UInt8) (hl : l.length ≤ z) : (Dk.new z).app l = (0, ⟨l, 0, z, 0, false⟩) := by
  rw [Dk.app, if_neg (by simp [Dk.new]), if_neg (by show ¬ (Dk.new z).size - 0 < l.length; omega), if_neg (by simp [Dk.new])]
  show (0, (⟨l, 0, (Dk.new z).size, 0, false⟩ : Dk)) = _
  rw [hz]
theorem belowDrewN0 (w : World) (k : Nat) : Below w.heap.size w (w.drewN k) := ⟨rfl, rfl, rfl, by simp, fun k _ => by simp⟩
theorem belowDrewN0' {Bd : Nat} {w0 w : World} (h : Below Bd w0 w) (k : Nat) : Below Bd w0 (w.drewN k) := ⟨h.os, h.tape, h.output, by simpa using h.size, fun k hk => by simpa using h.block k hk⟩
theorem strQ {w : World} {v : Value} {l : List UInt8} (h : Reads w v (B l)) (k : Nat) : (convert 37 9 v).run Try.prog (w.drewN k) = .ok (.string ⟨l.toArray⟩) (w.drewN k) :=
  run_strB (h.later (belowDrewN0 w k))
/-- Another disk, while this one is worked on. -/
theorem KD.beside {L : Nat} {w w1 w2 : World} {d r d2 r2 : Nat} {s s2 : Dk} (h : KD L w w1 d2 r2 s2) (hK : KD L w w2 d r s) (ho : Only w1 w2 d r) (h1 : d2 ≠ d ∧ d2 ≠ r ∧ r2 ≠ d ∧ r2 ≠ r) : KD L w w2 d2 r2 s2 :=
  ⟨h.dk.kept (ho.block d2 h.dk.lt h1.1 h1.2.1) (ho.block r2 h.dk.ltr h1.2.2.1 h1.2.2.2), hK.bel, hK.le, h.d, h.r⟩
end Go.Proofs.Ytifdoneffnfogaa

/- A log of a law's own: what its calls leave, and that all from a place on alone has changed. -/
namespace Go.Proofs.Ytifdoneffnfogaa
open Go.RowKit
set_option linter.unusedSimpArgs false
set_option linter.unusedVariables false

theorem Only3.below {w w1 : World} {p q u : Nat} (h : Only3 w w1 p q u) {Bd : Nat} {w0 : World} (hb : Below Bd w0 w) (hw : Bd ≤ w.heap.size) (hp : Bd ≤ p) (hq : Bd ≤ q) (hu : Bd ≤ u) : Below Bd w0 w1 :=
  ⟨h.os.trans hb.os, h.tape.trans hb.tape, h.output.trans hb.output, Nat.le_trans hb.size h.size, fun k hk => by rw [h.block k (by omega) (by omega) (by omega) (by omega), hb.block k hk]⟩
/-- The log in the block q with n records, k of them safe, on the disk s in d and r. -/
structure LD (L : Nat) (w w1 : World) (d r q : Nat) (s : Dk) (n k : Nat) : Prop where
  kd : KD L w w1 d r s
  lb : LB w1 q d n k
  lq : L ≤ q
  ne : q ≠ d ∧ q ≠ r
section
variable {L : Nat} {w w1 w2 : World} {d r q : Nat} {s s' : Dk} {n k : Nat}
theorem LD.later (h : LD L w w1 d r q s n k) (hb : Below w1.heap.size w1 w2) : LD L w w2 d r q s n k := ⟨h.kd.later hb, h.lb.kept (hb.block q h.lb.lt), h.lq, h.ne⟩
theorem LD.alloc (h : LD L w w1 d r q s n k) (o : Obj) : LD L w (w1.alloc o) d r q s n k := h.later ((Below.refl _ _).alloc (Nat.le_refl _) o)
theorem LD.drewN (h : LD L w w1 d r q s n k) (m : Nat) : LD L w (w1.drewN m) d r q s n k := h.later (belowDrewN0 w1 m)
/-- The disk alone was worked on. -/
theorem LD.only (h : LD L w w1 d r q s n k) (hK : KD L w w2 d r s') (ho : Only w1 w2 d r) : LD L w w2 d r q s' n k := ⟨hK, h.lb.kept (ho.block q h.lb.lt h.ne.1 h.ne.2), h.lq, h.ne⟩

theorem lgOpen_at (h : KD L w w1 d r s) (ls : List (List UInt8)) (s' : Dk) (m : Nat) (he : openS s = (0, ls, s')) (hm : ls.length = m) :
    Calls Try.prog 12 #[.pointer (some ⟨d, 0, none⟩)] w1 fun e w' => ∃ q ro rc, e = .returned (.tuple #[.pointer (some ⟨q, 0, none⟩), .slice ro m rc, .int .i64 0]) ∧ LD L w w' d r q s' m m ∧ RowsW w' w1.heap.size (.slice ro m rc) ls ∧ Only w1 w' d r ∧ w1.heap.size ≤ q := by
  subst hm
  refine (lgOpen_any d r s w1 h.dk).mono ?_
  rintro e w' ⟨h1, h2, h3⟩
  rw [he] at h1 h3
  rcases h3 with ⟨h3, _⟩ | ⟨_, q, rv, h4, h5, h6, h7⟩
  · exact absurd rfl h3
  · obtain ⟨ro, rc, rfl⟩ := h7.form
    exact ⟨q, ro, rc, h4, ⟨h.only h1 h2, h6, Nat.le_trans h.le h5, by have := h.dk.lt; have := h.dk.ltr; omega⟩, h7, h2, h5⟩
theorem lgAppend_at (h : LD L w w1 d r q s n k) (hn : n ≤ 1000000000) (u : Value) (l : List UInt8) (hu : Reads w1 u (B l)) (hll : l.length ≤ 1000000000) (c : Int) (n' : Nat) (s' : Dk) (he : appL s n l = (c, n', s')) :
    Calls Try.prog 15 #[.pointer (some ⟨q, 0, none⟩), u] w1 fun e w' => e = .returned (.int .i64 c) ∧ LD L w w' d r q s' n' k := by
  refine (lgAppend_any d r q s n k hn u l w1 h.kd.dk h.lb h.ne hu hll).mono ?_
  rintro e w' ⟨h1, h2, h3, h4⟩
  rw [he] at h1 h2 h3
  exact ⟨h1, ⟨⟨h2, h4.below h.kd.bel h.kd.le h.kd.d h.kd.r h.lq, Nat.le_trans h.kd.le h4.size, h.kd.d, h.kd.r⟩, h3, h.lq, h.ne⟩⟩
theorem lgSync_at (h : LD L w w1 d r q s n k) (c : Int) (k' : Nat) (s' : Dk) (he : syncL s n k = (c, k', s')) :
    Calls Try.prog 17 #[.pointer (some ⟨q, 0, none⟩)] w1 fun e w' => e = .returned (.int .i64 c) ∧ LD L w w' d r q s' n k' := by
  refine (lgSync_any d r q s n k w1 h.kd.dk h.lb h.ne).mono ?_
  rintro e w' ⟨h1, h2, h3, h4⟩
  rw [he] at h1 h2 h3
  exact ⟨h1, ⟨⟨h2, h4.below h.kd.bel h.kd.le h.kd.d h.kd.r h.lq, Nat.le_trans h.kd.le h4.size, h.kd.d, h.kd.r⟩, h3, h.lq, h.ne⟩⟩
end

/-- A disk that holds records, whose power is there and which no Stop waits for. -/
def onD (ls : List (List UInt8)) (K Z : Nat) : Dk := ⟨encs ls, K, Z, 0, false⟩
theorem on_new (Z : Nat) (hZ : Z ≤ 65536) : Dk.new (Z : Int) = onD [] 0 Z := by
  show (⟨[], 0, (max 0 (min (Z : Int) 65536)).toNat, 0, false⟩ : Dk) = ⟨[], 0, Z, 0, false⟩
  congr 1
  omega
theorem on_open (ls : List (List UInt8)) (h : ∀ r ∈ ls, r.length ≤ 16384) (K Z : Nat) : openS (onD ls K Z) = (0, ls, onD ls (encs ls).length Z) := by
  have hc : (onD ls K Z).cut ((encs ls).length : Int) = (0, onD ls (encs ls).length Z) := by
    rw [Dk.cut, if_neg (by simp [onD]), if_neg (by show ¬ (((encs ls).length : Int) < 0 ∨ ((encs ls).length : Int) < ((encs ls).length : Int)); omega), if_neg (by simp [onD])]
    show (0, (⟨(encs ls).take ((encs ls).length : Int).toNat, ((encs ls).length : Int).toNat, Z, 0 - 1, false⟩ : Dk)) = _
    rw [Int.toNat_natCast, List.take_length]
    rfl
  have hr : recs (onD ls K Z).b = (ls, (encs ls).length) := recs_all ls h
  rw [openS, hr, if_neg (by simp [onD])]
  simp only
  rw [hc, if_neg (by simp)]
theorem on_app (ls : List (List UInt8)) (K Z n : Nat) (r : List UInt8) (hr : r.length ≤ 16384) (hz : (encs ls).length + 8 + r.length ≤ Z) : appL (onD ls K Z) n r = (0, n + 1, onD (ls ++ [r]) K Z) := by
  have ha : (onD ls K Z).app (enc r) = (0, onD (ls ++ [r]) K Z) := by
    rw [Dk.app, if_neg (by simp [onD]), if_neg (by rw [enc_len]; show ¬ Z - (encs ls).length < _; omega), if_neg (by simp [onD])]
    show (0, (⟨encs ls ++ enc r, K, Z, 0 - 1, false⟩ : Dk)) = _
    unfold onD
    rw [encs_append, encs_cons]
    simp [encs]
  rw [appL, if_neg (by omega), ha, if_pos rfl]
theorem on_full (ls : List (List UInt8)) (K Z n : Nat) (r : List UInt8) (hr : r.length ≤ 16384) (hl : (encs ls).length ≤ Z) (hz : Z < (encs ls).length + 8 + r.length) : appL (onD ls K Z) n r = (19, n, onD ls K Z) := by
  have ha : (onD ls K Z).app (enc r) = (19, onD ls K Z) := by
    rw [Dk.app, if_neg (by simp [onD]), if_pos (by rw [enc_len]; show Z - (encs ls).length < _; omega)]
  rw [appL, if_neg (by omega), ha, if_neg (by simp)]
theorem on_sync (ls : List (List UInt8)) (K Z n k : Nat) : syncL (onD ls K Z) n k = (0, n, onD ls (encs ls).length Z) := by
  have hs : (onD ls K Z).sync = (0, onD ls (encs ls).length Z) := by
    rw [Dk.sync, Dk.cut, if_neg (by simp [onD]), if_neg (by omega), if_neg (by simp [onD])]
    show (0, (⟨(encs ls).take ((encs ls).length : Int).toNat, ((encs ls).length : Int).toNat, Z, 0 - 1, false⟩ : Dk)) = _
    rw [Int.toNat_natCast, List.take_length]
    rfl
  rw [syncL, hs, if_pos rfl]
theorem encs_le (m : Nat) : ∀ (ls : List (List UInt8)), (∀ r ∈ ls, r.length ≤ m) → (encs ls).length ≤ ls.length * (8 + m)
  | [], _ => Nat.zero_le _
  | r :: l, h => by
    have h1 := h r (by simp)
    have h2 := encs_le m l (fun x hx => h x (by simp [hx]))
    rw [encs_cons, List.length_append, enc_len, List.length_cons, Nat.succ_mul]
    omega
theorem all_snoc {m : Nat} {ls : List (List UInt8)} {r : List UInt8} (h : ∀ x ∈ ls, x.length ≤ m) (hr : r.length ≤ m) : ∀ x ∈ ls ++ [r], x.length ≤ m := fun x hx => by
  rcases List.mem_append.1 hx with h1 | h1
  · exact h x h1
  · rw [List.mem_singleton.1 h1]; exact hr

/-- The first elements of a slice of slices that came in. -/
def Front (w : World) (ao : Option Addr) (ls : List (List UInt8)) : Prop :=
  ∀ j l, ls[j]? = some l → ∃ kb ko so sc, ao = some ⟨kb, ko, none⟩ ∧ w.cell? ⟨kb, ko + j, none⟩ = some (.slice so (List.length l) sc) ∧ Reads w (.slice so (List.length l) sc) (B l) ∧ sc ≤ maxLen
theorem Front.nil (w : World) (ao : Option Addr) : Front w ao [] := fun j l h => by cases h
theorem Front.snoc {w : World} {ls : List (List UInt8)} {kb ko : Nat} {so : Option Addr} {sc : Nat} {l : List UInt8} (h : Front w (some ⟨kb, ko, none⟩) ls) (hc : w.cell? ⟨kb, ko + ls.length, none⟩ = some (.slice so l.length sc)) (hr : Reads w (.slice so l.length sc) (B l)) (hs : sc ≤ maxLen) : Front w (some ⟨kb, ko, none⟩) (ls ++ [l]) := fun j l' hj => by
  by_cases hlt : j < ls.length
  · rw [List.getElem?_append_left hlt] at hj
    exact h j l' hj
  · rw [List.getElem?_append_right (by omega)] at hj
    have hj0 : j - ls.length = 0 := by
      rcases Nat.eq_zero_or_pos (j - ls.length) with h | h
      · exact h
      · rw [List.getElem?_eq_none (by simp; omega)] at hj; cases hj
    rw [hj0] at hj
    cases hj
    have : j = ls.length := by omega
    subst this
    exact ⟨kb, ko, so, sc, rfl, hc, hr, hs⟩
/-- l[:n], l what came in. -/
theorem front_cut {w : World} {ao : Option Addr} {len cap n : Nat} {ls : List (List UInt8)} (h : Front w ao ls) (hn : ls.length = n) (hlen : n ≤ len) (hcap : len ≤ cap) (hm : cap ≤ maxLen) :
    ∃ p c, (∀ wx, (Instr.slice 22 (.slice ao len cap) none (some (.int .i64 (n : Int))) none).run Try.prog wx = .ok (.slice p n c) wx) ∧ ∀ w', Below w.heap.size w w' → Parts w' (.slice p n c) ls := by
  by_cases h0 : cap = 0
  · subst h0
    have hl0 : len = 0 := by omega
    have hn0 : n = 0 := by omega
    subst hl0 hn0
    have e : ls = [] := List.eq_nil_of_length_eq_zero hn
    subst e
    refine ⟨ao, 0, fun wx => ?_, fun w' _ => ⟨ao, 0, rfl, Nat.le_refl _, fun _ => rfl, fun ad _ j l hj => by cases hj⟩⟩
    go_simp
  · have hkc : (n : Int) ≤ (cap : Int) := by omega
    refine ⟨ao.map fun x => x.add 0, cap - 0, fun wx => ?_, fun w' hb => ⟨ao.map fun x => x.add 0, cap - 0, by rw [hn], by omega, fun he => ?_, fun ad he j l hj => ?_⟩⟩
    · go_simp
    · cases ls with
      | nil => rfl
      | cons a b =>
        obtain ⟨kb, ko, so, sc, e, _⟩ := h 0 a rfl
        rw [e] at he
        cases he
    · obtain ⟨kb, ko, so, sc, e, h1, h2, h3⟩ := h j l hj
      subst e
      simp only [Option.map_some, Option.some.injEq] at he
      subst he
      refine ⟨so, sc, ?_, h2.later hb, h3⟩
      rw [Addr.add_zero', Addr.add_lit]
      exact cell_later hb h1
end Go.Proofs.Ytifdoneffnfogaa

/- The contract of the laws' own known (chapter 11). -/
namespace Go.Proofs.Ytifdoneffnfogaa
open Go.RowKit
set_option linter.unusedSimpArgs false
set_option linter.unusedVariables false

set_option maxRecDepth 100000 in
set_option maxHeartbeats 2000000 in
theorem known11_any (w : World) : Calls Try.prog 9 #[] w fun e w' => e = .returned (.bool true) ∧ Below w.heap.size w w' := by
  obtain ⟨L, hL⟩ : ∃ L, w.heap.size = L := ⟨_, rfl⟩
  have HL := hid hL
  rw [hL]
  clear hL
  go_enter Try.func9, Try.ntmps9
  go_wp2_with fail
  refine (kNew_at (L := L) (w := w) 100 (Below.refl _ _) (by rw [HL.out]; exact Nat.le_refl _)).mono ?_
  rintro _ w1 ⟨d, r, rfl, hK, _, _, _⟩
  rw [show Dk.new 100 = onD [] 0 100 from on_new 100 (by omega)] at hK
  have HK := hid hK
  clear hK
  go_wp2_with fail
  refine (lgOpen_at HK.out [] _ 0 (on_open [] (by simp) 0 100) rfl).mono ?_
  rintro _ w2 ⟨q, ro, rc, rfl, hL, hR, _, _⟩
  have HLD := hid hL
  clear hL hR
  go_wp2_with fail
  refine (lgCount_any q d 0 0 _ HLD.out.lb).mono ?_
  rintro _ wx ⟨rfl, hwx⟩
  rw [hwx]
  clear hwx wx
  go_wp2_with fail
  refine (lgSafe_any q d 0 0 _ HLD.out.lb).mono ?_
  rintro _ wx ⟨rfl, hwx⟩
  rw [hwx]
  clear hwx wx
  go_wp2_with fail
  go_ret
  exact ⟨rfl, HLD.out.kd.bel⟩
end Go.Proofs.Ytifdoneffnfogaa

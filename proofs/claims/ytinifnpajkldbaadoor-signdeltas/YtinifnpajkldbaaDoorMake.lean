/- The contracts of the laws' own functions: within, Make, Doc. -/
import Derived.Test.YtinifnpajkldbaaDoorPk25
import Derived.Test.YtinifnpajkldbaaDoorPk4
import Derived.Test.YtinifnpajkldbaaDoorNormS
import Derived.WalkLawsBesides
import Derived.Test.YtinifnpajkldbaaDoorQ9b40
namespace Go.Proofs.YtinifnpajkldbaaDoor
open Go.RowKit
set_option linter.unusedSimpArgs false
set_option linter.unusedVariables false

set_option maxHeartbeats 400000 in
theorem within_any (a n : Int) (h0 : 0 < n) (h1 : n ≤ 1000) (w : World) :
    Calls Tryd.prog 47 #[.int .i64 a, .int .i64 n] w fun e w' => e = .returned (.int .i64 (a % n)) ∧ w' = w := by
  have h4 := Int.lt_tmod_of_pos a h0
  have h5 := Int.tmod_lt_of_pos a h0
  have hneg := tmod_neg a n h0
  have hpos := tmod_pos a n h0
  have HN : Hid (a.tmod n < 0 → a % n = a.tmod n + n) := hneg
  have HP : Hid (0 ≤ a.tmod n → a % n = a.tmod n) := hpos
  clear hneg hpos
  go_enter Tryd.func47, Tryd.ntmps47
  go_wp2
  · go_ret
    exact ⟨by rw [HN.out (by assumption)]; rfl, rfl⟩
  · go_ret
    exact ⟨by rw [HP.out (by assumption)]; rfl, rfl⟩

/-- A part that Check lets by. -/
def Cp.Val (c : Cp) : Prop := ((c.k = 1 ∨ c.k = 3) ∧ 1 ≤ c.n ∧ c.n ≤ 120 ∧ c.s.size = 0) ∨ (c.k = 2 ∧ c.n = 0 ∧ 1 ≤ c.s.size ∧ c.s.size ≤ 120)
def Vals (o : List Cp) : Prop := ∀ c ∈ o, c.Val
theorem Cp.Val.ok {c : Cp} (h : c.Val) : c.Ok := by
  rcases h with ⟨a, b, c', d⟩ | ⟨a, b, c', d⟩
  · exact .inl ⟨a, b, d⟩
  · exact .inr ⟨a, b, c'⟩
theorem Vals.good {o : List Cp} (h : Vals o) : Good o := fun c hc => (h c hc).ok
theorem Vals.fit {o : List Cp} (h : Vals o) (hl : o.length ≤ 1048576) : Fit o := ⟨hl, fun c hc => by
  rcases h c hc with ⟨a, b, c', d⟩ | ⟨a, b, c', d⟩ <;> omega⟩
theorem Vals.append {o p : List Cp} (h : Vals o) (k : Vals p) : Vals (o ++ p) := fun c hc => (List.mem_append.1 hc).elim (h c) (k c)
theorem val_K {n : Int} (h1 : 1 ≤ n) (h2 : n ≤ 120) : Vals [pK n] := by
  intro c hc; simp only [List.mem_singleton] at hc; subst hc; exact .inl ⟨.inl rfl, h1, h2, rfl⟩
theorem val_X {n : Int} (h1 : 1 ≤ n) (h2 : n ≤ 120) : Vals [pX n] := by
  intro c hc; simp only [List.mem_singleton] at hc; subst hc; exact .inl ⟨.inr rfl, h1, h2, rfl⟩
theorem val_P {s : ByteArray} (h1 : 1 ≤ s.size) (h2 : s.size ≤ 120) : Vals [pP s] := by
  intro c hc; simp only [List.mem_singleton] at hc; subst hc; exact .inr ⟨rfl, rfl, h1, h2⟩
theorem in_K (n : Int) : inS [pK n] = n := by simp [inS, pK, Cp.over]
theorem in_X (n : Int) : inS [pX n] = n := by simp [inS, pX, Cp.over]
theorem in_P (s : ByteArray) : inS [pP s] = 0 := by simp [inS, pP, Cp.over]
theorem em_size : Em.size = 0 := rfl
theorem out_K (n : Int) : outS [pK n] = n := by simp [outS, pK, Cp.outl, em_size]
theorem out_X (n : Int) : outS [pX n] = 0 := by simp [outS, pX, Cp.outl, em_size]
theorem out_P (s : ByteArray) : outS [pP s] = s.size := by simp [outS, pP, Cp.outl]

/-- The numbers of a slice that came in, each within its kind. -/
def NS (w : World) (ao : Option Addr) (len : Nat) : Prop := ∀ j, j < len → ∃ b off x, ao = some ⟨b, off, none⟩ ∧ w.cell? ⟨b, off + j, none⟩ = some (.int .i64 x) ∧ -9223372036854775808 ≤ x ∧ x ≤ 9223372036854775807
theorem NS.later {w w' : World} {ao : Option Addr} {len : Nat} (h : NS w ao len) (hb : Below w.heap.size w w') : NS w' ao len := fun j hj => by
  obtain ⟨b, off, x, h1, h2, h3⟩ := h j hj
  exact ⟨b, off, x, h1, cell_later hb h2, h3⟩
theorem ns_of_row {w : World} {a : Option Addr} {len cap : Nat} {zs : List Int} (h : IsRow .i64 w a len cap zs) : NS w a len := by
  rcases h with ⟨rfl, rfl, rfl, rfl⟩ | ⟨ad, rfl, h1, h2, h3, h4, h5⟩
  · exact fun j hj => absurd hj (Nat.not_lt_zero j)
  · intro j hj
    obtain ⟨b, off, sp⟩ := ad
    have h0 := h4 0 (by omega)
    have hsp : sp = none := by
      cases sp with
      | none => rfl
      | some z => simp [Addr.add, World.cell?] at h0; split at h0 <;> simp at h0
    subst hsp
    have hjz : j < zs.length := by omega
    have hw := wf_i64 (h5 zs[j] (List.getElem_mem hjz))
    have e1 : zs.getD j 0 = zs[j] := by rw [List.getD_eq_getElem?_getD, List.getElem?_eq_getElem hjz]; rfl
    have hc := h4 j hjz
    rw [Addr.add_lit, e1] at hc
    exact ⟨b, off, zs[j], rfl, hc, hw.1, hw.2⟩
theorem len_of_row {w : World} {k : IntKind} {a : Option Addr} {len cap : Nat} {zs : List Int} (h : IsRow k w a len cap zs) : len ≤ 9223372036854775807 := by
  rcases h with ⟨rfl, rfl, rfl, rfl⟩ | ⟨ad, rfl, h1, h2, h3, h4, h5⟩
  · omega
  · unfold maxLen at h2; omega

/-- What Make makes of n bytes. -/
structure Made (n : Nat) (o : List Cp) : Prop where
  vals : Vals o
  ins : inS o = n
  outs : outS o ≤ 120
  len : o.length ≤ 14
theorem Made.good {n : Nat} {o : List Cp} (h : Made n o) : Good o := h.vals.good
theorem Made.fit {n : Nat} {o : List Cp} (h : Made n o) : Fit o := h.vals.fit (by have := h.len; omega)

def abc : ByteArray := ⟨#[97, 98, 99, 100, 101, 102, 103, 104, 105, 106]⟩
theorem abc_cut (r : Nat) (hr : r < 5) : ∃ s : ByteArray, s.size = 1 + r ∧ ∀ wx, (Instr.slice 9 (.string ⟨#[97, 98, 99, 100, 101, 102, 103, 104, 105, 106]⟩) none (some (.int .i64 (1 + (r : Int)))) none).run Tryd.prog wx = .ok (.string s) wx := by
  refine ⟨abc.extract 0 (1 + r), ?_, fun wx => ?_⟩
  · rw [ByteArray.size_extract]
    have : abc.size = 10 := rfl
    omega
  · have h0 : (0 : Int) ≤ 1 + (r : Int) := by omega
    have h1 : 1 + (r : Int) ≤ ((⟨#[97, 98, 99, 100, 101, 102, 103, 104, 105, 106]⟩ : ByteArray).size : Int) := by
      have : (⟨#[97, 98, 99, 100, 101, 102, 103, 104, 105, 106]⟩ : ByteArray).size = 10 := rfl
      omega
    have e : (1 + (r : Int)).toNat = 1 + r := by omega
    rw [run_slice_string_h (ht := Tryd.underlying9) (h0 := h0) (h2 := h1), e]
    rfl

/-- What holds at the head of a round of Make. -/
structure MI (n m : Nat) (q : Int) (j : Nat) (o : List Cp) : Prop where
  vals : Vals o
  ins : inS o + m = n
  outs : outS o + m = q
  top : q ≤ 120
  len : o.length ≤ j

theorem MI.keep {n m : Nat} {q : Int} {j : Nat} {o : List Cp} (h : MI n m q j o) (k : Nat) (h1 : 1 ≤ k) (h2 : k ≤ m) (h3 : k ≤ 120) : MI n (m - k) q (j + 1) (o ++ [pK k]) :=
  ⟨h.vals.append (val_K (by omega) (by omega)), by rw [inS_append, in_K]; have := h.ins; omega, by rw [outS_append, out_K]; have := h.outs; omega, h.top, by rw [List.length_append]; have := h.len; simp; omega⟩
theorem MI.cut {n m : Nat} {q : Int} {j : Nat} {o : List Cp} (h : MI n m q j o) (k : Nat) (h1 : 1 ≤ k) (h2 : k ≤ m) (h3 : k ≤ 120) : MI n (m - k) (q - k) (j + 1) (o ++ [pX k]) :=
  ⟨h.vals.append (val_X (by omega) (by omega)), by rw [inS_append, in_X]; have := h.ins; omega, by rw [outS_append, out_X]; have := h.outs; omega, by have := h.top; omega, by rw [List.length_append]; have := h.len; simp; omega⟩
theorem MI.put {n m : Nat} {q : Int} {j : Nat} {o : List Cp} (h : MI n m q j o) (s : ByteArray) (h1 : 1 ≤ s.size) (h2 : s.size ≤ 120) (h3 : q + s.size ≤ 120) : MI n m (q + s.size) (j + 1) (o ++ [pP s]) :=
  ⟨h.vals.append (val_P h1 h2), by rw [inS_append, in_P]; have := h.ins; omega, by rw [outS_append, out_P]; have := h.outs; omega, h3, by rw [List.length_append]; have := h.len; simp; omega⟩
theorem MI.up {n m : Nat} {q : Int} {j : Nat} {o : List Cp} (h : MI n m q j o) : MI n m q (j + 1) o := ⟨h.vals, h.ins, h.outs, h.top, by have := h.len; omega⟩

set_option maxRecDepth 100000 in
set_option maxHeartbeats 4000000 in
theorem Make_any (n : Nat) (hn : n ≤ 120) (ao : Option Addr) (len cap : Nat) (w : World) (hns : NS w ao len) (hcap : len ≤ cap) (hlen : len ≤ 9223372036854775807) :
    Calls Tryd.prog 21 #[.int .i64 n, .slice ao len cap] w fun e w' => ∃ v, e = .returned v ∧ ∃ o, HasC w' w.heap.size v o ∧ Below w.heap.size w w' ∧ Made n o := by
  have HNS := hid hns
  clear hns
  go_enter Tryd.func21, Tryd.ntmps21
  go_wp2_with fail
  go_loopw [0, 5, 6, 7] (fun nv ov qv i wr => ∃ (j m : Nat) (q : Int) (o : List Cp), j ≤ 12 ∧ nv = .int .i64 m ∧ i = .int .i64 j ∧ qv = .int .i64 q ∧ HasC wr w.heap.size ov o ∧ Below w.heap.size w wr ∧ MI n m q j o) (fun _ _ _ i _ => 12 - (intOf i).toNat)
  case atStart => exact ⟨0, n, n, [], by omega, rfl, rfl, rfl, HasC.nil _ _, Below.refl _ _, ⟨fun c hc => by simp at hc, by simp [inS], by simp [outS], by omega, by simp⟩⟩
  case round =>
    obtain ⟨j, m, q, o, hj, rfl, rfl, rfl, hH, hb, hM⟩ := hrel
    obtain ⟨ov, oc, rfl⟩ := hH.form
    have H0 := hid hH
    have Hb := hid hb
    have HM := hid hM
    have hol := hM.len
    have hqb : -100 ≤ q ∧ q ≤ 120 := by
      have h1 := (outS_le o (hM.vals.fit (by omega)).2).1
      have := hM.outs
      have := hM.top
      omega
    have hmb : m ≤ 120 := by
      have h1 := (inS_le o (hM.vals.fit (by omega)).2).1
      have := hM.ins
      omega
    clear hH hb hM
    by_cases hgo : j < len ∧ j < 12 ∧ 0 < m
    case neg =>
      have hex : j ≥ len ∨ (j < len ∧ j ≥ 12) ∨ (j < len ∧ j < 12 ∧ m = 0) := by omega
      -- behind the loop
      have HMD := hid (show ∀ o2, (m = 0 → o2 = o) → (0 < m → o2 = o ++ [pK m]) → Made n o2 ∧ outS o2 = q ∧ o2.length ≤ 13 by
        intro o2 h1 h2
        by_cases h0 : m = 0
        · rw [h1 h0]
          have hi := HM.out.ins
          have ho := HM.out.outs
          exact ⟨⟨HM.out.vals, by omega, by omega, by omega⟩, by omega, by omega⟩
        · rw [h2 (by omega)]
          have hi := HM.out.ins
          have ho := HM.out.outs
          exact ⟨⟨HM.out.vals.append (val_K (by omega) (by omega)), by rw [inS_append, in_K]; omega, by rw [outS_append, out_K]; omega, by rw [List.length_append]; simp; omega⟩, by rw [outS_append, out_K]; omega, by rw [List.length_append]; simp; omega⟩)
      rcases hex with hex | ⟨hex1, hex2⟩ | ⟨hex1, hex2, hex3⟩
      · have x1 : ¬ (j : Int) < (len : Int) := by omega
        clear hgo
        by_cases h0 : 0 < m
        case pos =>
          have x3 : (0 : Int) < (m : Int) := by omega
          go_wp2_with (at_builtin; go_must (refine wpList_append_c rfl _ _ rfl w.heap.size _ o rfl (H0.out.later ((Below.refl _ _).alloc (Nat.le_refl _) _)) ?hs _ [pK m] rfl (one_new wr (pK m) w.heap.size Hb.out.size).reads ?hb ?_))
          case hs => have := Hb.out.size; first | omega | (simp; omega)
          case hb => first | omega | (simp; omega)
          intro v3 w3 hH3 hb3
          obtain ⟨o3, ho3⟩ : ∃ o3, o ++ [pK m] = o3 := ⟨_, rfl⟩
          have hol3 : o3.length ≤ o.length + 1 := by rw [← ho3, List.length_append]; exact Nat.le_refl _
          rw [ho3] at hH3
          obtain ⟨a3, c3, rfl⟩ := hH3.form
          have H3 := hid hH3
          have Hb3 := hid (show Below w.heap.size w w3 from (Hb.out.alloc Hb.out.size _).trans hb3)
          have HO3 := hid ho3
          clear hH3 hb3 ho3
          have HZ := hid (HMD.out o3 (fun h => by omega) (fun _ => HO3.out.symm))
          by_cases hl0 : 0 < len
          case pos =>
            have y1 : (0 : Int) < (len : Int) := by omega
            obtain ⟨b, off, z, rfl, hc, hz1, hz2⟩ := HNS.out 0 hl0
            rw [Nat.add_zero] at hc
            replace hc := cell_later Hb3.out hc
            go_wp2_with fail
            refine (within_any _ 3 (by omega) (by omega) _).mono ?_
            rintro _ w5 ⟨rfl, rfl⟩
            generalize z.tdiv 3 % 3 = t
            by_cases ht : t = 0
            case pos =>
              subst ht
              by_cases hq : q ≤ 115
              case pos =>
                go_wp2_with (at_builtin; go_must (refine wpList_append_c rfl _ _ rfl w.heap.size _ o3 rfl (H3.out.later ((Below.refl _ _).alloc (Nat.le_refl _) _)) ?hs _ [pP ⟨#[122]⟩] rfl (one_new _ (pP ⟨#[122]⟩) w.heap.size Hb3.out.size).reads ?hb ?_))
                case hs => have := Hb3.out.size; first | omega | (simp; omega)
                case hb => first | omega | (simp; omega)
                intro v7 w7 hH7 hb7
                obtain ⟨o7, ho7⟩ : ∃ o7, o3 ++ [pP ⟨#[122]⟩] = o7 := ⟨_, rfl⟩
                have hol7 : o7.length ≤ o3.length + 1 := by rw [← ho7, List.length_append]; exact Nat.le_refl _
                rw [ho7] at hH7
                obtain ⟨a7, c7, rfl⟩ := hH7.form
                have H7 := hid hH7
                have Hb7 := hid (show Below w.heap.size w w7 from (Hb3.out.alloc Hb3.out.size _).trans hb7)
                have HO7 := hid ho7
                clear hH7 hb7 ho7
                go_wp2_with fail
                go_ret
                refine ⟨_, rfl, _, H7.out, Hb7.out, ?_⟩
                rw [← HO7.out]
                have hz := HZ.out
                exact ⟨hz.1.vals.append (val_P (by decide) (by decide)), by rw [inS_append, in_P, hz.1.ins]; omega, by rw [outS_append, out_P, hz.2.1]; have : (⟨#[122]⟩ : ByteArray).size = 1 := rfl; omega, by rw [List.length_append]; have := hz.2.2; simp; omega⟩
              case neg =>
                go_wp2_with fail
                go_ret
                exact ⟨_, rfl, _, H3.out, Hb3.out, HZ.out.1⟩
            case neg =>
              have hte : (t == 0) = false := by simpa using ht
              go_wp2_with fail
              go_ret
              exact ⟨_, rfl, _, H3.out, Hb3.out, HZ.out.1⟩
          case neg =>
            have y1 : ¬ (0 : Int) < (len : Int) := by omega
            go_wp2_with fail
            go_ret
            exact ⟨_, rfl, _, H3.out, Hb3.out, HZ.out.1⟩
        case neg =>
          have hm0 : m = 0 := by omega
          subst hm0
          have HZ := hid (HMD.out o (fun _ => rfl) (fun h => by omega))
          by_cases hl0 : 0 < len
          case pos =>
            have y1 : (0 : Int) < (len : Int) := by omega
            obtain ⟨b, off, z, rfl, hc, hz1, hz2⟩ := HNS.out 0 hl0
            rw [Nat.add_zero] at hc
            replace hc := cell_later Hb.out hc
            go_wp2_with fail
            refine (within_any _ 3 (by omega) (by omega) _).mono ?_
            rintro _ w5 ⟨rfl, rfl⟩
            generalize z.tdiv 3 % 3 = t
            by_cases ht : t = 0
            case pos =>
              subst ht
              by_cases hq : q ≤ 115
              case pos =>
                go_wp2_with (at_builtin; go_must (refine wpList_append_c rfl _ _ rfl w.heap.size _ o rfl (H0.out.later ((Below.refl _ _).alloc (Nat.le_refl _) _)) ?hs _ [pP ⟨#[122]⟩] rfl (one_new _ (pP ⟨#[122]⟩) w.heap.size Hb.out.size).reads ?hb ?_))
                case hs => have := Hb.out.size; first | omega | (simp; omega)
                case hb => first | omega | (simp; omega)
                intro v7 w7 hH7 hb7
                obtain ⟨o7, ho7⟩ : ∃ o7, o ++ [pP ⟨#[122]⟩] = o7 := ⟨_, rfl⟩
                have hol7 : o7.length ≤ o.length + 1 := by rw [← ho7, List.length_append]; exact Nat.le_refl _
                rw [ho7] at hH7
                obtain ⟨a7, c7, rfl⟩ := hH7.form
                have H7 := hid hH7
                have Hb7 := hid (show Below w.heap.size w w7 from (Hb.out.alloc Hb.out.size _).trans hb7)
                have HO7 := hid ho7
                clear hH7 hb7 ho7
                go_wp2_with fail
                go_ret
                refine ⟨_, rfl, _, H7.out, Hb7.out, ?_⟩
                rw [← HO7.out]
                have hz := HZ.out
                exact ⟨hz.1.vals.append (val_P (by decide) (by decide)), by rw [inS_append, in_P, hz.1.ins]; omega, by rw [outS_append, out_P, hz.2.1]; have : (⟨#[122]⟩ : ByteArray).size = 1 := rfl; omega, by rw [List.length_append]; have := hz.2.2; simp; omega⟩
              case neg =>
                go_wp2_with fail
                go_ret
                exact ⟨_, rfl, _, H0.out, Hb.out, HZ.out.1⟩
            case neg =>
              have hte : (t == 0) = false := by simpa using ht
              go_wp2_with fail
              go_ret
              exact ⟨_, rfl, _, H0.out, Hb.out, HZ.out.1⟩
          case neg =>
            have y1 : ¬ (0 : Int) < (len : Int) := by omega
            go_wp2_with fail
            go_ret
            exact ⟨_, rfl, _, H0.out, Hb.out, HZ.out.1⟩
      · have x1 : (j : Int) < (len : Int) := by omega
        have x2 : ¬ (j : Int) < 12 := by omega
        clear hgo
        by_cases h0 : 0 < m
        case pos =>
          have x3 : (0 : Int) < (m : Int) := by omega
          go_wp2_with (at_builtin; go_must (refine wpList_append_c rfl _ _ rfl w.heap.size _ o rfl (H0.out.later ((Below.refl _ _).alloc (Nat.le_refl _) _)) ?hs _ [pK m] rfl (one_new wr (pK m) w.heap.size Hb.out.size).reads ?hb ?_))
          case hs => have := Hb.out.size; first | omega | (simp; omega)
          case hb => first | omega | (simp; omega)
          intro v3 w3 hH3 hb3
          obtain ⟨o3, ho3⟩ : ∃ o3, o ++ [pK m] = o3 := ⟨_, rfl⟩
          have hol3 : o3.length ≤ o.length + 1 := by rw [← ho3, List.length_append]; exact Nat.le_refl _
          rw [ho3] at hH3
          obtain ⟨a3, c3, rfl⟩ := hH3.form
          have H3 := hid hH3
          have Hb3 := hid (show Below w.heap.size w w3 from (Hb.out.alloc Hb.out.size _).trans hb3)
          have HO3 := hid ho3
          clear hH3 hb3 ho3
          have HZ := hid (HMD.out o3 (fun h => by omega) (fun _ => HO3.out.symm))
          by_cases hl0 : 0 < len
          case pos =>
            have y1 : (0 : Int) < (len : Int) := by omega
            obtain ⟨b, off, z, rfl, hc, hz1, hz2⟩ := HNS.out 0 hl0
            rw [Nat.add_zero] at hc
            replace hc := cell_later Hb3.out hc
            go_wp2_with fail
            refine (within_any _ 3 (by omega) (by omega) _).mono ?_
            rintro _ w5 ⟨rfl, rfl⟩
            generalize z.tdiv 3 % 3 = t
            by_cases ht : t = 0
            case pos =>
              subst ht
              by_cases hq : q ≤ 115
              case pos =>
                go_wp2_with (at_builtin; go_must (refine wpList_append_c rfl _ _ rfl w.heap.size _ o3 rfl (H3.out.later ((Below.refl _ _).alloc (Nat.le_refl _) _)) ?hs _ [pP ⟨#[122]⟩] rfl (one_new _ (pP ⟨#[122]⟩) w.heap.size Hb3.out.size).reads ?hb ?_))
                case hs => have := Hb3.out.size; first | omega | (simp; omega)
                case hb => first | omega | (simp; omega)
                intro v7 w7 hH7 hb7
                obtain ⟨o7, ho7⟩ : ∃ o7, o3 ++ [pP ⟨#[122]⟩] = o7 := ⟨_, rfl⟩
                have hol7 : o7.length ≤ o3.length + 1 := by rw [← ho7, List.length_append]; exact Nat.le_refl _
                rw [ho7] at hH7
                obtain ⟨a7, c7, rfl⟩ := hH7.form
                have H7 := hid hH7
                have Hb7 := hid (show Below w.heap.size w w7 from (Hb3.out.alloc Hb3.out.size _).trans hb7)
                have HO7 := hid ho7
                clear hH7 hb7 ho7
                go_wp2_with fail
                go_ret
                refine ⟨_, rfl, _, H7.out, Hb7.out, ?_⟩
                rw [← HO7.out]
                have hz := HZ.out
                exact ⟨hz.1.vals.append (val_P (by decide) (by decide)), by rw [inS_append, in_P, hz.1.ins]; omega, by rw [outS_append, out_P, hz.2.1]; have : (⟨#[122]⟩ : ByteArray).size = 1 := rfl; omega, by rw [List.length_append]; have := hz.2.2; simp; omega⟩
              case neg =>
                go_wp2_with fail
                go_ret
                exact ⟨_, rfl, _, H3.out, Hb3.out, HZ.out.1⟩
            case neg =>
              have hte : (t == 0) = false := by simpa using ht
              go_wp2_with fail
              go_ret
              exact ⟨_, rfl, _, H3.out, Hb3.out, HZ.out.1⟩
          case neg =>
            have y1 : ¬ (0 : Int) < (len : Int) := by omega
            go_wp2_with fail
            go_ret
            exact ⟨_, rfl, _, H3.out, Hb3.out, HZ.out.1⟩
        case neg =>
          have hm0 : m = 0 := by omega
          subst hm0
          have HZ := hid (HMD.out o (fun _ => rfl) (fun h => by omega))
          by_cases hl0 : 0 < len
          case pos =>
            have y1 : (0 : Int) < (len : Int) := by omega
            obtain ⟨b, off, z, rfl, hc, hz1, hz2⟩ := HNS.out 0 hl0
            rw [Nat.add_zero] at hc
            replace hc := cell_later Hb.out hc
            go_wp2_with fail
            refine (within_any _ 3 (by omega) (by omega) _).mono ?_
            rintro _ w5 ⟨rfl, rfl⟩
            generalize z.tdiv 3 % 3 = t
            by_cases ht : t = 0
            case pos =>
              subst ht
              by_cases hq : q ≤ 115
              case pos =>
                go_wp2_with (at_builtin; go_must (refine wpList_append_c rfl _ _ rfl w.heap.size _ o rfl (H0.out.later ((Below.refl _ _).alloc (Nat.le_refl _) _)) ?hs _ [pP ⟨#[122]⟩] rfl (one_new _ (pP ⟨#[122]⟩) w.heap.size Hb.out.size).reads ?hb ?_))
                case hs => have := Hb.out.size; first | omega | (simp; omega)
                case hb => first | omega | (simp; omega)
                intro v7 w7 hH7 hb7
                obtain ⟨o7, ho7⟩ : ∃ o7, o ++ [pP ⟨#[122]⟩] = o7 := ⟨_, rfl⟩
                have hol7 : o7.length ≤ o.length + 1 := by rw [← ho7, List.length_append]; exact Nat.le_refl _
                rw [ho7] at hH7
                obtain ⟨a7, c7, rfl⟩ := hH7.form
                have H7 := hid hH7
                have Hb7 := hid (show Below w.heap.size w w7 from (Hb.out.alloc Hb.out.size _).trans hb7)
                have HO7 := hid ho7
                clear hH7 hb7 ho7
                go_wp2_with fail
                go_ret
                refine ⟨_, rfl, _, H7.out, Hb7.out, ?_⟩
                rw [← HO7.out]
                have hz := HZ.out
                exact ⟨hz.1.vals.append (val_P (by decide) (by decide)), by rw [inS_append, in_P, hz.1.ins]; omega, by rw [outS_append, out_P, hz.2.1]; have : (⟨#[122]⟩ : ByteArray).size = 1 := rfl; omega, by rw [List.length_append]; have := hz.2.2; simp; omega⟩
              case neg =>
                go_wp2_with fail
                go_ret
                exact ⟨_, rfl, _, H0.out, Hb.out, HZ.out.1⟩
            case neg =>
              have hte : (t == 0) = false := by simpa using ht
              go_wp2_with fail
              go_ret
              exact ⟨_, rfl, _, H0.out, Hb.out, HZ.out.1⟩
          case neg =>
            have y1 : ¬ (0 : Int) < (len : Int) := by omega
            go_wp2_with fail
            go_ret
            exact ⟨_, rfl, _, H0.out, Hb.out, HZ.out.1⟩
      · have x1 : (j : Int) < (len : Int) := by omega
        have x2 : (j : Int) < 12 := by omega
        subst hex3
        have HZ := hid (HMD.out o (fun _ => rfl) (fun h => by omega))
        by_cases hl0 : 0 < len
        case pos =>
          have y1 : (0 : Int) < (len : Int) := by omega
          obtain ⟨b, off, z, rfl, hc, hz1, hz2⟩ := HNS.out 0 hl0
          rw [Nat.add_zero] at hc
          replace hc := cell_later Hb.out hc
          go_wp2_with fail
          refine (within_any _ 3 (by omega) (by omega) _).mono ?_
          rintro _ w5 ⟨rfl, rfl⟩
          generalize z.tdiv 3 % 3 = t
          by_cases ht : t = 0
          case pos =>
            subst ht
            by_cases hq : q ≤ 115
            case pos =>
              go_wp2_with (at_builtin; go_must (refine wpList_append_c rfl _ _ rfl w.heap.size _ o rfl (H0.out.later ((Below.refl _ _).alloc (Nat.le_refl _) _)) ?hs _ [pP ⟨#[122]⟩] rfl (one_new _ (pP ⟨#[122]⟩) w.heap.size Hb.out.size).reads ?hb ?_))
              case hs => have := Hb.out.size; first | omega | (simp; omega)
              case hb => first | omega | (simp; omega)
              intro v7 w7 hH7 hb7
              obtain ⟨o7, ho7⟩ : ∃ o7, o ++ [pP ⟨#[122]⟩] = o7 := ⟨_, rfl⟩
              have hol7 : o7.length ≤ o.length + 1 := by rw [← ho7, List.length_append]; exact Nat.le_refl _
              rw [ho7] at hH7
              obtain ⟨a7, c7, rfl⟩ := hH7.form
              have H7 := hid hH7
              have Hb7 := hid (show Below w.heap.size w w7 from (Hb.out.alloc Hb.out.size _).trans hb7)
              have HO7 := hid ho7
              clear hH7 hb7 ho7
              go_wp2_with fail
              go_ret
              refine ⟨_, rfl, _, H7.out, Hb7.out, ?_⟩
              rw [← HO7.out]
              have hz := HZ.out
              exact ⟨hz.1.vals.append (val_P (by decide) (by decide)), by rw [inS_append, in_P, hz.1.ins]; omega, by rw [outS_append, out_P, hz.2.1]; have : (⟨#[122]⟩ : ByteArray).size = 1 := rfl; omega, by rw [List.length_append]; have := hz.2.2; simp; omega⟩
            case neg =>
              go_wp2_with fail
              go_ret
              exact ⟨_, rfl, _, H0.out, Hb.out, HZ.out.1⟩
          case neg =>
            have hte : (t == 0) = false := by simpa using ht
            go_wp2_with fail
            go_ret
            exact ⟨_, rfl, _, H0.out, Hb.out, HZ.out.1⟩
        case neg =>
          have y1 : ¬ (0 : Int) < (len : Int) := by omega
          go_wp2_with fail
          go_ret
          exact ⟨_, rfl, _, H0.out, Hb.out, HZ.out.1⟩
    case pos =>
      obtain ⟨g1, g2, g3⟩ := hgo
      have x1 : (j : Int) < (len : Int) := by omega
      have x2 : (j : Int) < 12 := by omega
      have x3 : (0 : Int) < (m : Int) := by omega
      obtain ⟨b, off, z, rfl, hc, hz1, hz2⟩ := HNS.out j g1
      replace hc := cell_later Hb.out hc
      obtain ⟨d, hif, hd1, hd2, hd3⟩ : ∃ d : Int, (if (9 : Int) < (m : Int) then (9 : Int) else (m : Int)) = d ∧ 0 < d ∧ d ≤ m ∧ d ≤ 9 := ⟨_, rfl, by split <;> omega, by split <;> omega, by split <;> omega⟩
      go_wp2_with fail
      refine (within_any _ d hd1 (by omega) _).mono ?_
      rintro _ w2 ⟨rfl, rfl⟩
      obtain ⟨r, hr⟩ : ∃ r : Nat, z.tdiv 7 % d = (r : Int) := Int.eq_ofNat_of_zero_le (Int.emod_nonneg _ (by omega))
      have hr1 : (r : Int) < d := by rw [← hr]; exact Int.emod_lt_of_pos _ hd1
      rw [hr]
      have HIF := hid hif
      clear hr hif
      go_wp2_with fail
      refine (within_any _ 4 (by omega) (by omega) _).mono ?_
      rintro _ w3 ⟨rfl, rfl⟩
      obtain ⟨t, ht⟩ : ∃ t : Int, z % 4 = t := ⟨_, rfl⟩
      have ht4 : t = 0 ∨ t = 1 ∨ t = 2 ∨ t = 3 := by omega
      rw [ht]
      clear ht
      have hk : ((1 + r : Nat) : Int) = 1 + (r : Int) := by omega
      have hmk : ((m - (1 + r) : Nat) : Int) = (m : Int) - (1 + (r : Int)) := by omega
      have HK := hid hk
      have HMK := hid hmk
      clear hk hmk
      rcases ht4 with rfl | rfl | rfl | rfl
      · go_wp2_with (at_builtin; go_must (refine wpList_append_c rfl _ _ rfl w.heap.size _ o rfl (H0.out.later ((Below.refl _ _).alloc (Nat.le_refl _) _)) ?hs _ [pK (1 + (r : Int))] rfl (one_new _ (pK (1 + (r : Int))) w.heap.size Hb.out.size).reads ?hb ?_))
        case hs => have := Hb.out.size; first | omega | (simp; omega)
        case hb => first | omega | (simp; omega)
        intro v5 w5 hH5 hb5
        obtain ⟨o5, ho5⟩ : ∃ o5, o ++ [pK (1 + (r : Int))] = o5 := ⟨_, rfl⟩
        have hol5 : o5.length ≤ o.length + 1 := by rw [← ho5, List.length_append]; exact Nat.le_refl _
        rw [ho5] at hH5
        obtain ⟨a5, c5, rfl⟩ := hH5.form
        have H5 := hid hH5
        have Hb5 := hid (show Below w.heap.size w w5 from (Hb.out.alloc Hb.out.size _).trans hb5)
        have HO5 := hid ho5
        clear hH5 hb5 ho5
        have HN := hid (show MI n (m - (1 + r)) q (j + 1) o5 by rw [← HO5.out, ← HK.out]; exact HM.out.keep (1 + r) (by omega) (by omega) (by omega))
        go_wp2_with fail
        go_roundw
        case rel => exact ⟨j + 1, m - (1 + r), q, o5, by omega, by rw [HMK.out], by go_num, rfl, H5.out, Hb5.out, HN.out⟩
        case measure => simp [intOf]; omega
      · go_wp2_with (at_builtin; go_must (refine wpList_append_c rfl _ _ rfl w.heap.size _ o rfl (H0.out.later ((Below.refl _ _).alloc (Nat.le_refl _) _)) ?hs _ [pK (1 + (r : Int))] rfl (one_new _ (pK (1 + (r : Int))) w.heap.size Hb.out.size).reads ?hb ?_))
        case hs => have := Hb.out.size; first | omega | (simp; omega)
        case hb => first | omega | (simp; omega)
        intro v5 w5 hH5 hb5
        obtain ⟨o5, ho5⟩ : ∃ o5, o ++ [pK (1 + (r : Int))] = o5 := ⟨_, rfl⟩
        have hol5 : o5.length ≤ o.length + 1 := by rw [← ho5, List.length_append]; exact Nat.le_refl _
        rw [ho5] at hH5
        obtain ⟨a5, c5, rfl⟩ := hH5.form
        have H5 := hid hH5
        have Hb5 := hid (show Below w.heap.size w w5 from (Hb.out.alloc Hb.out.size _).trans hb5)
        have HO5 := hid ho5
        clear hH5 hb5 ho5
        have HN := hid (show MI n (m - (1 + r)) q (j + 1) o5 by rw [← HO5.out, ← HK.out]; exact HM.out.keep (1 + r) (by omega) (by omega) (by omega))
        go_wp2_with fail
        go_roundw
        case rel => exact ⟨j + 1, m - (1 + r), q, o5, by omega, by rw [HMK.out], by go_num, rfl, H5.out, Hb5.out, HN.out⟩
        case measure => simp [intOf]; omega
      · go_wp2_with (at_builtin; go_must (refine wpList_append_c rfl _ _ rfl w.heap.size _ o rfl (H0.out.later ((Below.refl _ _).alloc (Nat.le_refl _) _)) ?hs _ [pX (1 + (r : Int))] rfl (one_new _ (pX (1 + (r : Int))) w.heap.size Hb.out.size).reads ?hb ?_))
        case hs => have := Hb.out.size; first | omega | (simp; omega)
        case hb => first | omega | (simp; omega)
        intro v5 w5 hH5 hb5
        obtain ⟨o5, ho5⟩ : ∃ o5, o ++ [pX (1 + (r : Int))] = o5 := ⟨_, rfl⟩
        have hol5 : o5.length ≤ o.length + 1 := by rw [← ho5, List.length_append]; exact Nat.le_refl _
        rw [ho5] at hH5
        obtain ⟨a5, c5, rfl⟩ := hH5.form
        have H5 := hid hH5
        have Hb5 := hid (show Below w.heap.size w w5 from (Hb.out.alloc Hb.out.size _).trans hb5)
        have HO5 := hid ho5
        clear hH5 hb5 ho5
        have HN := hid (show MI n (m - (1 + r)) (q - ((1 + r : Nat) : Int)) (j + 1) o5 by rw [← HO5.out, ← HK.out]; exact HM.out.cut (1 + r) (by omega) (by omega) (by omega))
        go_wp2_with fail
        go_roundw
        case rel => exact ⟨j + 1, m - (1 + r), q - ((1 + r : Nat) : Int), o5, by omega, by rw [HMK.out], by go_num, by rw [HK.out], H5.out, Hb5.out, HN.out⟩
        case measure => simp [intOf]; omega
      · go_wp2_with fail
        refine (within_any _ 5 (by omega) (by omega) _).mono ?_
        rintro _ w6 ⟨rfl, rfl⟩
        obtain ⟨u, hu⟩ : ∃ u : Nat, z.tdiv 7 % 5 = (u : Int) := Int.eq_ofNat_of_zero_le (by omega)
        have hu5 : u < 5 := by omega
        rw [hu]
        clear hu
        obtain ⟨s, hs, hsl⟩ := abc_cut u hu5
        have hs5 : s.size ≤ 5 := by omega
        have hs1 : 1 ≤ s.size := by omega
        have HS := hid hs
        clear hs
        by_cases hq : q + (s.size : Int) ≤ 120
        case pos =>
          go_wp2_with (at_builtin; go_must (refine wpList_append_c rfl _ _ rfl w.heap.size _ o rfl (H0.out.later ((Below.refl _ _).alloc (Nat.le_refl _) _)) ?hs _ [pP s] rfl (one_new _ (pP s) w.heap.size Hb.out.size).reads ?hb ?_))
          case hs => have := Hb.out.size; first | omega | (simp; omega)
          case hb => first | omega | (simp; omega)
          intro v5 w5 hH5 hb5
          obtain ⟨o5, ho5⟩ : ∃ o5, o ++ [pP s] = o5 := ⟨_, rfl⟩
          have hol5 : o5.length ≤ o.length + 1 := by rw [← ho5, List.length_append]; exact Nat.le_refl _
          rw [ho5] at hH5
          obtain ⟨a5, c5, rfl⟩ := hH5.form
          have H5 := hid hH5
          have Hb5 := hid (show Below w.heap.size w w5 from (Hb.out.alloc Hb.out.size _).trans hb5)
          have HO5 := hid ho5
          clear hH5 hb5 ho5
          have HN := hid (show MI n m (q + (s.size : Int)) (j + 1) o5 by rw [← HO5.out]; exact HM.out.put s hs1 (by omega) hq)
          go_wp2_with fail
          go_roundw
          case rel => exact ⟨j + 1, m, q + (s.size : Int), o5, by omega, rfl, by go_num, rfl, H5.out, Hb5.out, HN.out⟩
          case measure => simp [intOf]; omega
        case neg =>
          go_wp2_with fail
          go_roundw
          case rel => exact ⟨j + 1, m, q, o, by omega, rfl, by go_num, rfl, H0.out, Hb.out, HM.out.up⟩
          case measure => simp [intOf]; omega
end Go.Proofs.YtinifnpajkldbaaDoor

/- The contracts of run and kept, and pieces of a slice of parts. -/
import Derived.Test.YtlgdllbhddnokabInOut
import Derived.Test.YtlgdllbhddnokabHasC
namespace Go.Proofs.Ytlgdllbhddnokab
open Go.RowKit
set_option linter.unusedSimpArgs false
set_option linter.unusedVariables false

/-- The piece of n from p on. -/
theorem cut_c {w : World} {v : Value} {o : List Cp} (h : RC w v o) (p n : Nat) (h2 : p + n ≤ o.length) :
    ∃ ao cap, (∀ wx, (Instr.slice 25 v (some (.int .i64 (p : Int))) (some (.int .i64 ((p : Int) + (n : Int)))) none).run Try.prog wx = .ok (.slice ao n cap) wx) ∧ RC w (.slice ao n cap) ((o.drop p).take n) := by
  have hl : ((o.drop p).take n).length = n := by rw [List.length_take, List.length_drop]; omega
  rcases h with ⟨rfl, rfl⟩ | ⟨g, off, cap, rfl, h1, hr, hg⟩
  · simp only [List.length_nil] at h2
    have hp : p = 0 := by omega
    have hn : n = 0 := by omega
    subst hp hn
    exact ⟨none, 0, fun wx => by go_simp, .inl ⟨rfl, rfl⟩⟩
  · by_cases hc : cap = p
    · subst hc
      have hn : n = 0 := by omega
      subst hn
      refine ⟨some ⟨g, off, none⟩, 0, fun wx => ?_, .inr ⟨g, off, 0, by simp, by simp, fun j u hj => by simp [C] at hj, hg⟩⟩
      go_simp
    · refine ⟨some ⟨g, off + p * 3, none⟩, cap - p, fun wx => ?_, .inr ⟨g, off + p * 3, cap - p, by rw [hl], by rw [hl]; omega, fun j u hj => ?_, hg⟩⟩
      · have hkc : (p : Int) + (n : Int) ≤ (cap : Int) := by omega
        have hk0 : (0 : Int) ≤ (p : Int) + (n : Int) := by omega
        have hke : ((p : Int) + (n : Int)).toNat = p + n := by omega
        have hkp : p ≤ p + n := by omega
        go_simp
      · have := hr (p * 3 + j) u (by
          have e : C o = C (o.take p) ++ (C ((o.drop p).take n) ++ C ((o.drop p).drop n)) := by rw [← C_append, List.take_append_drop, ← C_append, List.take_append_drop]
          have e2 : (C (o.take p)).length = p * 3 := by rw [C_length, List.length_take]; congr 1; omega
          rw [e, List.getElem?_append_right (by omega), e2, Nat.add_sub_cancel_left, List.getElem?_append_left (List.getElem?_eq_some_iff.1 hj).1]
          exact hj)
        rwa [← Nat.add_assoc] at this

theorem run_st_inc (w : World) (t : TypeId) (q m : Nat) (hq : q < 2 ^ 53) (h : m + 1 < 2 ^ 53) : (binOp .add t (.complex .f64 (fl q) (fl m)) (.complex .f64 0 4607182418800017408)).run Try.prog w = .ok (st q (m + 1)) w := by
  refine run_complex_sum w .add (.inl rfl) t .f64 _ _ _ _ _ _ ?_
  have e1 : floatBits .add .f64 (fl q) 0 = some (fl q) := by have := fl_add q 0 (by omega); exact this
  have e2 : floatBits .add .f64 (fl m) 4607182418800017408 = some (fl (m + 1)) := by have := fl_add m 1 (by omega); rw [fl_one] at this; exact this
  simp [cSumBits, e1, e2]

/-- The length of a stretch, read off its bits (for a measure). -/
def stN : Value → Nat
  | .complex _ _ b => ((FloatKind.f64.decode b).toInt .zero).elim 0 Int.toNat
  | _ => 0
theorem stN_st (q m : Nat) (h : m < 2 ^ 53) : stN (st q m) = m := by
  have ht := fl_toInt m h
  unfold floatToIntVal at ht
  unfold stN st
  split at ht
  · rename_i n he
    split at ht
    · cases ht; simp [he]
    · cases ht
  · cases ht

/-- m parts from q on are all Keeps, or none of them one, and the next one is otherwise. -/
def Runs (o : List Cp) (kp : Bool) (q m : Nat) : Prop :=
  q + m ≤ o.length ∧ (∀ c ∈ (o.drop q).take m, (c.k == 1) = kp) ∧ ∀ c, o[q + m]? = some c → (c.k == 1) = !kp

set_option maxRecDepth 100000 in
set_option maxHeartbeats 2000000 in
theorem run_any (v : Value) (o : List Cp) (p n : Nat) (kp : Bool) (w : World) (hv : RC w v o) (hlen : o.length ≤ 1048576) (hpn : p + n ≤ o.length) :
    Calls Try.prog 30 #[v, st p n, .bool kp] w fun e w' => ∃ m, e = .returned (st (p + n) m) ∧ Runs o kp (p + n) m ∧ w' = w := by
  obtain ⟨ao, cap, rfl⟩ := hv.form
  have HV := hid hv
  clear hv
  obtain ⟨q, hq⟩ : ∃ q, p + n = q := ⟨_, rfl⟩
  rw [hq]
  have hql : q ≤ o.length := by omega
  go_enter Try.func30, Try.ntmps30
  go_wp2_with fail
  refine wp_scope_at 0 (fun a' w' => ∃ (m : Nat), a' = ⟨#[.slice ao o.length cap, st q m, .bool kp, a'.tmps.getD 3 undef, a'.tmps.getD 4 undef, a'.tmps.getD 5 undef, a'.tmps.getD 6 undef, a'.tmps.getD 7 undef, a'.tmps.getD 8 undef, a'.tmps.getD 9 undef, a'.tmps.getD 10 undef, a'.tmps.getD 11 undef, a'.tmps.getD 12 undef, a'.tmps.getD 13 undef, a'.tmps.getD 14 undef, a'.tmps.getD 15 undef, a'.tmps.getD 16 undef, a'.tmps.getD 17 undef, a'.tmps.getD 18 undef, a'.tmps.getD 19 undef, a'.tmps.getD 20 undef, a'.tmps.getD 21 undef, a'.tmps.getD 22 undef, a'.tmps.getD 23 undef, a'.tmps.getD 24 undef, a'.tmps.getD 25 undef, a'.tmps.getD 26 undef, a'.tmps.getD 27 undef], []⟩ ∧ q + m ≤ o.length ∧ (∀ c ∈ (o.drop q).take m, (c.k == 1) = kp) ∧ w' = w)
    (fun a' _ => o.length - q - stN (a'.tmps.getD 1 undef)) rfl ?pass ?first
  case first =>
    intro hy
    have HY := hid hy
    clear hy
    go_wp2_with fail
    refine (next_any p n 0 (by omega) _).mono ?_
    rintro _ w1 ⟨rfl, rfl⟩
    rw [hq]
    clear hq hpn
    go_wp2_with fail
    rename_i hK
    exact wp_label (hK _ _ (HY.out _ _ ⟨0, rfl, by omega, by simp, rfl⟩))
  case pass =>
    rintro a' w' ⟨m, ha, hm, hall, hw⟩
    subst hw
    obtain ⟨f, ha2⟩ : ∃ f : Nat → Value, a' = ⟨#[.slice ao o.length cap, st q m, .bool kp, f 3, f 4, f 5, f 6, f 7, f 8, f 9, f 10, f 11, f 12, f 13, f 14, f 15, f 16, f 17, f 18, f 19, f 20, f 21, f 22, f 23, f 24, f 25, f 26, f 27], []⟩ := ⟨fun j => a'.tmps.getD j undef, ha⟩
    clear ha hq hpn
    subst ha2
    have HA := hid hall
    clear hall
    go_wp2_with fail
    refine (end_any q m (by omega) _).mono ?_
    rintro _ w2 ⟨rfl, rfl⟩
    by_cases hlt : q + m < o.length
    · have hne : (((q + m : Nat) : Int) == (o.length : Int)) = false := by simp; omega
      have hlt' : ((q + m : Nat) : Int) < (o.length : Int) := by omega
      obtain ⟨c, hc⟩ : ∃ c, o[q + m]? = some c := ⟨_, List.getElem?_eq_getElem hlt⟩
      obtain ⟨g, off, cap', e, hcap, hr, hgs⟩ := HV.out.place (by omega)
      injection e with e1 e2 e3
      subst e1 e3
      obtain ⟨c0, c1, c2⟩ := RC.cells hr hc
      have HC := hid hc
      have hinc := fun wx t => run_st_inc wx t q m (by omega) (by omega)
      clear hr hc e2 c1 c2
      obtain ⟨qm, hqm⟩ : ∃ qm : Nat, q + m = qm := ⟨_, rfl⟩
      rw [hqm] at hne hlt' c0 ⊢
      go_wp2_with fail
      rw [hqm.symm]
      refine (end_any q m (by omega) _).mono ?_
      rintro _ w3 ⟨rfl, rfl⟩
      rw [hqm]
      by_cases hk : (c.k == 1) = kp
      · have hbk : (c.k == 1) = kp := hk
        have HK := hid hk
        have HM := hid hqm
        unfold st
        clear hk hqm
        cases kp
        all_goals
          go_wp2_with fail
          go_step3
          refine ⟨rfl, ⟨m + 1, rfl, by omega, ?_, rfl⟩, by have e1 := stN_st q m (by omega); have e2 := stN_st q (m + 1) (by omega); unfold st at e1 e2 ⊢; simp [e1, e2]; omega⟩
          have hcc := HC.out
          rw [take_succ' (o.drop q) m c (by rw [List.getElem?_drop]; exact hcc)]
          intro d hd
          rcases List.mem_append.1 hd with hd | hd
          · exact HA.out d hd
          · simp only [List.mem_singleton] at hd
            subst hd
            exact HK.out
      · have hbk : (c.k == 1) = !kp := by cases kp <;> simpa using hk
        have HK := hid hbk
        have HM := hid hqm
        clear hk hqm
        cases kp
        all_goals
          simp only [Bool.not_false, Bool.not_true] at hbk
          go_wp2_with fail
          simp only [Exit.jump]
          go_ret
          refine ⟨m, rfl, ⟨by omega, HA.out, fun d hd => ?_⟩, rfl⟩
          rw [HC.out] at hd
          cases hd
          exact HK.out
    · have he : q + m = o.length := by omega
      rw [he]
      have HE := hid he
      clear he
      go_wp2_with fail
      simp only [Exit.jump]
      go_ret
      exact ⟨m, rfl, ⟨by omega, HA.out, fun d hd => by rw [HE.out, List.getElem?_eq_none (Nat.le_refl _)] at hd; cases hd⟩, rfl⟩
end Go.Proofs.Ytlgdllbhddnokab

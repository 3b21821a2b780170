/- The contracts of slices.Clone, slices.Grow and slices.Concat of addresses. -/
import Derived.Test.YtjedajfemhpogaaAdr
import Derived.Lib.AppendZeros
namespace Go.Proofs.Ytjedajfemhpogaa
open Go.RowKit
set_option linter.unusedSimpArgs false
set_option linter.unusedVariables false

set_option maxRecDepth 100000 in
set_option maxHeartbeats 1000000 in
theorem adClone_any (v : Value) (l : List Ad) (w : World) (hv : RA w v l) (hn : l.length ≤ 1048576) :
    Calls Try.prog 12 #[v] w fun x w' => ∃ v', x = .returned v' ∧ HA w' w.heap.size v' l ∧ Below w.heap.size w w' := by
  have HV := hid hv
  have h0 : v = .slice none 0 0 ∧ l = [] ∨ ∃ ad cap, v = .slice (some ad) l.length cap := by
    rcases hv with ⟨ao, cap, rfl, rfl, h0⟩ | ⟨g, off, cap, rfl, _⟩
    · cases ao with
      | none => rw [h0 rfl]; exact .inl ⟨rfl, rfl⟩
      | some ad => exact .inr ⟨ad, cap, rfl⟩
    · exact .inr ⟨_, cap, rfl⟩
  rcases h0 with ⟨rfl, rfl⟩ | ⟨ad, cap, rfl⟩
  · have hE := run_isNil (P := Try.prog) w 24 29 none 0 0 Try.underlying24
    go_enter Try.func12, Try.ntmps12
    go_wp2_with fail
    go_ret
    exact ⟨_, rfl, HA.nil _ _, Below.refl _ _⟩
  · obtain ⟨n, hn2⟩ : ∃ n, l.length = n := ⟨_, rfl⟩
    have HN := hid hn2
    rw [hn2] at HV hn ⊢
    have hE := run_isNil (P := Try.prog) w 24 29 (some ad) n cap Try.underlying24
    clear hv hn2
    go_enter Try.func12, Try.ntmps12
    go_wp2_with (at_builtin; go_must (refine wpList_append_a rfl _ _ rfl w.heap.size _ [] rfl (addrs_new w [] 0 rfl) (by simp) _ l rfl (HV.out.later ((Below.refl _ _).alloc (Nat.le_refl _) _)) (by have := HN.out; simp; omega) ?_); intro v2 w2 hH2 hb2 _ _; have HH2 := hid hH2; have Hb2 := hid hb2; clear hH2 hb2)
    go_ret
    refine ⟨v2, rfl, HH2.out, ?_⟩
    exact ((Below.refl w.heap.size w).alloc (Nat.le_refl _) (.cells (A2 []).toArray 29)).trans Hb2.out

set_option maxRecDepth 100000 in
set_option maxHeartbeats 1000000 in
theorem adGrow_nil (n : Nat) (w : World) (hn : n ≤ 1048576) :
    Calls Try.prog 15 #[.slice none 0 0, .int .i64 (n : Int)] w fun x w' => ∃ v', x = .returned v' ∧ HA w' w.heap.size v' [] ∧ Below w.heap.size w w' := by
  obtain ⟨i, z, hi, hz, hsz, hzs, hby⟩ := info_addr
  have hn0 : ¬ ((n : Int) < 0) := by omega
  have hs0 : IntKind.i64.wrap ((n : Int) - 0) = (n : Int) := by rw [IntKind.wrap_i64]; omega
  by_cases h0 : n = 0
  · subst h0
    go_enter Try.func15, Try.ntmps15
    go_wp2
    go_ret
    exact ⟨_, rfl, HA.nil _ _, Below.refl _ _⟩
  · have hpos : 0 < n := by omega
    have hpos' : (0 : Int) < (n : Int) := by omega
    have hr := Lib.run_append_nil_zeros (P := Try.prog) w 24 3 24 29 i z .i64 .i64 Try.underlying24 Try.underlying3 hi hz n hpos (by omega) (by omega) (by rw [hby]; omega)
    obtain ⟨Z, hZ⟩ : ∃ Z, z.cells = Z := ⟨_, rfl⟩
    rw [hZ] at hr hzs
    have hgc := grownCap_ge w n 0 29
    have HG := hid hgc
    have HR := hid hr
    clear hr hgc
    go_enter Try.func15, Try.ntmps15
    go_wp2_with (at_builtin; go_must (refine Lib.wpList_append_run _ rfl _ _ _ _ rfl _ _ rfl rfl _ _ HR.out ?_))
    go_ret
    refine ⟨_, rfl, .inr ⟨w.heap.size, grownCap w n 0 29, _, rfl, Nat.le_refl _, rfl, Nat.zero_le _, heap_alloc_new w.drew _, ?_, rfl⟩, ?_⟩
    · simp only [Array.size_append, size_zeroCells, hzs]
      rw [← Nat.add_mul]
      congr 1
      have := HG.out
      omega
    · exact ⟨rfl, rfl, rfl, by simp, fun k hk => Below.heap_alloc w.drew _ k hk⟩

/-- A slice of slices of addresses, built at once. -/
def AdParts (w : World) (g : Nat) (ls : List (List Ad)) : Prop := ∀ j l, ls[j]? = some l → ∃ p c k, l.length = k ∧ w.cell? ⟨g, j, none⟩ = some (.slice p k c) ∧ RA w (.slice p k c) l
theorem AdParts.later {w w' : World} {g : Nat} {ls : List (List Ad)} (h : AdParts w g ls) (hb : Below w.heap.size w w') : AdParts w' g ls := fun j l hj => by
  obtain ⟨p, c, k, h0, h1, h2⟩ := h j l hj
  exact ⟨p, c, k, h0, cell_later hb h1, h2.later hb⟩
theorem AdParts.of {w : World} {g : Nat} {e : TypeId} {vs : Array Value} {ls : List (List Ad)} (h : w.heap[g]? = some (.cells vs e (0, 0))) (hk : ∀ (j : Nat) (l : List Ad), ls[j]? = some l → ∃ p c k, l.length = k ∧ vs[j]? = some (Value.slice p k c) ∧ RA w (.slice p k c) l) : AdParts w g ls := fun j l hj => by
  obtain ⟨p, c, k, h0, h1, h2⟩ := hk j l hj
  exact ⟨p, c, k, h0, by rw [cell_of_row w g j _ e (0, 0) h]; exact h1, h2⟩
theorem flat_at {ls : List (List Ad)} {j : Nat} {l : List Ad} (hj : ls[j]? = some l) : (ls.take (j + 1)).flatten = (ls.take j).flatten ++ l := by
  rw [List.take_add_one, hj]
  simp
theorem flat_le (ls : List (List Ad)) (j : Nat) : (ls.take j).flatten.length ≤ ls.flatten.length := by
  have h : ls.flatten = (ls.take j).flatten ++ (ls.drop j).flatten := by rw [← List.flatten_append, List.take_append_drop]
  rw [h, List.length_append]
  omega

set_option maxRecDepth 100000 in
set_option maxHeartbeats 1000000 in
theorem adConcat_any (g n : Nat) (ls : List (List Ad)) (w : World) (hn : ls.length = n) (hp : AdParts w g ls) (hl : ls.flatten.length ≤ 1048576) (hls : n ≤ 1048576) :
    Calls Try.prog 13 #[.slice (some ⟨g, 0, none⟩) n n] w fun x w' => ∃ v', x = .returned v' ∧ HA w' w.heap.size v' ls.flatten ∧ Below w.heap.size w w' := by
  have HN := hid hn
  have HP := hid hp
  obtain ⟨L, hL⟩ : ∃ L, w.heap.size = L := ⟨_, rfl⟩
  have HL := hid hL
  clear hn hp
  go_enter Try.func13, Try.ntmps13
  go_wp2_with fail
  go_loopw [3, 5, 11] (fun s p i wr => ∃ j : Nat, j ≤ n ∧ i = .int .i64 j ∧ s = .int .i64 (((ls.take j).flatten.length : Nat) : Int) ∧ w = wr) (fun _ _ i _ => n - (intOf i).toNat)
  case atStart => exact ⟨0, Nat.zero_le _, rfl, rfl, rfl⟩
  case round =>
    obtain ⟨j, hj, rfl, rfl, rfl⟩ := hrel
    by_cases hlt : j < n
    · have hlt' : (j : Int) < (n : Int) := by omega
      obtain ⟨l, hl1⟩ : ∃ l, ls[j]? = some l := ⟨_, List.getElem?_eq_getElem (by have := HN.out; omega)⟩
      obtain ⟨p, c, k, hk, hc, hra⟩ := HP.out j l hl1
      have HFA := hid (flat_at hl1)
      have hle := flat_le ls (j + 1)
      have hfl := congrArg List.length (flat_at hl1)
      rw [List.length_append] at hfl
      obtain ⟨m, hm⟩ : ∃ m, (ls.take j).flatten.length = m := ⟨_, rfl⟩
      rw [hm, hk] at hfl
      rw [hm]
      have HM := hid hfl
      have hnn : ¬ ((m : Int) + (k : Int) < 0) := by omega
      have hw : IntKind.i64.wrap ((m : Int) + (k : Int)) = (m : Int) + (k : Int) := by rw [IntKind.wrap_i64]; omega
      clear hl1 hra hm hk hfl
      go_wp2
      go_roundw
      case rel => exact ⟨j + 1, by omega, by go_num, by rw [HM.out]; simp, trivial⟩
      case measure => simp [intOf]; omega
    · have hj2 : n = j := by omega
      subst hj2
      rw [List.take_of_length_le (by have := HN.out; omega)]
      have HL1 := hid hl
      obtain ⟨M, hM⟩ : ∃ M, ls.flatten.length = M := ⟨_, rfl⟩
      have hM2 : M ≤ 1048576 := by rw [← hM]; exact hl
      rw [hM]
      clear hl hM
      go_wp2_with fail
      refine (adGrow_nil M _ hM2).mono ?_
      rintro _ w1 ⟨v1, rfl, hv1, hb1⟩
      rw [hL] at hv1 hb1
      have HV1 := hid hv1
      have Hb1 := hid hb1
      clear hv1 hb1
      go_wp2_with fail
      go_loopw [6, 8, 27] (fun v p i wr => ∃ j : Nat, j ≤ n ∧ i = .int .i64 j ∧ HA wr L v (ls.take j).flatten ∧ Below L w wr) (fun _ _ i _ => n - (intOf i).toNat)
      case atStart => exact ⟨0, Nat.zero_le _, rfl, HV1.out, Hb1.out⟩
      case round =>
        obtain ⟨j, hj, rfl, hv, hb⟩ := hrel
        have HV := hid hv
        have Hb := hid hb
        clear hv hb HV1 Hb1
        by_cases hlt : j < n
        · have hlt' : (j : Int) < (n : Int) := by omega
          obtain ⟨l, hl1⟩ : ∃ l, ls[j]? = some l := ⟨_, List.getElem?_eq_getElem (by have := HN.out; omega)⟩
          obtain ⟨p, c, k, hk, hc, hra⟩ := (HP.out.later (by rw [HL.out]; exact Hb.out)) j l hl1
          have HFA := hid (flat_at hl1)
          have HLE := hid (flat_le ls (j + 1))
          have HRA := hid hra
          have HK1 := hid hk
          clear hl1 hra hk
          go_wp2_with (at_builtin; go_must (refine wpList_append_a rfl _ _ rfl L _ (ls.take j).flatten rfl HV.out (by rw [← HL.out]; exact Hb.out.size) _ l rfl HRA.out (by have h1 := HLE.out; rw [HFA.out, List.length_append] at h1; have := HL1.out; omega) ?_); intro v2 w2 hH2 hb2 _ _; have HH2 := hid hH2; have Hb2 := hid hb2; clear hH2 hb2)
          go_roundw
          case rel => exact ⟨j + 1, by omega, by go_num, by rw [HFA.out]; exact HH2.out, Hb.out.trans Hb2.out⟩
          case measure => simp [intOf]; omega
        · have hj2 : n = j := by omega
          subst hj2
          go_wp2_with fail
          go_ret
          exact ⟨_, rfl, by have h := HV.out; rw [List.take_of_length_le (by have := HN.out; omega)] at h; rw [HL.out]; exact h, by rw [HL.out]; exact Hb.out⟩
end Go.Proofs.Ytjedajfemhpogaa

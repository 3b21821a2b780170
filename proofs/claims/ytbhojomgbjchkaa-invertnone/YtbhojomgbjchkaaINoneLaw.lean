/- The law InvertNone: what keeps all is undone by what keeps all. -/
import Derived.Test.YtbhojomgbjchkaaObI
import Derived.Test.YtbhojomgbjchkaaObR
import Derived.Test.YtbhojomgbjchkaaDoc4
namespace Go.Proofs.Ytbhojomgbjchkaa
open Go.RowKit
set_option linter.unusedSimpArgs false
set_option linter.unusedVariables false

theorem id_ob (w : World) (n : Nat) (h0 : n ≠ 0) (h : n ≤ 120) : Ob (w.alloc (.cells (C [pK (n : Int)]).toArray 42)) (.slice (some ⟨w.heap.size, 0, none⟩) 1 1) (idS n) n n := by
  have e : idS n = [pK (n : Int)] := if_neg h0
  refine ⟨?_, id_good n, id_in n, id_out n, by omega, by omega⟩
  rw [e]
  exact (parts_new w [pK (n : Int)] 1 rfl).reads
theorem id_ob0 (w : World) : Ob w (.slice none 0 0) (idS 0) 0 0 := ⟨RC.nil _, id_good 0, rfl, rfl, by omega, by omega⟩
set_option maxRecDepth 100000 in
set_option maxHeartbeats 4000000 in
theorem inone_any (ao : Option Addr) (cap : Nat) (l : List UInt8) (aa : Option Addr) (la ca : Nat) (w : World) (hr : Reads w (.slice ao l.length cap) (B l)) (hm : l.length ≤ maxLen) (hna : NS w aa la) (hca : la ≤ ca) (hla : la ≤ 9223372036854775807) :
    Calls Try.prog 7 #[.slice ao l.length cap, .slice aa la ca] w fun e w' => e = .returned (.bool true) ∧ Below w.heap.size w w' := by
  have HR := hid hr
  have HM := hid hm
  have HNa := hid hna
  clear hr hm hna
  go_enter Try.func7, Try.ntmps7
  go_wp2_with fail
  refine (known6_any _).mono ?_
  rintro _ w1 ⟨rfl, hb⟩
  have Hb1 := hid hb
  clear hb
  go_wp2_with fail
  refine (Doc_any ao cap l _ (HR.out.later Hb1.out) HM.out).mono ?_
  rintro _ wx ⟨d, rfl, hd, hwx⟩
  subst wx
  by_cases h0 : d.size = 0
  · skip
    have HOo1 := hid (show Ob w1 (.slice none 0 0) (idS d.size) d.size d.size by rw [h0]; exact id_ob0 _)
    have h0' : (d.size : Int) = 0 := by omega
    have hgt : ¬ (0 : Int) < (d.size : Int) := by omega
    clear h0 h0'
    go_wp2_with fail
    refine (inv_ob d HOo1.out rfl).mono ?_
    rintro _ w2 ⟨vx, rfl, ho, hb⟩
    rw [inv_id] at ho
    have Hb2 := hid (below_seq Hb1.out hb)
    have HOo2 := hid (HOo1.out.later hb)
    have HOx2 := hid ho
    clear hb Hb1 HOo1 ho
    go_wp2_with fail
    refine (make_ob d.size (by omega) _ _ _ (HNa.out.later Hb2.out) hca hla).mono ?_
    rintro _ w3 ⟨vm, rfl, om, um, ho, hum, hb⟩
    have Hb3 := hid (below_seq Hb2.out hb)
    have HOo3 := hid (HOo2.out.later hb)
    have HOx3 := hid (HOx2.out.later hb)
    have HOm3 := hid ho
    clear hb Hb2 HOo2 HOx2 ho
    go_wp2_with fail
    refine (inv_ob d HOm3.out rfl).mono ?_
    rintro _ w4 ⟨vy, rfl, ho, hb⟩
    have Hb4 := hid (below_seq Hb3.out hb)
    have HOo4 := hid (HOo3.out.later hb)
    have HOx4 := hid (HOx3.out.later hb)
    have HOm4 := hid (HOm3.out.later hb)
    have HOy4 := hid ho
    clear hb Hb3 HOo3 HOx3 HOm3 ho
    go_wp2_with fail
    refine (rsame_ob HOx4.out HOo4.out rfl).mono ?_
    rintro _ w5 ⟨rfl, hb⟩
    have Hb5 := hid (below_seq Hb4.out hb)
    have HOo5 := hid (HOo4.out.later hb)
    have HOx5 := hid (HOx4.out.later hb)
    have HOm5 := hid (HOm4.out.later hb)
    have HOy5 := hid (HOy4.out.later hb)
    clear hb Hb4 HOo4 HOx4 HOm4 HOy4
    go_wp2_with fail
    refine (rnorm_ob HOy5.out).mono ?_
    rintro _ w6 ⟨vn, rfl, ho, hb⟩
    have Hb6 := hid (below_seq Hb5.out hb)
    have HOo6 := hid (HOo5.out.later hb)
    have HOx6 := hid (HOx5.out.later hb)
    have HOm6 := hid (HOm5.out.later hb)
    have HOy6 := hid (HOy5.out.later hb)
    have HOn6 := hid ho
    clear hb Hb5 HOo5 HOx5 HOm5 HOy5 ho
    go_wp2_with fail
    refine (rsame_ob HOy6.out HOn6.out (inv_norm _ _).symm).mono ?_
    rintro _ w7 ⟨rfl, hb⟩
    have Hb7 := hid (below_seq Hb6.out hb)
    have HOo7 := hid (HOo6.out.later hb)
    have HOx7 := hid (HOx6.out.later hb)
    have HOm7 := hid (HOm6.out.later hb)
    have HOy7 := hid (HOy6.out.later hb)
    have HOn7 := hid (HOn6.out.later hb)
    clear hb Hb6 HOo6 HOx6 HOm6 HOy6 HOn6
    go_wp2_with fail
    go_ret
    exact ⟨rfl, Hb7.out⟩
  · skip
    have hgt : (0 : Int) < (d.size : Int) := by omega
    have ho := id_ob w1 d.size h0 (by omega)
    have hb : Below w1.heap.size w1 (w1.alloc (.cells (C [pK (d.size : Int)]).toArray 42)) := (Below.refl _ _).alloc (Nat.le_refl _) _
    have Hb2 := hid (below_seq Hb1.out hb)
    have HOo2 := hid ho
    clear ho hb h0
    go_wp2_with fail
    replace Hb1 := Hb2
    refine (inv_ob d HOo2.out rfl).mono ?_
    rintro _ w3 ⟨vx, rfl, ho, hb⟩
    rw [inv_id] at ho
    have Hb3 := hid (below_seq Hb2.out hb)
    have HOo3 := hid (HOo2.out.later hb)
    have HOx3 := hid ho
    clear hb Hb2 HOo2 ho
    go_wp2_with fail
    refine (make_ob d.size (by omega) _ _ _ (HNa.out.later Hb3.out) hca hla).mono ?_
    rintro _ w4 ⟨vm, rfl, om, um, ho, hum, hb⟩
    have Hb4 := hid (below_seq Hb3.out hb)
    have HOo4 := hid (HOo3.out.later hb)
    have HOx4 := hid (HOx3.out.later hb)
    have HOm4 := hid ho
    clear hb Hb3 HOo3 HOx3 ho
    go_wp2_with fail
    refine (inv_ob d HOm4.out rfl).mono ?_
    rintro _ w5 ⟨vy, rfl, ho, hb⟩
    have Hb5 := hid (below_seq Hb4.out hb)
    have HOo5 := hid (HOo4.out.later hb)
    have HOx5 := hid (HOx4.out.later hb)
    have HOm5 := hid (HOm4.out.later hb)
    have HOy5 := hid ho
    clear hb Hb4 HOo4 HOx4 HOm4 ho
    go_wp2_with fail
    refine (rsame_ob HOx5.out HOo5.out rfl).mono ?_
    rintro _ w6 ⟨rfl, hb⟩
    have Hb6 := hid (below_seq Hb5.out hb)
    have HOo6 := hid (HOo5.out.later hb)
    have HOx6 := hid (HOx5.out.later hb)
    have HOm6 := hid (HOm5.out.later hb)
    have HOy6 := hid (HOy5.out.later hb)
    clear hb Hb5 HOo5 HOx5 HOm5 HOy5
    go_wp2_with fail
    refine (rnorm_ob HOy6.out).mono ?_
    rintro _ w7 ⟨vn, rfl, ho, hb⟩
    have Hb7 := hid (below_seq Hb6.out hb)
    have HOo7 := hid (HOo6.out.later hb)
    have HOx7 := hid (HOx6.out.later hb)
    have HOm7 := hid (HOm6.out.later hb)
    have HOy7 := hid (HOy6.out.later hb)
    have HOn7 := hid ho
    clear hb Hb6 HOo6 HOx6 HOm6 HOy6 ho
    go_wp2_with fail
    refine (rsame_ob HOy7.out HOn7.out (inv_norm _ _).symm).mono ?_
    rintro _ w8 ⟨rfl, hb⟩
    have Hb8 := hid (below_seq Hb7.out hb)
    have HOo8 := hid (HOo7.out.later hb)
    have HOx8 := hid (HOx7.out.later hb)
    have HOm8 := hid (HOm7.out.later hb)
    have HOy8 := hid (HOy7.out.later hb)
    have HOn8 := hid (HOn7.out.later hb)
    clear hb Hb7 HOo7 HOx7 HOm7 HOy7 HOn7
    go_wp2_with fail
    go_ret
    exact ⟨rfl, Hb8.out⟩

theorem inone_row (a0 : Option Addr) (len0 cap0 : Nat) (z0 : List Int) (a1 : Option Addr) (len1 cap1 : Nat) (z1 : List Int) (w : World) (w0 : IsRow .u8 w a0 len0 cap0 z0) (w1 : IsRow .i64 w a1 len1 cap1 z1) :
    Calls Try.prog 7 #[.slice a0 len0 cap0, .slice a1 len1 cap1] w fun e w' => e = .returned (.bool true) ∧ Below w.heap.size w w' := by
  obtain ⟨l, rfl, hm, hr⟩ := bytes_of_row w0
  exact inone_any a0 cap0 l a1 len1 cap1 w hr hm (ns_of_row w1) (cap_of_row w1) (len_of_row w1)
end Go.Proofs.Ytbhojomgbjchkaa

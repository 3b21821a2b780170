/- An operation undone, as a function of lists; of no program. -/
import Derived.Test.YtlgdllbhddnokabPsz
import Derived.Test.YtlgdllbhddnokabCompS
namespace Go.Proofs.Ytlgdllbhddnokab
set_option linter.unusedSimpArgs false
set_option linter.unusedVariables false

/-- The part that undoes c, which went over the bytes x. -/
def undC (c : Cp) (x : ByteArray) : Cp := if c.k = 2 then pX c.s.size else if c.k = 3 then pP x else c
/-- What undoes each part, from the first one on. -/
def undS : List UInt8 → List Cp → List Cp
  | _, [] => []
  | d, c :: o => undC c ⟨(d.take c.over.toNat).toArray⟩ :: undS (d.drop c.over.toNat) o
/-- What undoes an operation over d. -/
def invS (d : ByteArray) (o : List Cp) : List Cp := normS (undS d.data.toList o)

theorem und_K (n : Nat) (d : List UInt8) (o : List Cp) : undS d (pK n :: o) = pK n :: undS (d.drop n) o := by
  rw [undS, over_K, Int.toNat_natCast]; rfl
theorem und_P (s : ByteArray) (d : List UInt8) (o : List Cp) : undS d (pP s :: o) = pX s.size :: undS d o := by
  rw [undS, over_P]; rfl
theorem und_X (n : Nat) (d : List UInt8) (o : List Cp) : undS d (pX n :: o) = pP ⟨(d.take n).toArray⟩ :: undS (d.drop n) o := by
  rw [undS, over_X, Int.toNat_natCast]; rfl
theorem und_len : ∀ (o : List Cp) (d : List UInt8), (undS d o).length = o.length
  | [], _ => rfl
  | c :: o, d => by rw [undS, List.length_cons, und_len o, List.length_cons]

/-- What is known of what undoes. -/
structure UA (d : List UInt8) (o u : List Cp) : Prop where
  good : Good u
  ins : inS u = outS o
  outs : outS u = inS o
  back : applyS (applyS d o) u = d
  puts : psz u = csz o
  cuts : csz u = psz o
theorem und_ua : ∀ (o : List Cp) (d : List UInt8), Good o → inS o = d.length → UA d o (undS d o)
  | [], d, _, h => by
    have : d = [] := List.eq_nil_of_length_eq_zero (by rw [inS] at h; omega)
    subst this
    exact ⟨fun c hc => by simp [undS] at hc, rfl, rfl, rfl, rfl, rfl⟩
  | c :: o, d, hg, h => by
    have hnn := hg.tl.inS_nn
    rw [in_cons] at h
    rcases ok_cases hg.hd with ⟨m, hm, rfl⟩ | ⟨s, hs, rfl⟩ | ⟨m, hm, rfl⟩
    · rw [over_K] at h
      have I := und_ua o (d.drop m) hg.tl (by rw [List.length_drop]; omega)
      have hl : (d.take m).length = m := by rw [List.length_take]; omega
      rw [und_K]
      refine ⟨good_mk (okK (by omega)) I.good, by rw [in_cons, out_cons, I.ins, over_K, outl_K], by rw [in_cons, out_cons, I.outs, over_K, outl_K], ?_, by rw [psz_K, csz_K, I.puts], by rw [psz_K, csz_K, I.cuts]⟩
      rw [ap_K, ap_K, List.take_left' hl, List.drop_left' hl, I.back, List.take_append_drop]
    · rw [over_P, Int.zero_add] at h
      have I := und_ua o d hg.tl h
      have hl : s.data.toList.length = s.size := by simp
      rw [und_P]
      refine ⟨good_mk (okX (by omega)) I.good, by rw [in_cons, out_cons, I.ins, over_X, outl_P], by rw [in_cons, out_cons, I.outs, over_P, outl_X], ?_, by rw [psz_X, csz_P, I.puts], by rw [psz_P, csz_X, I.cuts]⟩
      rw [ap_P, ap_X, List.drop_left' hl, I.back]
    · rw [over_X] at h
      have I := und_ua o (d.drop m) hg.tl (by rw [List.length_drop]; omega)
      have hl : (⟨(d.take m).toArray⟩ : ByteArray).size = m := by show (d.take m).toArray.size = m; simp; omega
      rw [und_X]
      refine ⟨good_mk (okP (by omega)) I.good, by rw [in_cons, out_cons, I.ins, over_P, outl_X], by rw [in_cons, out_cons, I.outs, over_X, outl_P, hl], ?_, by rw [psz_P, csz_X, I.puts, hl], by rw [psz_X, csz_P, I.cuts]⟩
      rw [ap_X, ap_P, I.back]
      show d.take m ++ d.drop m = d
      rw [List.take_append_drop]
theorem inv_ua {d : ByteArray} {o : List Cp} (hg : Good o) (h : inS o = d.size) : UA d.data.toList o (invS d o) := by
  have I := und_ua o d.data.toList hg (by rw [h]; simp)
  refine ⟨norm_good I.good, by rw [invS, in_norm _ I.good, I.ins], by rw [invS, out_norm _ I.good, I.outs], ?_, by rw [invS, psz_norm _ I.good, I.puts], by rw [invS, csz_norm _ I.good, I.cuts]⟩
  rw [invS, (norm_all _ I.good).2, I.back]
theorem inv_norm (d : ByteArray) (o : List Cp) : normS (invS d o) = invS d o := norm_norm _
theorem inv_id (d : ByteArray) : invS d (idS d.size) = idS d.size := by
  unfold invS idS
  split
  · rfl
  · rw [und_K]; rfl

/-- One round: what is left at place p, ahead of part j. -/
theorem und_step {d : List UInt8} {o l : List Cp} {p j : Nat} {c : Cp} (hc : o[j]? = some c) (hx : l ++ undS (d.drop p) (o.drop j) = undS d o) :
    (l ++ [undC c ⟨((d.drop p).take c.over.toNat).toArray⟩]) ++ undS (d.drop (p + c.over.toNat)) (o.drop (j + 1)) = undS d o := by
  rw [← hx, drop_cons' o j c hc, undS, List.drop_drop, List.append_assoc]
  rfl
theorem ext_ba (d : ByteArray) (p m : Nat) : (⟨((d.data.toList.drop p).take m).toArray⟩ : ByteArray) = d.extract p (p + m) := by
  apply ByteArray.ext; apply Array.ext'
  rw [ext_list, show p + m - p = m by omega]
end Go.Proofs.Ytlgdllbhddnokab

/- What a law's frame needs: the two tables as the program lays them, and an array of bytes that came in. -/
import Derived.Test.YtmfmbcghknknjaaDoorGen2
import Derived.Test.YtmfmbcghknknjaaDoorCards
import Derived.Test.YtmfmbcghknknjaaDoorTie
import Derived.ProofKit
import Derived.LaidMore
import Derived.OpenShut
import Derived.Stop.Joined
import Derived.Lib.LaidTab
import Derived.Stop.LaidErr
namespace Go.Proofs.YtmfmbcghknknjaaDoor
open Go.ChangeShapes Go.WideShapes Go.ChangeAt Go.RowKit
set_option linter.unusedSimpArgs false
set_option linter.unusedVariables false

theorem lawOwn : ownKnob Tryd.prog.godebug = none := by kernel_rfl
theorem laidOut : laidOutB Tryd.prog = true := by kernel_rfl
def laid2 : List (String × DataW Unit) := [("comitia/sha.begin", Rows.laid_comitia_sha_begin), ("comitia/sha.keys", Rows.laid_comitia_sha_keys)]
theorem door_met (os : Os) (args : Array Value) : laidMetH Tryd.prog laid2 ((World.doorLaid Tryd.prog 400 os).forCall (fun _ _ => 0) ⟨#[], args, []⟩).memory :=
  laidMetH_of_parts3 (fuel := 8) (laidMet_of_run' 8 (by kernel_rfl) (by kernel_rfl)) (by kernel_rfl) (by kernel_rfl)

def beginZ : List Int := H0.l.map nt
def keysZ : List Int := K.map nt
theorem begin_tab : (Rows.laid_comitia_sha_begin : DataW Unit) = Lib.tabData .u32 beginZ := by kernel_rfl
theorem keys_tab : (Rows.laid_comitia_sha_keys : DataW Unit) = Lib.tabData .u32 keysZ := by kernel_rfl
theorem gBegin : Tryd.prog.globalNamed "comitia/sha.begin" = some 0 := by kernel_rfl
theorem gKeys : Tryd.prog.globalNamed "comitia/sha.keys" = some 1 := by kernel_rfl
theorem tBegin : (Tryd.prog.globals[0]?).map (·.type) = some 39 := by kernel_rfl
theorem tKeys : (Tryd.prog.globals[1]?).map (·.type) = some 42 := by kernel_rfl

theorem range_of_tab {W : World} {name : String} {g : Nat} {zs : List Int} {l : List UInt32} (h : Lib.TabIs Tryd.prog W name .u32 zs) (hg : Tryd.prog.globalNamed name = some g) (hl : zs = l.map nt) : W.rangeAt g 0 (U l) := by
  intro j v hv
  have := World.var?_cell hg h j
  rw [Nat.zero_add, this]
  subst hl
  unfold U at hv
  simpa using hv

theorem tabs_of_laid {W : World} (h : laidMetH Tryd.prog laid2 W) : Tabs W := by
  rw [MakeChecks.laidMetH_plain _ _ _ (by kernel_rfl)] at h
  unfold laid2 at h
  rw [begin_tab, keys_tab] at h
  have h1 := Lib.tabIs_of_head gBegin tBegin Tryd.underlying39 Tryd.underlying38 (by kernel_rfl) (by kernel_rfl) h
  have h2 := Lib.tabIs_of_head gKeys tKeys Tryd.underlying42 Tryd.underlying38 (by kernel_rfl) (by kernel_rfl) (laidMet.tail h)
  exact ⟨range_of_tab h1 gBegin rfl, range_of_tab h2 gKeys rfl⟩

/-- A sum that came in: its bytes. -/
theorem open_hash {H : Type} {enc : TypeId × Value → H} {W : World} {base b0 : Nat} {sp : Nat → Bool} {held : Bool} {r : Reach} {v : Value} {d : DataW H} {p : List MemPlace}
    (hv : Value.okWide Tryd.prog W r b0 24 v) (h : DataW.Trod enc Tryd.prog W base sp held 24 v d p) : ∃ l : List UInt8, l.length = 32 ∧ v = .agg (B l).toArray := by
  have hu := Tryd.underlying24
  simp only [Value.okWide, hu] at hv
  obtain ⟨cs, rfl, hs, _⟩ := hv
  have hs' : cs.size = 32 := by rw [hs]; kernel_rfl
  obtain ⟨fuel, hf⟩ := h
  obtain ⟨xs, m, _, _, hl, hn, hel⟩ := DataW.trod_array hu hf
  have c1 : Tryd.prog.cellsOf 5 = 1 := by kernel_rfl
  refine ⟨cs.toList.map fun v => match v with | .int _ n => UInt8.ofNat n.toNat | _ => 0, by simp [hs'], ?_⟩
  congr 1
  apply Array.ext'
  apply List.ext_getElem?
  intro i
  by_cases hi : i < 32
  · have := hel i hi
    rw [c1, Nat.mul_one] at this
    have hx : xs[i]? = some xs[i] := List.getElem?_eq_getElem (by omega)
    rw [hx] at this
    obtain ⟨n, e1, _, hw⟩ := DataW.trod_int Tryd.underlying5 this
    have hci : cs.toList[i]? = some (.int .u8 n) := by
      have := congrArg (·[0]?) e1
      simpa [List.getElem?_take, List.getElem?_drop, Value.cells] using this
    rw [hci]
    have hb := bounds_u8 hw
    simp only [B, List.map_map, List.getElem?_map, hci, Option.map_some, Function.comp]
    rw [UInt8.toNat_ofNat']
    congr 2
    omega
  · rw [List.getElem?_eq_none (by simp; omega), List.getElem?_eq_none (by simp [B]; omega)]
end Go.Proofs.YtmfmbcghknknjaaDoor

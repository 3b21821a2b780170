/-
  No cell of these rows narrows 'for every input' (looked for: loops, veiled, ifaces, maps, wideKeys, modest, calm, conditions, laid).
  DERIVED. THE GIVEN ROWS OF THIS SEAT. 6 by the template 'for every input the law returns true; each argument reads behind the call as it read before'; 0 by the template 'total and deterministic' (their statements: YtlgdllbhddnokaaTotals.lean).
  GIVEN WITH THE SEED: the statements are not yours to turn. If you find one false, say at which input.
  Laid BY PROGRAM, IN A SANDBOX (cutbox-rows.mjs): the forced cells as the released guide's own fill.sh prints them over the translation bbec3c70abd72142… (all of the seat's roots in one cut). By AI agents, Wed Nov 11 2026. No macro, syntax, notation, axiom, sorry.
-/
import Derived.Test.YtlgdllbhddnokaaChecked
import GoSem.Claim
import GoSem.ClaimJoined
import GoSem.ClaimMapViews
import Derived.JoinedTies
import Derived.KernelRfl
namespace Go.Proofs.Ytlgdllbhddnokaa
/- THE CELL 'sum', in the pinned program and in every row, IS THE sha256 OF THE DUMP (.gsa) THAT YtlgdllbhddnokaaProg.lean LOADS. Nothing in Lean hashes anything: it is a label: what it is worth is what the hold of that sum in a sandbox is worth. -/
noncomputable def Try.pinned : Pinned := { name := "ytlgdllbhddnokaa", sum := "bbec3c70abd72142d674402c99dd75ee1dfc26b5d5f9234f242d3f4eaeb88ec8", checked := Try.checked }
namespace Rows
def none {H : Type} : Left H := { results := [], args := [] }

/-- 'comitialaw7.TransformPairs': WHATEVER THE INPUT: true; the input reads as it did. -/
def transformPairsSpec : ChangeSpec := { name := "transformPairs", fn := fun _ => fun
  | [d1, d2, d3, d4] => { results := [.lit (.bool true)], args := [d1, d2, d3, d4] }
  | _ => none }
def transformPairsRow : OpenClaim := { program := "ytlgdllbhddnokaa", sum := "bbec3c70abd72142d674402c99dd75ee1dfc26b5d5f9234f242d3f4eaeb88ec8", func := "comitia/comitialaw7.TransformPairs", spec := "transformPairs", inPlace := ["internal/abi.NoEscape"], apart := false }
def TransformPairsSaid : Prop := transformPairsRow.holds Try.pinned (OpenSpec.ofChange transformPairsSpec)

/-- ITS FALSE NEIGHBOUR: 'it returns false'. Refute it at one input. -/
def transformPairsWrong : ChangeSpec := { name := "transformPairs", fn := fun _ => fun
  | [d1, d2, d3, d4] => { results := [.lit (.bool false)], args := [d1, d2, d3, d4] }
  | _ => none }
def TransformPairsWrongFalsely : Prop := transformPairsRow.holds Try.pinned (OpenSpec.ofChange transformPairsWrong)

/-- 'comitialaw7.TransformMeets': WHATEVER THE INPUT: true; the input reads as it did. -/
def transformMeetsSpec : ChangeSpec := { name := "transformMeets", fn := fun _ => fun
  | [d1, d2, d3] => { results := [.lit (.bool true)], args := [d1, d2, d3] }
  | _ => none }
def transformMeetsRow : OpenClaim := { program := "ytlgdllbhddnokaa", sum := "bbec3c70abd72142d674402c99dd75ee1dfc26b5d5f9234f242d3f4eaeb88ec8", func := "comitia/comitialaw7.TransformMeets", spec := "transformMeets", inPlace := ["internal/abi.NoEscape"], apart := false }
def TransformMeetsSaid : Prop := transformMeetsRow.holds Try.pinned (OpenSpec.ofChange transformMeetsSpec)

/-- ITS FALSE NEIGHBOUR: 'it returns false'. Refute it at one input. -/
def transformMeetsWrong : ChangeSpec := { name := "transformMeets", fn := fun _ => fun
  | [d1, d2, d3] => { results := [.lit (.bool false)], args := [d1, d2, d3] }
  | _ => none }
def TransformMeetsWrongFalsely : Prop := transformMeetsRow.holds Try.pinned (OpenSpec.ofChange transformMeetsWrong)

/-- 'comitialaw7.TransformFirst': WHATEVER THE INPUT: true; the input reads as it did. -/
def transformFirstSpec : ChangeSpec := { name := "transformFirst", fn := fun _ => fun
  | [d1, d2, d3, d4] => { results := [.lit (.bool true)], args := [d1, d2, d3, d4] }
  | _ => none }
def transformFirstRow : OpenClaim := { program := "ytlgdllbhddnokaa", sum := "bbec3c70abd72142d674402c99dd75ee1dfc26b5d5f9234f242d3f4eaeb88ec8", func := "comitia/comitialaw7.TransformFirst", spec := "transformFirst", inPlace := ["internal/abi.NoEscape"], apart := false }
def TransformFirstSaid : Prop := transformFirstRow.holds Try.pinned (OpenSpec.ofChange transformFirstSpec)

/-- ITS FALSE NEIGHBOUR: 'it returns false'. Refute it at one input. -/
def transformFirstWrong : ChangeSpec := { name := "transformFirst", fn := fun _ => fun
  | [d1, d2, d3, d4] => { results := [.lit (.bool false)], args := [d1, d2, d3, d4] }
  | _ => none }
def TransformFirstWrongFalsely : Prop := transformFirstRow.holds Try.pinned (OpenSpec.ofChange transformFirstWrong)

/-- 'comitialaw7.TransformNone': WHATEVER THE INPUT: true; the input reads as it did. -/
def transformNoneSpec : ChangeSpec := { name := "transformNone", fn := fun _ => fun
  | [d1, d2] => { results := [.lit (.bool true)], args := [d1, d2] }
  | _ => none }
def transformNoneRow : OpenClaim := { program := "ytlgdllbhddnokaa", sum := "bbec3c70abd72142d674402c99dd75ee1dfc26b5d5f9234f242d3f4eaeb88ec8", func := "comitia/comitialaw7.TransformNone", spec := "transformNone", inPlace := ["internal/abi.NoEscape"], apart := false }
def TransformNoneSaid : Prop := transformNoneRow.holds Try.pinned (OpenSpec.ofChange transformNoneSpec)

/-- ITS FALSE NEIGHBOUR: 'it returns false'. Refute it at one input. -/
def transformNoneWrong : ChangeSpec := { name := "transformNone", fn := fun _ => fun
  | [d1, d2] => { results := [.lit (.bool false)], args := [d1, d2] }
  | _ => none }
def TransformNoneWrongFalsely : Prop := transformNoneRow.holds Try.pinned (OpenSpec.ofChange transformNoneWrong)

/-- 'comitialaw7.TransformSelf': WHATEVER THE INPUT: true; the input reads as it did. -/
def transformSelfSpec : ChangeSpec := { name := "transformSelf", fn := fun _ => fun
  | [d1, d2] => { results := [.lit (.bool true)], args := [d1, d2] }
  | _ => none }
def transformSelfRow : OpenClaim := { program := "ytlgdllbhddnokaa", sum := "bbec3c70abd72142d674402c99dd75ee1dfc26b5d5f9234f242d3f4eaeb88ec8", func := "comitia/comitialaw7.TransformSelf", spec := "transformSelf", inPlace := ["internal/abi.NoEscape"], apart := false }
def TransformSelfSaid : Prop := transformSelfRow.holds Try.pinned (OpenSpec.ofChange transformSelfSpec)

/-- ITS FALSE NEIGHBOUR: 'it returns false'. Refute it at one input. -/
def transformSelfWrong : ChangeSpec := { name := "transformSelf", fn := fun _ => fun
  | [d1, d2] => { results := [.lit (.bool false)], args := [d1, d2] }
  | _ => none }
def TransformSelfWrongFalsely : Prop := transformSelfRow.holds Try.pinned (OpenSpec.ofChange transformSelfWrong)

/-- 'comitialaw7.TransformLengths': WHATEVER THE INPUT: true; the input reads as it did. -/
def transformLengthsSpec : ChangeSpec := { name := "transformLengths", fn := fun _ => fun
  | [d1, d2, d3] => { results := [.lit (.bool true)], args := [d1, d2, d3] }
  | _ => none }
def transformLengthsRow : OpenClaim := { program := "ytlgdllbhddnokaa", sum := "bbec3c70abd72142d674402c99dd75ee1dfc26b5d5f9234f242d3f4eaeb88ec8", func := "comitia/comitialaw7.TransformLengths", spec := "transformLengths", inPlace := ["internal/abi.NoEscape"], apart := false }
def TransformLengthsSaid : Prop := transformLengthsRow.holds Try.pinned (OpenSpec.ofChange transformLengthsSpec)

/-- ITS FALSE NEIGHBOUR: 'it returns false'. Refute it at one input. -/
def transformLengthsWrong : ChangeSpec := { name := "transformLengths", fn := fun _ => fun
  | [d1, d2, d3] => { results := [.lit (.bool false)], args := [d1, d2, d3] }
  | _ => none }
def TransformLengthsWrongFalsely : Prop := transformLengthsRow.holds Try.pinned (OpenSpec.ofChange transformLengthsWrong)

/- THE SECOND FORM. 'bulk': how many values and letters a reading holds, each counted each time it is reached (what is shared counts as often as it is met; a slice's spare places count too). A statement '..UptoSaid' is the law's where the arguments, and the package variables that the reading takes, are together of bulk at most 1048576: NARROWER than '..Said'. Prove '..Said' where nothing that the law and all that it calls make is longer than what came in: it says more and counts as full. Else prove '..UptoSaid'. A law counts once. -/
mutual
def uptoBulk {H : Type} : DataW H → Nat
  | .lit (.string bytes) => bytes.length + 1
  | .lit _ => 1
  | .nil => 1
  | .ptr d => uptoBulk d + 1
  | .slice elems spare => uptoBulkAll elems + uptoBulkAll spare + 1
  | .agg parts => uptoBulkAll parts + 1
  | .iface _ d => uptoBulk d + 1
  | .map entries => uptoBulkEntries entries + 1
  | .held _ => 1
def uptoBulkAll {H : Type} : List (DataW H) → Nat
  | [] => 0
  | d :: r => uptoBulk d + uptoBulkAll r
def uptoBulkEntries {H : Type} : List (Lit × DataW H) → Nat
  | [] => 0
  | x :: r => uptoBulkEntry x + uptoBulkEntries r
def uptoBulkEntry {H : Type} : Lit × DataW H → Nat
  | (.string bytes, d) => bytes.length + uptoBulk d + 1
  | (_, d) => uptoBulk d + 1
 end
def uptoSmall : (H : Type) → List (DataW H) → Bool := fun _ ds => decide (uptoBulkAll ds ≤ 1048576)
def OpenSpec.upto (s : _root_.Go.ChangeSpec) : _root_.Go.OpenSpec := { _root_.Go.OpenSpec.ofChange s with cond := some uptoSmall }

/-- 'comitialaw7.TransformPairs', WHERE WHAT IT READS IS OF BULK AT MOST 1048576: true; the input reads as it did. -/
def transformPairsUptoRow : OpenClaim := { program := "ytlgdllbhddnokaa", sum := "bbec3c70abd72142d674402c99dd75ee1dfc26b5d5f9234f242d3f4eaeb88ec8", func := "comitia/comitialaw7.TransformPairs", spec := "transformPairs", inPlace := ["internal/abi.NoEscape"], apart := false, narrowed := true }
def TransformPairsUptoSaid : Prop := transformPairsUptoRow.holds Try.pinned (OpenSpec.upto transformPairsSpec)

/-- 'comitialaw7.TransformMeets', WHERE WHAT IT READS IS OF BULK AT MOST 1048576: true; the input reads as it did. -/
def transformMeetsUptoRow : OpenClaim := { program := "ytlgdllbhddnokaa", sum := "bbec3c70abd72142d674402c99dd75ee1dfc26b5d5f9234f242d3f4eaeb88ec8", func := "comitia/comitialaw7.TransformMeets", spec := "transformMeets", inPlace := ["internal/abi.NoEscape"], apart := false, narrowed := true }
def TransformMeetsUptoSaid : Prop := transformMeetsUptoRow.holds Try.pinned (OpenSpec.upto transformMeetsSpec)

/-- 'comitialaw7.TransformFirst', WHERE WHAT IT READS IS OF BULK AT MOST 1048576: true; the input reads as it did. -/
def transformFirstUptoRow : OpenClaim := { program := "ytlgdllbhddnokaa", sum := "bbec3c70abd72142d674402c99dd75ee1dfc26b5d5f9234f242d3f4eaeb88ec8", func := "comitia/comitialaw7.TransformFirst", spec := "transformFirst", inPlace := ["internal/abi.NoEscape"], apart := false, narrowed := true }
def TransformFirstUptoSaid : Prop := transformFirstUptoRow.holds Try.pinned (OpenSpec.upto transformFirstSpec)

/-- 'comitialaw7.TransformNone', WHERE WHAT IT READS IS OF BULK AT MOST 1048576: true; the input reads as it did. -/
def transformNoneUptoRow : OpenClaim := { program := "ytlgdllbhddnokaa", sum := "bbec3c70abd72142d674402c99dd75ee1dfc26b5d5f9234f242d3f4eaeb88ec8", func := "comitia/comitialaw7.TransformNone", spec := "transformNone", inPlace := ["internal/abi.NoEscape"], apart := false, narrowed := true }
def TransformNoneUptoSaid : Prop := transformNoneUptoRow.holds Try.pinned (OpenSpec.upto transformNoneSpec)

/-- 'comitialaw7.TransformSelf', WHERE WHAT IT READS IS OF BULK AT MOST 1048576: true; the input reads as it did. -/
def transformSelfUptoRow : OpenClaim := { program := "ytlgdllbhddnokaa", sum := "bbec3c70abd72142d674402c99dd75ee1dfc26b5d5f9234f242d3f4eaeb88ec8", func := "comitia/comitialaw7.TransformSelf", spec := "transformSelf", inPlace := ["internal/abi.NoEscape"], apart := false, narrowed := true }
def TransformSelfUptoSaid : Prop := transformSelfUptoRow.holds Try.pinned (OpenSpec.upto transformSelfSpec)

/-- 'comitialaw7.TransformLengths', WHERE WHAT IT READS IS OF BULK AT MOST 1048576: true; the input reads as it did. -/
def transformLengthsUptoRow : OpenClaim := { program := "ytlgdllbhddnokaa", sum := "bbec3c70abd72142d674402c99dd75ee1dfc26b5d5f9234f242d3f4eaeb88ec8", func := "comitia/comitialaw7.TransformLengths", spec := "transformLengths", inPlace := ["internal/abi.NoEscape"], apart := false, narrowed := true }
def TransformLengthsUptoSaid : Prop := transformLengthsUptoRow.holds Try.pinned (OpenSpec.upto transformLengthsSpec)

end Rows
end Go.Proofs.Ytlgdllbhddnokaa

/-
  No cell of these rows narrows 'for every input' (looked for: loops, veiled, ifaces, maps, wideKeys, modest, calm, conditions, laid).
  DERIVED. THE GIVEN ROWS OF THIS SEAT. 3 by the template 'for every input the law returns true; each argument reads behind the call as it read before'; 0 by the template 'total and deterministic' (their statements: YtlgdllbhddnokabTotals.lean).
  GIVEN WITH THE SEED: the statements are not yours to turn. If you find one false, say at which input.
  Laid BY PROGRAM, IN A SANDBOX (cutbox-rows.mjs): the forced cells as the released guide's own fill.sh prints them over the translation 479d41aa63afd163… (all of the seat's roots in one cut). By AI agents, Wed Nov 11 2026. No macro, syntax, notation, axiom, sorry.
-/
import Derived.Test.YtlgdllbhddnokabChecked
import GoSem.Claim
import GoSem.ClaimJoined
import GoSem.ClaimMapViews
import Derived.JoinedTies
import Derived.KernelRfl
namespace Go.Proofs.Ytlgdllbhddnokab
/- THE CELL 'sum', in the pinned program and in every row, IS THE sha256 OF THE DUMP (.gsa) THAT YtlgdllbhddnokabProg.lean LOADS. Nothing in Lean hashes anything: it is a label: what it is worth is what the hold of that sum in a sandbox is worth. -/
noncomputable def Try.pinned : Pinned := { name := "ytlgdllbhddnokab", sum := "479d41aa63afd1635b4775324cc9bf6c87702b590c081625fc9a9e09055f9a3e", checked := Try.checked }
namespace Rows
def none {H : Type} : Left H := { results := [], args := [] }

/-- 'comitialaw7.TransformForm': WHATEVER THE INPUT: true; the input reads as it did. -/
def transformFormSpec : ChangeSpec := { name := "transformForm", fn := fun _ => fun
  | [d1, d2, d3] => { results := [.lit (.bool true)], args := [d1, d2, d3] }
  | _ => none }
def transformFormRow : OpenClaim := { program := "ytlgdllbhddnokab", sum := "479d41aa63afd1635b4775324cc9bf6c87702b590c081625fc9a9e09055f9a3e", func := "comitia/comitialaw7.TransformForm", spec := "transformForm", inPlace := ["internal/abi.NoEscape"], apart := false }
def TransformFormSaid : Prop := transformFormRow.holds Try.pinned (OpenSpec.ofChange transformFormSpec)

/-- ITS FALSE NEIGHBOUR: 'it returns false'. Refute it at one input. -/
def transformFormWrong : ChangeSpec := { name := "transformForm", fn := fun _ => fun
  | [d1, d2, d3] => { results := [.lit (.bool false)], args := [d1, d2, d3] }
  | _ => none }
def TransformFormWrongFalsely : Prop := transformFormRow.holds Try.pinned (OpenSpec.ofChange transformFormWrong)

/-- 'comitialaw7.TransformUndo': WHATEVER THE INPUT: true; the input reads as it did. -/
def transformUndoSpec : ChangeSpec := { name := "transformUndo", fn := fun _ => fun
  | [d1, d2, d3] => { results := [.lit (.bool true)], args := [d1, d2, d3] }
  | _ => none }
def transformUndoRow : OpenClaim := { program := "ytlgdllbhddnokab", sum := "479d41aa63afd1635b4775324cc9bf6c87702b590c081625fc9a9e09055f9a3e", func := "comitia/comitialaw7.TransformUndo", spec := "transformUndo", inPlace := ["internal/abi.NoEscape"], apart := false }
def TransformUndoSaid : Prop := transformUndoRow.holds Try.pinned (OpenSpec.ofChange transformUndoSpec)

/-- ITS FALSE NEIGHBOUR: 'it returns false'. Refute it at one input. -/
def transformUndoWrong : ChangeSpec := { name := "transformUndo", fn := fun _ => fun
  | [d1, d2, d3] => { results := [.lit (.bool false)], args := [d1, d2, d3] }
  | _ => none }
def TransformUndoWrongFalsely : Prop := transformUndoRow.holds Try.pinned (OpenSpec.ofChange transformUndoWrong)

/-- 'comitialaw7.TransformCuts': WHATEVER THE INPUT: true; the input reads as it did. -/
def transformCutsSpec : ChangeSpec := { name := "transformCuts", fn := fun _ => fun
  | [d1, d2, d3, d4, d5] => { results := [.lit (.bool true)], args := [d1, d2, d3, d4, d5] }
  | _ => none }
def transformCutsRow : OpenClaim := { program := "ytlgdllbhddnokab", sum := "479d41aa63afd1635b4775324cc9bf6c87702b590c081625fc9a9e09055f9a3e", func := "comitia/comitialaw7.TransformCuts", spec := "transformCuts", inPlace := ["internal/abi.NoEscape"], apart := false }
def TransformCutsSaid : Prop := transformCutsRow.holds Try.pinned (OpenSpec.ofChange transformCutsSpec)

/-- ITS FALSE NEIGHBOUR: 'it returns false'. Refute it at one input. -/
def transformCutsWrong : ChangeSpec := { name := "transformCuts", fn := fun _ => fun
  | [d1, d2, d3, d4, d5] => { results := [.lit (.bool false)], args := [d1, d2, d3, d4, d5] }
  | _ => none }
def TransformCutsWrongFalsely : Prop := transformCutsRow.holds Try.pinned (OpenSpec.ofChange transformCutsWrong)

/- THE SECOND FORM. 'bulk': how many values and letters a reading holds, each counted each time it is reached (what is shared counts as often as it is met; a slice's spare places count too). A statement '..UptoSaid' is the law's where the arguments, and the package variables that the reading takes, are together of bulk at most 1048576: NARROWER than '..Said'. Prove '..Said' where nothing that the law and all that it calls make is longer than what came in: it says more and counts as full. Else prove '..UptoSaid'. A law counts once. -/
mutual
def uptoBulk {H : Type} : DataW H → Nat
  | .lit (.string bytes) => bytes.length + 1
  | .lit _ => 1
  | .nil => 1
  | .ptr d => uptoBulk d + 1
  | .slice elems spare => uptoBulkAll elems + uptoBulkAll spare + 1
  | .agg parts => uptoBulkAll parts + 1
  | .iface _ d => uptoBulk d + 1
  | .map entries => uptoBulkEntries entries + 1
  | .held _ => 1
def uptoBulkAll {H : Type} : List (DataW H) → Nat
  | [] => 0
  | d :: r => uptoBulk d + uptoBulkAll r
def uptoBulkEntries {H : Type} : List (Lit × DataW H) → Nat
  | [] => 0
  | x :: r => uptoBulkEntry x + uptoBulkEntries r
def uptoBulkEntry {H : Type} : Lit × DataW H → Nat
  | (.string bytes, d) => bytes.length + uptoBulk d + 1
  | (_, d) => uptoBulk d + 1
 end
def uptoSmall : (H : Type) → List (DataW H) → Bool := fun _ ds => decide (uptoBulkAll ds ≤ 1048576)
def OpenSpec.upto (s : _root_.Go.ChangeSpec) : _root_.Go.OpenSpec := { _root_.Go.OpenSpec.ofChange s with cond := some uptoSmall }

/-- 'comitialaw7.TransformForm', WHERE WHAT IT READS IS OF BULK AT MOST 1048576: true; the input reads as it did. -/
def transformFormUptoRow : OpenClaim := { program := "ytlgdllbhddnokab", sum := "479d41aa63afd1635b4775324cc9bf6c87702b590c081625fc9a9e09055f9a3e", func := "comitia/comitialaw7.TransformForm", spec := "transformForm", inPlace := ["internal/abi.NoEscape"], apart := false, narrowed := true }
def TransformFormUptoSaid : Prop := transformFormUptoRow.holds Try.pinned (OpenSpec.upto transformFormSpec)

/-- 'comitialaw7.TransformUndo', WHERE WHAT IT READS IS OF BULK AT MOST 1048576: true; the input reads as it did. -/
def transformUndoUptoRow : OpenClaim := { program := "ytlgdllbhddnokab", sum := "479d41aa63afd1635b4775324cc9bf6c87702b590c081625fc9a9e09055f9a3e", func := "comitia/comitialaw7.TransformUndo", spec := "transformUndo", inPlace := ["internal/abi.NoEscape"], apart := false, narrowed := true }
def TransformUndoUptoSaid : Prop := transformUndoUptoRow.holds Try.pinned (OpenSpec.upto transformUndoSpec)

/-- 'comitialaw7.TransformCuts', WHERE WHAT IT READS IS OF BULK AT MOST 1048576: true; the input reads as it did. -/
def transformCutsUptoRow : OpenClaim := { program := "ytlgdllbhddnokab", sum := "479d41aa63afd1635b4775324cc9bf6c87702b590c081625fc9a9e09055f9a3e", func := "comitia/comitialaw7.TransformCuts", spec := "transformCuts", inPlace := ["internal/abi.NoEscape"], apart := false, narrowed := true }
def TransformCutsUptoSaid : Prop := transformCutsUptoRow.holds Try.pinned (OpenSpec.upto transformCutsSpec)

end Rows
end Go.Proofs.Ytlgdllbhddnokab

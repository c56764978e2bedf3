/-
  No cell of these rows narrows 'for every input' (looked for: loops, veiled, ifaces, maps, wideKeys, modest, calm, conditions, laid).
  DERIVED. THE GIVEN ROWS OF THIS SEAT. 6 by the template 'for every input the law returns true; each argument reads behind the call as it read before'; 0 by the template 'total and deterministic' (their statements: YtgfciepcfkjmkaaTotals.lean).
  GIVEN WITH THE SEED: the statements are not yours to turn. If you find one false, say at which input.
  Laid BY PROGRAM, IN A SANDBOX (cutbox-rows.mjs): the forced cells as the released guide's own fill.sh prints them over the translation cc4417349c3f5774… (all of the seat's roots in one cut). By AI agents, Wed Nov 11 2026. No macro, syntax, notation, axiom, sorry.
-/
import Derived.Test.YtgfciepcfkjmkaaChecked
import GoSem.Claim
import GoSem.ClaimJoined
import GoSem.ClaimMapViews
import Derived.JoinedTies
import Derived.KernelRfl
namespace Go.Proofs.Ytgfciepcfkjmkaa
/- THE CELL 'sum', in the pinned program and in every row, IS THE sha256 OF THE DUMP (.gsa) THAT YtgfciepcfkjmkaaProg.lean LOADS. Nothing in Lean hashes anything: it is a label: what it is worth is what the hold of that sum in a sandbox is worth. -/
noncomputable def Try.pinned : Pinned := { name := "ytgfciepcfkjmkaa", sum := "cc4417349c3f5774c814efdf64cf9a66af8d43a9db73ec97941260ded689aa3e", checked := Try.checked }
namespace Rows
def none {H : Type} : Left H := { results := [], args := [] }

/-- 'feluccalaw10.HopTells': WHATEVER THE INPUT: true; the input reads as it did. -/
def hopTellsSpec : ChangeSpec := { name := "hopTells", fn := fun _ => fun
  | [d1, d2, d3] => { results := [.lit (.bool true)], args := [d1, d2, d3] }
  | _ => none }
def hopTellsRow : OpenClaim := { program := "ytgfciepcfkjmkaa", sum := "cc4417349c3f5774c814efdf64cf9a66af8d43a9db73ec97941260ded689aa3e", func := "felucca/feluccalaw10.HopTells", spec := "hopTells", apart := false }
def HopTellsSaid : Prop := hopTellsRow.holds Try.pinned (OpenSpec.ofChange hopTellsSpec)

/-- ITS FALSE NEIGHBOUR: 'it returns false'. Refute it at one input. -/
def hopTellsWrong : ChangeSpec := { name := "hopTells", fn := fun _ => fun
  | [d1, d2, d3] => { results := [.lit (.bool false)], args := [d1, d2, d3] }
  | _ => none }
def HopTellsWrongFalsely : Prop := hopTellsRow.holds Try.pinned (OpenSpec.ofChange hopTellsWrong)

/-- 'feluccalaw10.HopEarlier': WHATEVER THE INPUT: true; the input reads as it did. -/
def hopEarlierSpec : ChangeSpec := { name := "hopEarlier", fn := fun _ => fun
  | [d1, d2, d3, d4] => { results := [.lit (.bool true)], args := [d1, d2, d3, d4] }
  | _ => none }
def hopEarlierRow : OpenClaim := { program := "ytgfciepcfkjmkaa", sum := "cc4417349c3f5774c814efdf64cf9a66af8d43a9db73ec97941260ded689aa3e", func := "felucca/feluccalaw10.HopEarlier", spec := "hopEarlier", apart := false }
def HopEarlierSaid : Prop := hopEarlierRow.holds Try.pinned (OpenSpec.ofChange hopEarlierSpec)

/-- ITS FALSE NEIGHBOUR: 'it returns false'. Refute it at one input. -/
def hopEarlierWrong : ChangeSpec := { name := "hopEarlier", fn := fun _ => fun
  | [d1, d2, d3, d4] => { results := [.lit (.bool false)], args := [d1, d2, d3, d4] }
  | _ => none }
def HopEarlierWrongFalsely : Prop := hopEarlierRow.holds Try.pinned (OpenSpec.ofChange hopEarlierWrong)

/-- 'feluccalaw10.HopLatest': WHATEVER THE INPUT: true; the input reads as it did. -/
def hopLatestSpec : ChangeSpec := { name := "hopLatest", fn := fun _ => fun
  | [d1, d2, d3] => { results := [.lit (.bool true)], args := [d1, d2, d3] }
  | _ => none }
def hopLatestRow : OpenClaim := { program := "ytgfciepcfkjmkaa", sum := "cc4417349c3f5774c814efdf64cf9a66af8d43a9db73ec97941260ded689aa3e", func := "felucca/feluccalaw10.HopLatest", spec := "hopLatest", apart := false }
def HopLatestSaid : Prop := hopLatestRow.holds Try.pinned (OpenSpec.ofChange hopLatestSpec)

/-- ITS FALSE NEIGHBOUR: 'it returns false'. Refute it at one input. -/
def hopLatestWrong : ChangeSpec := { name := "hopLatest", fn := fun _ => fun
  | [d1, d2, d3] => { results := [.lit (.bool false)], args := [d1, d2, d3] }
  | _ => none }
def HopLatestWrongFalsely : Prop := hopLatestRow.holds Try.pinned (OpenSpec.ofChange hopLatestWrong)

/-- 'feluccalaw10.HopSizes': WHATEVER THE INPUT: true; the input reads as it did. -/
def hopSizesSpec : ChangeSpec := { name := "hopSizes", fn := fun _ => fun
  | [d1, d2, d3, d4] => { results := [.lit (.bool true)], args := [d1, d2, d3, d4] }
  | _ => none }
def hopSizesRow : OpenClaim := { program := "ytgfciepcfkjmkaa", sum := "cc4417349c3f5774c814efdf64cf9a66af8d43a9db73ec97941260ded689aa3e", func := "felucca/feluccalaw10.HopSizes", spec := "hopSizes", apart := false }
def HopSizesSaid : Prop := hopSizesRow.holds Try.pinned (OpenSpec.ofChange hopSizesSpec)

/-- ITS FALSE NEIGHBOUR: 'it returns false'. Refute it at one input. -/
def hopSizesWrong : ChangeSpec := { name := "hopSizes", fn := fun _ => fun
  | [d1, d2, d3, d4] => { results := [.lit (.bool false)], args := [d1, d2, d3, d4] }
  | _ => none }
def HopSizesWrongFalsely : Prop := hopSizesRow.holds Try.pinned (OpenSpec.ofChange hopSizesWrong)

/-- 'feluccalaw10.HopShifts': WHATEVER THE INPUT: true; the input reads as it did. -/
def hopShiftsSpec : ChangeSpec := { name := "hopShifts", fn := fun _ => fun
  | [d1, d2, d3, d4] => { results := [.lit (.bool true)], args := [d1, d2, d3, d4] }
  | _ => none }
def hopShiftsRow : OpenClaim := { program := "ytgfciepcfkjmkaa", sum := "cc4417349c3f5774c814efdf64cf9a66af8d43a9db73ec97941260ded689aa3e", func := "felucca/feluccalaw10.HopShifts", spec := "hopShifts", apart := false }
def HopShiftsSaid : Prop := hopShiftsRow.holds Try.pinned (OpenSpec.ofChange hopShiftsSpec)

/-- ITS FALSE NEIGHBOUR: 'it returns false'. Refute it at one input. -/
def hopShiftsWrong : ChangeSpec := { name := "hopShifts", fn := fun _ => fun
  | [d1, d2, d3, d4] => { results := [.lit (.bool false)], args := [d1, d2, d3, d4] }
  | _ => none }
def HopShiftsWrongFalsely : Prop := hopShiftsRow.holds Try.pinned (OpenSpec.ofChange hopShiftsWrong)

/-- 'feluccalaw10.HopOpens': WHATEVER THE INPUT: true; the input reads as it did. -/
def hopOpensSpec : ChangeSpec := { name := "hopOpens", fn := fun _ => fun
  | [d1, d2, d3] => { results := [.lit (.bool true)], args := [d1, d2, d3] }
  | _ => none }
def hopOpensRow : OpenClaim := { program := "ytgfciepcfkjmkaa", sum := "cc4417349c3f5774c814efdf64cf9a66af8d43a9db73ec97941260ded689aa3e", func := "felucca/feluccalaw10.HopOpens", spec := "hopOpens", apart := false }
def HopOpensSaid : Prop := hopOpensRow.holds Try.pinned (OpenSpec.ofChange hopOpensSpec)

/-- ITS FALSE NEIGHBOUR: 'it returns false'. Refute it at one input. -/
def hopOpensWrong : ChangeSpec := { name := "hopOpens", fn := fun _ => fun
  | [d1, d2, d3] => { results := [.lit (.bool false)], args := [d1, d2, d3] }
  | _ => none }
def HopOpensWrongFalsely : Prop := hopOpensRow.holds Try.pinned (OpenSpec.ofChange hopOpensWrong)

/- THE SECOND FORM. 'bulk': how many values and letters a reading holds, each counted each time it is reached (what is shared counts as often as it is met; a slice's spare places count too). A statement '..UptoSaid' is the law's where the arguments, and the package variables that the reading takes, are together of bulk at most 1048576: NARROWER than '..Said'. Prove '..Said' where nothing that the law and all that it calls make is longer than what came in: it says more and counts as full. Else prove '..UptoSaid'. A law counts once. -/
mutual
def uptoBulk {H : Type} : DataW H → Nat
  | .lit (.string bytes) => bytes.length + 1
  | .lit _ => 1
  | .nil => 1
  | .ptr d => uptoBulk d + 1
  | .slice elems spare => uptoBulkAll elems + uptoBulkAll spare + 1
  | .agg parts => uptoBulkAll parts + 1
  | .iface _ d => uptoBulk d + 1
  | .map entries => uptoBulkEntries entries + 1
  | .held _ => 1
def uptoBulkAll {H : Type} : List (DataW H) → Nat
  | [] => 0
  | d :: r => uptoBulk d + uptoBulkAll r
def uptoBulkEntries {H : Type} : List (Lit × DataW H) → Nat
  | [] => 0
  | x :: r => uptoBulkEntry x + uptoBulkEntries r
def uptoBulkEntry {H : Type} : Lit × DataW H → Nat
  | (.string bytes, d) => bytes.length + uptoBulk d + 1
  | (_, d) => uptoBulk d + 1
 end
def uptoSmall : (H : Type) → List (DataW H) → Bool := fun _ ds => decide (uptoBulkAll ds ≤ 1048576)
def OpenSpec.upto (s : _root_.Go.ChangeSpec) : _root_.Go.OpenSpec := { _root_.Go.OpenSpec.ofChange s with cond := some uptoSmall }

/-- 'feluccalaw10.HopTells', WHERE WHAT IT READS IS OF BULK AT MOST 1048576: true; the input reads as it did. -/
def hopTellsUptoRow : OpenClaim := { program := "ytgfciepcfkjmkaa", sum := "cc4417349c3f5774c814efdf64cf9a66af8d43a9db73ec97941260ded689aa3e", func := "felucca/feluccalaw10.HopTells", spec := "hopTells", apart := false, narrowed := true }
def HopTellsUptoSaid : Prop := hopTellsUptoRow.holds Try.pinned (OpenSpec.upto hopTellsSpec)

/-- 'feluccalaw10.HopEarlier', WHERE WHAT IT READS IS OF BULK AT MOST 1048576: true; the input reads as it did. -/
def hopEarlierUptoRow : OpenClaim := { program := "ytgfciepcfkjmkaa", sum := "cc4417349c3f5774c814efdf64cf9a66af8d43a9db73ec97941260ded689aa3e", func := "felucca/feluccalaw10.HopEarlier", spec := "hopEarlier", apart := false, narrowed := true }
def HopEarlierUptoSaid : Prop := hopEarlierUptoRow.holds Try.pinned (OpenSpec.upto hopEarlierSpec)

/-- 'feluccalaw10.HopLatest', WHERE WHAT IT READS IS OF BULK AT MOST 1048576: true; the input reads as it did. -/
def hopLatestUptoRow : OpenClaim := { program := "ytgfciepcfkjmkaa", sum := "cc4417349c3f5774c814efdf64cf9a66af8d43a9db73ec97941260ded689aa3e", func := "felucca/feluccalaw10.HopLatest", spec := "hopLatest", apart := false, narrowed := true }
def HopLatestUptoSaid : Prop := hopLatestUptoRow.holds Try.pinned (OpenSpec.upto hopLatestSpec)

/-- 'feluccalaw10.HopSizes', WHERE WHAT IT READS IS OF BULK AT MOST 1048576: true; the input reads as it did. -/
def hopSizesUptoRow : OpenClaim := { program := "ytgfciepcfkjmkaa", sum := "cc4417349c3f5774c814efdf64cf9a66af8d43a9db73ec97941260ded689aa3e", func := "felucca/feluccalaw10.HopSizes", spec := "hopSizes", apart := false, narrowed := true }
def HopSizesUptoSaid : Prop := hopSizesUptoRow.holds Try.pinned (OpenSpec.upto hopSizesSpec)

/-- 'feluccalaw10.HopShifts', WHERE WHAT IT READS IS OF BULK AT MOST 1048576: true; the input reads as it did. -/
def hopShiftsUptoRow : OpenClaim := { program := "ytgfciepcfkjmkaa", sum := "cc4417349c3f5774c814efdf64cf9a66af8d43a9db73ec97941260ded689aa3e", func := "felucca/feluccalaw10.HopShifts", spec := "hopShifts", apart := false, narrowed := true }
def HopShiftsUptoSaid : Prop := hopShiftsUptoRow.holds Try.pinned (OpenSpec.upto hopShiftsSpec)

/-- 'feluccalaw10.HopOpens', WHERE WHAT IT READS IS OF BULK AT MOST 1048576: true; the input reads as it did. -/
def hopOpensUptoRow : OpenClaim := { program := "ytgfciepcfkjmkaa", sum := "cc4417349c3f5774c814efdf64cf9a66af8d43a9db73ec97941260ded689aa3e", func := "felucca/feluccalaw10.HopOpens", spec := "hopOpens", apart := false, narrowed := true }
def HopOpensUptoSaid : Prop := hopOpensUptoRow.holds Try.pinned (OpenSpec.upto hopOpensSpec)

end Rows
end Go.Proofs.Ytgfciepcfkjmkaa

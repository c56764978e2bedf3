/-
  No cell of these rows narrows 'for every input' (looked for: loops, veiled, ifaces, maps, wideKeys, modest, calm, conditions, laid).
  DERIVED. THE GIVEN ROWS OF THIS SEAT. 4 by the template 'for every input the law returns true; each argument reads behind the call as it read before'; 0 by the template 'total and deterministic' (their statements: YtglhembdlipccaaTotals.lean).
  GIVEN WITH THE SEED: the statements are not yours to turn. If you find one false, say at which input.
  Laid BY PROGRAM, IN A SANDBOX (cutbox-rows.mjs): the forced cells as the released guide's own fill.sh prints them over the translation 8e40ae9edd25148d… (all of the seat's roots in one cut). By AI agents, Wed Nov 11 2026. No macro, syntax, notation, axiom, sorry.
-/
import Derived.Test.YtglhembdlipccaaChecked
import GoSem.Claim
import GoSem.ClaimJoined
import GoSem.ClaimMapViews
import Derived.JoinedTies
import Derived.KernelRfl
namespace Go.Proofs.Ytglhembdlipccaa
/- THE CELL 'sum', in the pinned program and in every row, IS THE sha256 OF THE DUMP (.gsa) THAT YtglhembdlipccaaProg.lean LOADS. Nothing in Lean hashes anything: it is a label: what it is worth is what the hold of that sum in a sandbox is worth. -/
noncomputable def Try.pinned : Pinned := { name := "ytglhembdlipccaa", sum := "8e40ae9edd25148d6ac3c4c10dfd3c23cca6fd2ccffb4badbe39c4f3e4fbea17", checked := Try.checked }
namespace Rows
def none {H : Type} : Left H := { results := [], args := [] }

/-- 'feluccalaw07.RangesRight': WHATEVER THE INPUT: true; the input reads as it did. -/
def rangesRightSpec : ChangeSpec := { name := "rangesRight", fn := fun _ => fun
  | [d1, d2] => { results := [.lit (.bool true)], args := [d1, d2] }
  | _ => none }
def rangesRightRow : OpenClaim := { program := "ytglhembdlipccaa", sum := "8e40ae9edd25148d6ac3c4c10dfd3c23cca6fd2ccffb4badbe39c4f3e4fbea17", func := "felucca/feluccalaw07.RangesRight", spec := "rangesRight", unfollowed := true, recurses := true, apart := false }
def RangesRightSaid : Prop := rangesRightRow.holds Try.pinned (OpenSpec.ofChange rangesRightSpec)

/-- ITS FALSE NEIGHBOUR: 'it returns false'. Refute it at one input. -/
def rangesRightWrong : ChangeSpec := { name := "rangesRight", fn := fun _ => fun
  | [d1, d2] => { results := [.lit (.bool false)], args := [d1, d2] }
  | _ => none }
def RangesRightWrongFalsely : Prop := rangesRightRow.holds Try.pinned (OpenSpec.ofChange rangesRightWrong)

/-- 'feluccalaw07.RangesOwlts': WHATEVER THE INPUT: true; the input reads as it did. -/
def rangesOwltsSpec : ChangeSpec := { name := "rangesOwlts", fn := fun _ => fun
  | [d1, d2] => { results := [.lit (.bool true)], args := [d1, d2] }
  | _ => none }
def rangesOwltsRow : OpenClaim := { program := "ytglhembdlipccaa", sum := "8e40ae9edd25148d6ac3c4c10dfd3c23cca6fd2ccffb4badbe39c4f3e4fbea17", func := "felucca/feluccalaw07.RangesOwlts", spec := "rangesOwlts", unfollowed := true, recurses := true, apart := false }
def RangesOwltsSaid : Prop := rangesOwltsRow.holds Try.pinned (OpenSpec.ofChange rangesOwltsSpec)

/-- ITS FALSE NEIGHBOUR: 'it returns false'. Refute it at one input. -/
def rangesOwltsWrong : ChangeSpec := { name := "rangesOwlts", fn := fun _ => fun
  | [d1, d2] => { results := [.lit (.bool false)], args := [d1, d2] }
  | _ => none }
def RangesOwltsWrongFalsely : Prop := rangesOwltsRow.holds Try.pinned (OpenSpec.ofChange rangesOwltsWrong)

/-- 'feluccalaw07.RangesTwice': WHATEVER THE INPUT: true; the input reads as it did. -/
def rangesTwiceSpec : ChangeSpec := { name := "rangesTwice", fn := fun _ => fun
  | [d1, d2, d3] => { results := [.lit (.bool true)], args := [d1, d2, d3] }
  | _ => none }
def rangesTwiceRow : OpenClaim := { program := "ytglhembdlipccaa", sum := "8e40ae9edd25148d6ac3c4c10dfd3c23cca6fd2ccffb4badbe39c4f3e4fbea17", func := "felucca/feluccalaw07.RangesTwice", spec := "rangesTwice", unfollowed := true, recurses := true, apart := false }
def RangesTwiceSaid : Prop := rangesTwiceRow.holds Try.pinned (OpenSpec.ofChange rangesTwiceSpec)

/-- ITS FALSE NEIGHBOUR: 'it returns false'. Refute it at one input. -/
def rangesTwiceWrong : ChangeSpec := { name := "rangesTwice", fn := fun _ => fun
  | [d1, d2, d3] => { results := [.lit (.bool false)], args := [d1, d2, d3] }
  | _ => none }
def RangesTwiceWrongFalsely : Prop := rangesTwiceRow.holds Try.pinned (OpenSpec.ofChange rangesTwiceWrong)

/-- 'feluccalaw07.RangesEnds': WHATEVER THE INPUT: true; the input reads as it did. -/
def rangesEndsSpec : ChangeSpec := { name := "rangesEnds", fn := fun _ => fun
  | [d1, d2, d3] => { results := [.lit (.bool true)], args := [d1, d2, d3] }
  | _ => none }
def rangesEndsRow : OpenClaim := { program := "ytglhembdlipccaa", sum := "8e40ae9edd25148d6ac3c4c10dfd3c23cca6fd2ccffb4badbe39c4f3e4fbea17", func := "felucca/feluccalaw07.RangesEnds", spec := "rangesEnds", unfollowed := true, recurses := true, apart := false }
def RangesEndsSaid : Prop := rangesEndsRow.holds Try.pinned (OpenSpec.ofChange rangesEndsSpec)

/-- ITS FALSE NEIGHBOUR: 'it returns false'. Refute it at one input. -/
def rangesEndsWrong : ChangeSpec := { name := "rangesEnds", fn := fun _ => fun
  | [d1, d2, d3] => { results := [.lit (.bool false)], args := [d1, d2, d3] }
  | _ => none }
def RangesEndsWrongFalsely : Prop := rangesEndsRow.holds Try.pinned (OpenSpec.ofChange rangesEndsWrong)

/- THE SECOND FORM. 'bulk': how many values and letters a reading holds, each counted each time it is reached (what is shared counts as often as it is met; a slice's spare places count too). A statement '..UptoSaid' is the law's where the arguments, and the package variables that the reading takes, are together of bulk at most 1048576: NARROWER than '..Said'. Prove '..Said' where nothing that the law and all that it calls make is longer than what came in: it says more and counts as full. Else prove '..UptoSaid'. A law counts once. -/
mutual
def uptoBulk {H : Type} : DataW H → Nat
  | .lit (.string bytes) => bytes.length + 1
  | .lit _ => 1
  | .nil => 1
  | .ptr d => uptoBulk d + 1
  | .slice elems spare => uptoBulkAll elems + uptoBulkAll spare + 1
  | .agg parts => uptoBulkAll parts + 1
  | .iface _ d => uptoBulk d + 1
  | .map entries => uptoBulkEntries entries + 1
  | .held _ => 1
def uptoBulkAll {H : Type} : List (DataW H) → Nat
  | [] => 0
  | d :: r => uptoBulk d + uptoBulkAll r
def uptoBulkEntries {H : Type} : List (Lit × DataW H) → Nat
  | [] => 0
  | x :: r => uptoBulkEntry x + uptoBulkEntries r
def uptoBulkEntry {H : Type} : Lit × DataW H → Nat
  | (.string bytes, d) => bytes.length + uptoBulk d + 1
  | (_, d) => uptoBulk d + 1
 end
def uptoSmall : (H : Type) → List (DataW H) → Bool := fun _ ds => decide (uptoBulkAll ds ≤ 1048576)
def OpenSpec.upto (s : _root_.Go.ChangeSpec) : _root_.Go.OpenSpec := { _root_.Go.OpenSpec.ofChange s with cond := some uptoSmall }

/-- 'feluccalaw07.RangesRight', WHERE WHAT IT READS IS OF BULK AT MOST 1048576: true; the input reads as it did. -/
def rangesRightUptoRow : OpenClaim := { program := "ytglhembdlipccaa", sum := "8e40ae9edd25148d6ac3c4c10dfd3c23cca6fd2ccffb4badbe39c4f3e4fbea17", func := "felucca/feluccalaw07.RangesRight", spec := "rangesRight", unfollowed := true, recurses := true, apart := false, narrowed := true }
def RangesRightUptoSaid : Prop := rangesRightUptoRow.holds Try.pinned (OpenSpec.upto rangesRightSpec)

/-- 'feluccalaw07.RangesOwlts', WHERE WHAT IT READS IS OF BULK AT MOST 1048576: true; the input reads as it did. -/
def rangesOwltsUptoRow : OpenClaim := { program := "ytglhembdlipccaa", sum := "8e40ae9edd25148d6ac3c4c10dfd3c23cca6fd2ccffb4badbe39c4f3e4fbea17", func := "felucca/feluccalaw07.RangesOwlts", spec := "rangesOwlts", unfollowed := true, recurses := true, apart := false, narrowed := true }
def RangesOwltsUptoSaid : Prop := rangesOwltsUptoRow.holds Try.pinned (OpenSpec.upto rangesOwltsSpec)

/-- 'feluccalaw07.RangesTwice', WHERE WHAT IT READS IS OF BULK AT MOST 1048576: true; the input reads as it did. -/
def rangesTwiceUptoRow : OpenClaim := { program := "ytglhembdlipccaa", sum := "8e40ae9edd25148d6ac3c4c10dfd3c23cca6fd2ccffb4badbe39c4f3e4fbea17", func := "felucca/feluccalaw07.RangesTwice", spec := "rangesTwice", unfollowed := true, recurses := true, apart := false, narrowed := true }
def RangesTwiceUptoSaid : Prop := rangesTwiceUptoRow.holds Try.pinned (OpenSpec.upto rangesTwiceSpec)

/-- 'feluccalaw07.RangesEnds', WHERE WHAT IT READS IS OF BULK AT MOST 1048576: true; the input reads as it did. -/
def rangesEndsUptoRow : OpenClaim := { program := "ytglhembdlipccaa", sum := "8e40ae9edd25148d6ac3c4c10dfd3c23cca6fd2ccffb4badbe39c4f3e4fbea17", func := "felucca/feluccalaw07.RangesEnds", spec := "rangesEnds", unfollowed := true, recurses := true, apart := false, narrowed := true }
def RangesEndsUptoSaid : Prop := rangesEndsUptoRow.holds Try.pinned (OpenSpec.upto rangesEndsSpec)

end Rows
end Go.Proofs.Ytglhembdlipccaa

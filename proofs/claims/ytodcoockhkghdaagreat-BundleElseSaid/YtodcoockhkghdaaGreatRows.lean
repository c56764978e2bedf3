/-
  No cell of these rows narrows 'for every input' (looked for: loops, veiled, ifaces, maps, wideKeys, modest, calm, conditions, laid).
  DERIVED. THE GIVEN ROWS OF THIS SEAT. 6 by the template 'for every input the law returns true; each argument reads behind the call as it read before'; 0 by the template 'total and deterministic' (their statements: YtodcoockhkghdaaGreatTotals.lean).
  GIVEN WITH THE SEED: the statements are not yours to turn. If you find one false, say at which input.
  Laid BY PROGRAM, IN A SANDBOX (cutbox-rows.mjs): the forced cells as the released guide's own fill.sh prints them over the translation 96c5791b1febf21a… (all of the seat's roots in one cut). By AI agents, Wed Nov 11 2026. No macro, syntax, notation, axiom, sorry.
-/
import Derived.Test.YtodcoockhkghdaaGreatChecked
import GoSem.Claim
import GoSem.ClaimJoined
import GoSem.ClaimMapViews
import Derived.JoinedTies
import Derived.KernelRfl
namespace Go.Proofs.YtodcoockhkghdaaGreat
/- THE CELL 'sum', in the pinned program and in every row, IS THE sha256 OF THE DUMP (.gsa) THAT YtodcoockhkghdaaGreatProg.lean LOADS. Nothing in Lean hashes anything: it is a label: what it is worth is what the hold of that sum in a sandbox is worth. -/
noncomputable def Tryz.pinned : Pinned := { name := "ytodcoockhkghdaagreat", sum := "96c5791b1febf21aa327d42c5951d3b095cb59c147aab0a087c37eca973d2fd9", checked := Tryz.checked }
namespace Rows
def none {H : Type} : Left H := { results := [], args := [] }

/-- 'feluccalaw20.BundleTells': WHATEVER THE INPUT: true; the input reads as it did. -/
def bundleTellsSpec : ChangeSpec := { name := "bundleTells", fn := fun _ => fun
  | [d1, d2, d3, d4, d5, d6, d7] => { results := [.lit (.bool true)], args := [d1, d2, d3, d4, d5, d6, d7] }
  | _ => none }
def bundleTellsRow : OpenClaim := { program := "ytodcoockhkghdaagreat", sum := "96c5791b1febf21aa327d42c5951d3b095cb59c147aab0a087c37eca973d2fd9", func := "felucca/feluccalaw20.BundleTells", spec := "bundleTells", unfollowed := true, recurses := true, apart := false }
def BundleTellsSaid : Prop := bundleTellsRow.holds Tryz.pinned (OpenSpec.ofChange bundleTellsSpec)

/-- ITS FALSE NEIGHBOUR: 'it returns false'. Refute it at one input. -/
def bundleTellsWrong : ChangeSpec := { name := "bundleTells", fn := fun _ => fun
  | [d1, d2, d3, d4, d5, d6, d7] => { results := [.lit (.bool false)], args := [d1, d2, d3, d4, d5, d6, d7] }
  | _ => none }
def BundleTellsWrongFalsely : Prop := bundleTellsRow.holds Tryz.pinned (OpenSpec.ofChange bundleTellsWrong)

/-- 'feluccalaw20.BundleFirst': WHATEVER THE INPUT: true; the input reads as it did. -/
def bundleFirstSpec : ChangeSpec := { name := "bundleFirst", fn := fun _ => fun
  | [d1, d2, d3, d4] => { results := [.lit (.bool true)], args := [d1, d2, d3, d4] }
  | _ => none }
def bundleFirstRow : OpenClaim := { program := "ytodcoockhkghdaagreat", sum := "96c5791b1febf21aa327d42c5951d3b095cb59c147aab0a087c37eca973d2fd9", func := "felucca/feluccalaw20.BundleFirst", spec := "bundleFirst", unfollowed := true, recurses := true, apart := false }
def BundleFirstSaid : Prop := bundleFirstRow.holds Tryz.pinned (OpenSpec.ofChange bundleFirstSpec)

/-- ITS FALSE NEIGHBOUR: 'it returns false'. Refute it at one input. -/
def bundleFirstWrong : ChangeSpec := { name := "bundleFirst", fn := fun _ => fun
  | [d1, d2, d3, d4] => { results := [.lit (.bool false)], args := [d1, d2, d3, d4] }
  | _ => none }
def BundleFirstWrongFalsely : Prop := bundleFirstRow.holds Tryz.pinned (OpenSpec.ofChange bundleFirstWrong)

/-- 'feluccalaw20.BundleOrder': WHATEVER THE INPUT: true; the input reads as it did. -/
def bundleOrderSpec : ChangeSpec := { name := "bundleOrder", fn := fun _ => fun
  | [d1, d2, d3, d4, d5] => { results := [.lit (.bool true)], args := [d1, d2, d3, d4, d5] }
  | _ => none }
def bundleOrderRow : OpenClaim := { program := "ytodcoockhkghdaagreat", sum := "96c5791b1febf21aa327d42c5951d3b095cb59c147aab0a087c37eca973d2fd9", func := "felucca/feluccalaw20.BundleOrder", spec := "bundleOrder", unfollowed := true, recurses := true, apart := false }
def BundleOrderSaid : Prop := bundleOrderRow.holds Tryz.pinned (OpenSpec.ofChange bundleOrderSpec)

/-- ITS FALSE NEIGHBOUR: 'it returns false'. Refute it at one input. -/
def bundleOrderWrong : ChangeSpec := { name := "bundleOrder", fn := fun _ => fun
  | [d1, d2, d3, d4, d5] => { results := [.lit (.bool false)], args := [d1, d2, d3, d4, d5] }
  | _ => none }
def BundleOrderWrongFalsely : Prop := bundleOrderRow.holds Tryz.pinned (OpenSpec.ofChange bundleOrderWrong)

/-- 'feluccalaw20.BundleBare': WHATEVER THE INPUT: true; the input reads as it did. -/
def bundleBareSpec : ChangeSpec := { name := "bundleBare", fn := fun _ => fun
  | [d1, d2, d3, d4, d5] => { results := [.lit (.bool true)], args := [d1, d2, d3, d4, d5] }
  | _ => none }
def bundleBareRow : OpenClaim := { program := "ytodcoockhkghdaagreat", sum := "96c5791b1febf21aa327d42c5951d3b095cb59c147aab0a087c37eca973d2fd9", func := "felucca/feluccalaw20.BundleBare", spec := "bundleBare", unfollowed := true, recurses := true, apart := false }
def BundleBareSaid : Prop := bundleBareRow.holds Tryz.pinned (OpenSpec.ofChange bundleBareSpec)

/-- ITS FALSE NEIGHBOUR: 'it returns false'. Refute it at one input. -/
def bundleBareWrong : ChangeSpec := { name := "bundleBare", fn := fun _ => fun
  | [d1, d2, d3, d4, d5] => { results := [.lit (.bool false)], args := [d1, d2, d3, d4, d5] }
  | _ => none }
def BundleBareWrongFalsely : Prop := bundleBareRow.holds Tryz.pinned (OpenSpec.ofChange bundleBareWrong)

/-- 'feluccalaw20.BundleTime': WHATEVER THE INPUT: true; the input reads as it did. -/
def bundleTimeSpec : ChangeSpec := { name := "bundleTime", fn := fun _ => fun
  | [d1, d2, d3, d4] => { results := [.lit (.bool true)], args := [d1, d2, d3, d4] }
  | _ => none }
def bundleTimeRow : OpenClaim := { program := "ytodcoockhkghdaagreat", sum := "96c5791b1febf21aa327d42c5951d3b095cb59c147aab0a087c37eca973d2fd9", func := "felucca/feluccalaw20.BundleTime", spec := "bundleTime", unfollowed := true, recurses := true, apart := false }
def BundleTimeSaid : Prop := bundleTimeRow.holds Tryz.pinned (OpenSpec.ofChange bundleTimeSpec)

/-- ITS FALSE NEIGHBOUR: 'it returns false'. Refute it at one input. -/
def bundleTimeWrong : ChangeSpec := { name := "bundleTime", fn := fun _ => fun
  | [d1, d2, d3, d4] => { results := [.lit (.bool false)], args := [d1, d2, d3, d4] }
  | _ => none }
def BundleTimeWrongFalsely : Prop := bundleTimeRow.holds Tryz.pinned (OpenSpec.ofChange bundleTimeWrong)

/-- 'feluccalaw20.BundleElse': WHATEVER THE INPUT: true; the input reads as it did. -/
def bundleElseSpec : ChangeSpec := { name := "bundleElse", fn := fun _ => fun
  | [d1, d2, d3, d4, d5, d6] => { results := [.lit (.bool true)], args := [d1, d2, d3, d4, d5, d6] }
  | _ => none }
def bundleElseRow : OpenClaim := { program := "ytodcoockhkghdaagreat", sum := "96c5791b1febf21aa327d42c5951d3b095cb59c147aab0a087c37eca973d2fd9", func := "felucca/feluccalaw20.BundleElse", spec := "bundleElse", unfollowed := true, recurses := true, apart := false }
def BundleElseSaid : Prop := bundleElseRow.holds Tryz.pinned (OpenSpec.ofChange bundleElseSpec)

/-- ITS FALSE NEIGHBOUR: 'it returns false'. Refute it at one input. -/
def bundleElseWrong : ChangeSpec := { name := "bundleElse", fn := fun _ => fun
  | [d1, d2, d3, d4, d5, d6] => { results := [.lit (.bool false)], args := [d1, d2, d3, d4, d5, d6] }
  | _ => none }
def BundleElseWrongFalsely : Prop := bundleElseRow.holds Tryz.pinned (OpenSpec.ofChange bundleElseWrong)

/- THE SECOND FORM. 'bulk': how many values and letters a reading holds, each counted each time it is reached (what is shared counts as often as it is met; a slice's spare places count too). A statement '..UptoSaid' is the law's where the arguments, and the package variables that the reading takes, are together of bulk at most 1048576: NARROWER than '..Said'. Prove '..Said' where nothing that the law and all that it calls make is longer than what came in: it says more and counts as full. Else prove '..UptoSaid'. A law counts once. -/
mutual
def uptoBulk {H : Type} : DataW H → Nat
  | .lit (.string bytes) => bytes.length + 1
  | .lit _ => 1
  | .nil => 1
  | .ptr d => uptoBulk d + 1
  | .slice elems spare => uptoBulkAll elems + uptoBulkAll spare + 1
  | .agg parts => uptoBulkAll parts + 1
  | .iface _ d => uptoBulk d + 1
  | .map entries => uptoBulkEntries entries + 1
  | .held _ => 1
def uptoBulkAll {H : Type} : List (DataW H) → Nat
  | [] => 0
  | d :: r => uptoBulk d + uptoBulkAll r
def uptoBulkEntries {H : Type} : List (Lit × DataW H) → Nat
  | [] => 0
  | x :: r => uptoBulkEntry x + uptoBulkEntries r
def uptoBulkEntry {H : Type} : Lit × DataW H → Nat
  | (.string bytes, d) => bytes.length + uptoBulk d + 1
  | (_, d) => uptoBulk d + 1
 end
def uptoSmall : (H : Type) → List (DataW H) → Bool := fun _ ds => decide (uptoBulkAll ds ≤ 1048576)
def OpenSpec.upto (s : _root_.Go.ChangeSpec) : _root_.Go.OpenSpec := { _root_.Go.OpenSpec.ofChange s with cond := some uptoSmall }

/-- 'feluccalaw20.BundleTells', WHERE WHAT IT READS IS OF BULK AT MOST 1048576: true; the input reads as it did. -/
def bundleTellsUptoRow : OpenClaim := { program := "ytodcoockhkghdaagreat", sum := "96c5791b1febf21aa327d42c5951d3b095cb59c147aab0a087c37eca973d2fd9", func := "felucca/feluccalaw20.BundleTells", spec := "bundleTells", unfollowed := true, recurses := true, apart := false, narrowed := true }
def BundleTellsUptoSaid : Prop := bundleTellsUptoRow.holds Tryz.pinned (OpenSpec.upto bundleTellsSpec)

/-- 'feluccalaw20.BundleFirst', WHERE WHAT IT READS IS OF BULK AT MOST 1048576: true; the input reads as it did. -/
def bundleFirstUptoRow : OpenClaim := { program := "ytodcoockhkghdaagreat", sum := "96c5791b1febf21aa327d42c5951d3b095cb59c147aab0a087c37eca973d2fd9", func := "felucca/feluccalaw20.BundleFirst", spec := "bundleFirst", unfollowed := true, recurses := true, apart := false, narrowed := true }
def BundleFirstUptoSaid : Prop := bundleFirstUptoRow.holds Tryz.pinned (OpenSpec.upto bundleFirstSpec)

/-- 'feluccalaw20.BundleOrder', WHERE WHAT IT READS IS OF BULK AT MOST 1048576: true; the input reads as it did. -/
def bundleOrderUptoRow : OpenClaim := { program := "ytodcoockhkghdaagreat", sum := "96c5791b1febf21aa327d42c5951d3b095cb59c147aab0a087c37eca973d2fd9", func := "felucca/feluccalaw20.BundleOrder", spec := "bundleOrder", unfollowed := true, recurses := true, apart := false, narrowed := true }
def BundleOrderUptoSaid : Prop := bundleOrderUptoRow.holds Tryz.pinned (OpenSpec.upto bundleOrderSpec)

/-- 'feluccalaw20.BundleBare', WHERE WHAT IT READS IS OF BULK AT MOST 1048576: true; the input reads as it did. -/
def bundleBareUptoRow : OpenClaim := { program := "ytodcoockhkghdaagreat", sum := "96c5791b1febf21aa327d42c5951d3b095cb59c147aab0a087c37eca973d2fd9", func := "felucca/feluccalaw20.BundleBare", spec := "bundleBare", unfollowed := true, recurses := true, apart := false, narrowed := true }
def BundleBareUptoSaid : Prop := bundleBareUptoRow.holds Tryz.pinned (OpenSpec.upto bundleBareSpec)

/-- 'feluccalaw20.BundleTime', WHERE WHAT IT READS IS OF BULK AT MOST 1048576: true; the input reads as it did. -/
def bundleTimeUptoRow : OpenClaim := { program := "ytodcoockhkghdaagreat", sum := "96c5791b1febf21aa327d42c5951d3b095cb59c147aab0a087c37eca973d2fd9", func := "felucca/feluccalaw20.BundleTime", spec := "bundleTime", unfollowed := true, recurses := true, apart := false, narrowed := true }
def BundleTimeUptoSaid : Prop := bundleTimeUptoRow.holds Tryz.pinned (OpenSpec.upto bundleTimeSpec)

/-- 'feluccalaw20.BundleElse', WHERE WHAT IT READS IS OF BULK AT MOST 1048576: true; the input reads as it did. -/
def bundleElseUptoRow : OpenClaim := { program := "ytodcoockhkghdaagreat", sum := "96c5791b1febf21aa327d42c5951d3b095cb59c147aab0a087c37eca973d2fd9", func := "felucca/feluccalaw20.BundleElse", spec := "bundleElse", unfollowed := true, recurses := true, apart := false, narrowed := true }
def BundleElseUptoSaid : Prop := bundleElseUptoRow.holds Tryz.pinned (OpenSpec.upto bundleElseSpec)

end Rows
end Go.Proofs.YtodcoockhkghdaaGreat

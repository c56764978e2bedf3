/-
  No cell of these rows narrows 'for every input' (looked for: loops, veiled, ifaces, maps, wideKeys, modest, calm, conditions, laid).
  DERIVED. THE GIVEN ROWS OF THIS SEAT. 5 by the template 'for every input the law returns true; each argument reads behind the call as it read before'; 0 by the template 'total and deterministic' (their statements: YtkonkhblipbjcaaGreatTotals.lean).
  GIVEN WITH THE SEED: the statements are not yours to turn. If you find one false, say at which input.
  Laid BY PROGRAM, IN A SANDBOX (cutbox-rows.mjs): the forced cells as the released guide's own fill.sh prints them over the translation c71e77944ddc61b2… (all of the seat's roots in one cut). By AI agents, Wed Nov 11 2026. No macro, syntax, notation, axiom, sorry.
-/
import Derived.Test.YtkonkhblipbjcaaGreatChecked
import GoSem.Claim
import GoSem.ClaimJoined
import GoSem.ClaimMapViews
import Derived.JoinedTies
import Derived.KernelRfl
namespace Go.Proofs.YtkonkhblipbjcaaGreat
/- THE CELL 'sum', in the pinned program and in every row, IS THE sha256 OF THE DUMP (.gsa) THAT YtkonkhblipbjcaaGreatProg.lean LOADS. Nothing in Lean hashes anything: it is a label: what it is worth is what the hold of that sum in a sandbox is worth. -/
noncomputable def Tryz.pinned : Pinned := { name := "ytkonkhblipbjcaagreat", sum := "c71e77944ddc61b2f6951fd9e28e794587da7f578a4281470b78d3e104eeff78", checked := Tryz.checked }
namespace Rows
def none {H : Type} : Left H := { results := [], args := [] }

/-- 'feluccalaw19.BestTells': WHATEVER THE INPUT: true; the input reads as it did. -/
def bestTellsSpec : ChangeSpec := { name := "bestTells", fn := fun _ => fun
  | [d1, d2, d3, d4, d5, d6, d7] => { results := [.lit (.bool true)], args := [d1, d2, d3, d4, d5, d6, d7] }
  | _ => none }
def bestTellsRow : OpenClaim := { program := "ytkonkhblipbjcaagreat", sum := "c71e77944ddc61b2f6951fd9e28e794587da7f578a4281470b78d3e104eeff78", func := "felucca/feluccalaw19.BestTells", spec := "bestTells", unfollowed := true, recurses := true, apart := false }
def BestTellsSaid : Prop := bestTellsRow.holds Tryz.pinned (OpenSpec.ofChange bestTellsSpec)

/-- ITS FALSE NEIGHBOUR: 'it returns false'. Refute it at one input. -/
def bestTellsWrong : ChangeSpec := { name := "bestTells", fn := fun _ => fun
  | [d1, d2, d3, d4, d5, d6, d7] => { results := [.lit (.bool false)], args := [d1, d2, d3, d4, d5, d6, d7] }
  | _ => none }
def BestTellsWrongFalsely : Prop := bestTellsRow.holds Tryz.pinned (OpenSpec.ofChange bestTellsWrong)

/-- 'feluccalaw19.BestRises': WHATEVER THE INPUT: true; the input reads as it did. -/
def bestRisesSpec : ChangeSpec := { name := "bestRises", fn := fun _ => fun
  | [d1, d2, d3, d4, d5, d6, d7] => { results := [.lit (.bool true)], args := [d1, d2, d3, d4, d5, d6, d7] }
  | _ => none }
def bestRisesRow : OpenClaim := { program := "ytkonkhblipbjcaagreat", sum := "c71e77944ddc61b2f6951fd9e28e794587da7f578a4281470b78d3e104eeff78", func := "felucca/feluccalaw19.BestRises", spec := "bestRises", unfollowed := true, recurses := true, apart := false }
def BestRisesSaid : Prop := bestRisesRow.holds Tryz.pinned (OpenSpec.ofChange bestRisesSpec)

/-- ITS FALSE NEIGHBOUR: 'it returns false'. Refute it at one input. -/
def bestRisesWrong : ChangeSpec := { name := "bestRises", fn := fun _ => fun
  | [d1, d2, d3, d4, d5, d6, d7] => { results := [.lit (.bool false)], args := [d1, d2, d3, d4, d5, d6, d7] }
  | _ => none }
def BestRisesWrongFalsely : Prop := bestRisesRow.holds Tryz.pinned (OpenSpec.ofChange bestRisesWrong)

/-- 'feluccalaw19.BestWhole': WHATEVER THE INPUT: true; the input reads as it did. -/
def bestWholeSpec : ChangeSpec := { name := "bestWhole", fn := fun _ => fun
  | [d1, d2, d3, d4, d5, d6, d7, d8] => { results := [.lit (.bool true)], args := [d1, d2, d3, d4, d5, d6, d7, d8] }
  | _ => none }
def bestWholeRow : OpenClaim := { program := "ytkonkhblipbjcaagreat", sum := "c71e77944ddc61b2f6951fd9e28e794587da7f578a4281470b78d3e104eeff78", func := "felucca/feluccalaw19.BestWhole", spec := "bestWhole", unfollowed := true, recurses := true, apart := false }
def BestWholeSaid : Prop := bestWholeRow.holds Tryz.pinned (OpenSpec.ofChange bestWholeSpec)

/-- ITS FALSE NEIGHBOUR: 'it returns false'. Refute it at one input. -/
def bestWholeWrong : ChangeSpec := { name := "bestWhole", fn := fun _ => fun
  | [d1, d2, d3, d4, d5, d6, d7, d8] => { results := [.lit (.bool false)], args := [d1, d2, d3, d4, d5, d6, d7, d8] }
  | _ => none }
def BestWholeWrongFalsely : Prop := bestWholeRow.holds Tryz.pinned (OpenSpec.ofChange bestWholeWrong)

/-- 'feluccalaw19.BestMore': WHATEVER THE INPUT: true; the input reads as it did. -/
def bestMoreSpec : ChangeSpec := { name := "bestMore", fn := fun _ => fun
  | [d1, d2, d3, d4, d5, d6, d7] => { results := [.lit (.bool true)], args := [d1, d2, d3, d4, d5, d6, d7] }
  | _ => none }
def bestMoreRow : OpenClaim := { program := "ytkonkhblipbjcaagreat", sum := "c71e77944ddc61b2f6951fd9e28e794587da7f578a4281470b78d3e104eeff78", func := "felucca/feluccalaw19.BestMore", spec := "bestMore", unfollowed := true, recurses := true, apart := false }
def BestMoreSaid : Prop := bestMoreRow.holds Tryz.pinned (OpenSpec.ofChange bestMoreSpec)

/-- ITS FALSE NEIGHBOUR: 'it returns false'. Refute it at one input. -/
def bestMoreWrong : ChangeSpec := { name := "bestMore", fn := fun _ => fun
  | [d1, d2, d3, d4, d5, d6, d7] => { results := [.lit (.bool false)], args := [d1, d2, d3, d4, d5, d6, d7] }
  | _ => none }
def BestMoreWrongFalsely : Prop := bestMoreRow.holds Tryz.pinned (OpenSpec.ofChange bestMoreWrong)

/-- 'feluccalaw19.BestBy': WHATEVER THE INPUT: true; the input reads as it did. -/
def bestBySpec : ChangeSpec := { name := "bestBy", fn := fun _ => fun
  | [d1, d2, d3, d4, d5, d6, d7] => { results := [.lit (.bool true)], args := [d1, d2, d3, d4, d5, d6, d7] }
  | _ => none }
def bestByRow : OpenClaim := { program := "ytkonkhblipbjcaagreat", sum := "c71e77944ddc61b2f6951fd9e28e794587da7f578a4281470b78d3e104eeff78", func := "felucca/feluccalaw19.BestBy", spec := "bestBy", unfollowed := true, recurses := true, apart := false }
def BestBySaid : Prop := bestByRow.holds Tryz.pinned (OpenSpec.ofChange bestBySpec)

/-- ITS FALSE NEIGHBOUR: 'it returns false'. Refute it at one input. -/
def bestByWrong : ChangeSpec := { name := "bestBy", fn := fun _ => fun
  | [d1, d2, d3, d4, d5, d6, d7] => { results := [.lit (.bool false)], args := [d1, d2, d3, d4, d5, d6, d7] }
  | _ => none }
def BestByWrongFalsely : Prop := bestByRow.holds Tryz.pinned (OpenSpec.ofChange bestByWrong)

/- THE SECOND FORM. 'bulk': how many values and letters a reading holds, each counted each time it is reached (what is shared counts as often as it is met; a slice's spare places count too). A statement '..UptoSaid' is the law's where the arguments, and the package variables that the reading takes, are together of bulk at most 1048576: NARROWER than '..Said'. Prove '..Said' where nothing that the law and all that it calls make is longer than what came in: it says more and counts as full. Else prove '..UptoSaid'. A law counts once. -/
mutual
def uptoBulk {H : Type} : DataW H → Nat
  | .lit (.string bytes) => bytes.length + 1
  | .lit _ => 1
  | .nil => 1
  | .ptr d => uptoBulk d + 1
  | .slice elems spare => uptoBulkAll elems + uptoBulkAll spare + 1
  | .agg parts => uptoBulkAll parts + 1
  | .iface _ d => uptoBulk d + 1
  | .map entries => uptoBulkEntries entries + 1
  | .held _ => 1
def uptoBulkAll {H : Type} : List (DataW H) → Nat
  | [] => 0
  | d :: r => uptoBulk d + uptoBulkAll r
def uptoBulkEntries {H : Type} : List (Lit × DataW H) → Nat
  | [] => 0
  | x :: r => uptoBulkEntry x + uptoBulkEntries r
def uptoBulkEntry {H : Type} : Lit × DataW H → Nat
  | (.string bytes, d) => bytes.length + uptoBulk d + 1
  | (_, d) => uptoBulk d + 1
 end
def uptoSmall : (H : Type) → List (DataW H) → Bool := fun _ ds => decide (uptoBulkAll ds ≤ 1048576)
def OpenSpec.upto (s : _root_.Go.ChangeSpec) : _root_.Go.OpenSpec := { _root_.Go.OpenSpec.ofChange s with cond := some uptoSmall }

/-- 'feluccalaw19.BestTells', WHERE WHAT IT READS IS OF BULK AT MOST 1048576: true; the input reads as it did. -/
def bestTellsUptoRow : OpenClaim := { program := "ytkonkhblipbjcaagreat", sum := "c71e77944ddc61b2f6951fd9e28e794587da7f578a4281470b78d3e104eeff78", func := "felucca/feluccalaw19.BestTells", spec := "bestTells", unfollowed := true, recurses := true, apart := false, narrowed := true }
def BestTellsUptoSaid : Prop := bestTellsUptoRow.holds Tryz.pinned (OpenSpec.upto bestTellsSpec)

/-- 'feluccalaw19.BestRises', WHERE WHAT IT READS IS OF BULK AT MOST 1048576: true; the input reads as it did. -/
def bestRisesUptoRow : OpenClaim := { program := "ytkonkhblipbjcaagreat", sum := "c71e77944ddc61b2f6951fd9e28e794587da7f578a4281470b78d3e104eeff78", func := "felucca/feluccalaw19.BestRises", spec := "bestRises", unfollowed := true, recurses := true, apart := false, narrowed := true }
def BestRisesUptoSaid : Prop := bestRisesUptoRow.holds Tryz.pinned (OpenSpec.upto bestRisesSpec)

/-- 'feluccalaw19.BestWhole', WHERE WHAT IT READS IS OF BULK AT MOST 1048576: true; the input reads as it did. -/
def bestWholeUptoRow : OpenClaim := { program := "ytkonkhblipbjcaagreat", sum := "c71e77944ddc61b2f6951fd9e28e794587da7f578a4281470b78d3e104eeff78", func := "felucca/feluccalaw19.BestWhole", spec := "bestWhole", unfollowed := true, recurses := true, apart := false, narrowed := true }
def BestWholeUptoSaid : Prop := bestWholeUptoRow.holds Tryz.pinned (OpenSpec.upto bestWholeSpec)

/-- 'feluccalaw19.BestMore', WHERE WHAT IT READS IS OF BULK AT MOST 1048576: true; the input reads as it did. -/
def bestMoreUptoRow : OpenClaim := { program := "ytkonkhblipbjcaagreat", sum := "c71e77944ddc61b2f6951fd9e28e794587da7f578a4281470b78d3e104eeff78", func := "felucca/feluccalaw19.BestMore", spec := "bestMore", unfollowed := true, recurses := true, apart := false, narrowed := true }
def BestMoreUptoSaid : Prop := bestMoreUptoRow.holds Tryz.pinned (OpenSpec.upto bestMoreSpec)

/-- 'feluccalaw19.BestBy', WHERE WHAT IT READS IS OF BULK AT MOST 1048576: true; the input reads as it did. -/
def bestByUptoRow : OpenClaim := { program := "ytkonkhblipbjcaagreat", sum := "c71e77944ddc61b2f6951fd9e28e794587da7f578a4281470b78d3e104eeff78", func := "felucca/feluccalaw19.BestBy", spec := "bestBy", unfollowed := true, recurses := true, apart := false, narrowed := true }
def BestByUptoSaid : Prop := bestByUptoRow.holds Tryz.pinned (OpenSpec.upto bestBySpec)

end Rows
end Go.Proofs.YtkonkhblipbjcaaGreat

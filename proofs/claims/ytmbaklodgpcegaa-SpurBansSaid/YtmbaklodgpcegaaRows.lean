/-
  No cell of these rows narrows 'for every input' (looked for: loops, veiled, ifaces, maps, wideKeys, modest, calm, conditions, laid).
  DERIVED. THE GIVEN ROWS OF THIS SEAT. 3 by the template 'for every input the law returns true; each argument reads behind the call as it read before'; 0 by the template 'total and deterministic' (their statements: YtmbaklodgpcegaaTotals.lean).
  GIVEN WITH THE SEED: the statements are not yours to turn. If you find one false, say at which input.
  Laid BY PROGRAM, IN A SANDBOX (cutbox-rows.mjs): the forced cells as the released guide's own fill.sh prints them over the translation c1a1386e6ae5117d… (all of the seat's roots in one cut). By AI agents, Wed Nov 11 2026. No macro, syntax, notation, axiom, sorry.
-/
import Derived.Test.YtmbaklodgpcegaaChecked
import GoSem.Claim
import GoSem.ClaimJoined
import GoSem.ClaimMapViews
import Derived.JoinedTies
import Derived.KernelRfl
namespace Go.Proofs.Ytmbaklodgpcegaa
/- THE CELL 'sum', in the pinned program and in every row, IS THE sha256 OF THE DUMP (.gsa) THAT YtmbaklodgpcegaaProg.lean LOADS. Nothing in Lean hashes anything: it is a label: what it is worth is what the hold of that sum in a sandbox is worth. -/
noncomputable def Try.pinned : Pinned := { name := "ytmbaklodgpcegaa", sum := "c1a1386e6ae5117dd1f98e8121a1a7f57c9962d049caaeccd765ad1e76b7a0f0", checked := Try.checked }
namespace Rows
def none {H : Type} : Left H := { results := [], args := [] }

/-- 'feluccalaw18.SpurParts': WHATEVER THE INPUT: true; the input reads as it did. -/
def spurPartsSpec : ChangeSpec := { name := "spurParts", fn := fun _ => fun
  | [d1, d2, d3, d4, d5, d6, d7, d8] => { results := [.lit (.bool true)], args := [d1, d2, d3, d4, d5, d6, d7, d8] }
  | _ => none }
def spurPartsRow : OpenClaim := { program := "ytmbaklodgpcegaa", sum := "c1a1386e6ae5117dd1f98e8121a1a7f57c9962d049caaeccd765ad1e76b7a0f0", func := "felucca/feluccalaw18.SpurParts", spec := "spurParts", unfollowed := true, recurses := true, apart := false }
def SpurPartsSaid : Prop := spurPartsRow.holds Try.pinned (OpenSpec.ofChange spurPartsSpec)

/-- ITS FALSE NEIGHBOUR: 'it returns false'. Refute it at one input. -/
def spurPartsWrong : ChangeSpec := { name := "spurParts", fn := fun _ => fun
  | [d1, d2, d3, d4, d5, d6, d7, d8] => { results := [.lit (.bool false)], args := [d1, d2, d3, d4, d5, d6, d7, d8] }
  | _ => none }
def SpurPartsWrongFalsely : Prop := spurPartsRow.holds Try.pinned (OpenSpec.ofChange spurPartsWrong)

/-- 'feluccalaw18.SpurBeats': WHATEVER THE INPUT: true; the input reads as it did. -/
def spurBeatsSpec : ChangeSpec := { name := "spurBeats", fn := fun _ => fun
  | [d1, d2, d3, d4, d5, d6, d7, d8, d9] => { results := [.lit (.bool true)], args := [d1, d2, d3, d4, d5, d6, d7, d8, d9] }
  | _ => none }
def spurBeatsRow : OpenClaim := { program := "ytmbaklodgpcegaa", sum := "c1a1386e6ae5117dd1f98e8121a1a7f57c9962d049caaeccd765ad1e76b7a0f0", func := "felucca/feluccalaw18.SpurBeats", spec := "spurBeats", unfollowed := true, recurses := true, apart := false }
def SpurBeatsSaid : Prop := spurBeatsRow.holds Try.pinned (OpenSpec.ofChange spurBeatsSpec)

/-- ITS FALSE NEIGHBOUR: 'it returns false'. Refute it at one input. -/
def spurBeatsWrong : ChangeSpec := { name := "spurBeats", fn := fun _ => fun
  | [d1, d2, d3, d4, d5, d6, d7, d8, d9] => { results := [.lit (.bool false)], args := [d1, d2, d3, d4, d5, d6, d7, d8, d9] }
  | _ => none }
def SpurBeatsWrongFalsely : Prop := spurBeatsRow.holds Try.pinned (OpenSpec.ofChange spurBeatsWrong)

/-- 'feluccalaw18.SpurBans': WHATEVER THE INPUT: true; the input reads as it did. -/
def spurBansSpec : ChangeSpec := { name := "spurBans", fn := fun _ => fun
  | [d1, d2, d3, d4, d5, d6, d7, d8, d9] => { results := [.lit (.bool true)], args := [d1, d2, d3, d4, d5, d6, d7, d8, d9] }
  | _ => none }
def spurBansRow : OpenClaim := { program := "ytmbaklodgpcegaa", sum := "c1a1386e6ae5117dd1f98e8121a1a7f57c9962d049caaeccd765ad1e76b7a0f0", func := "felucca/feluccalaw18.SpurBans", spec := "spurBans", unfollowed := true, recurses := true, apart := false }
def SpurBansSaid : Prop := spurBansRow.holds Try.pinned (OpenSpec.ofChange spurBansSpec)

/-- ITS FALSE NEIGHBOUR: 'it returns false'. Refute it at one input. -/
def spurBansWrong : ChangeSpec := { name := "spurBans", fn := fun _ => fun
  | [d1, d2, d3, d4, d5, d6, d7, d8, d9] => { results := [.lit (.bool false)], args := [d1, d2, d3, d4, d5, d6, d7, d8, d9] }
  | _ => none }
def SpurBansWrongFalsely : Prop := spurBansRow.holds Try.pinned (OpenSpec.ofChange spurBansWrong)

/- THE SECOND FORM. 'bulk': how many values and letters a reading holds, each counted each time it is reached (what is shared counts as often as it is met; a slice's spare places count too). A statement '..UptoSaid' is the law's where the arguments, and the package variables that the reading takes, are together of bulk at most 1048576: NARROWER than '..Said'. Prove '..Said' where nothing that the law and all that it calls make is longer than what came in: it says more and counts as full. Else prove '..UptoSaid'. A law counts once. -/
mutual
def uptoBulk {H : Type} : DataW H → Nat
  | .lit (.string bytes) => bytes.length + 1
  | .lit _ => 1
  | .nil => 1
  | .ptr d => uptoBulk d + 1
  | .slice elems spare => uptoBulkAll elems + uptoBulkAll spare + 1
  | .agg parts => uptoBulkAll parts + 1
  | .iface _ d => uptoBulk d + 1
  | .map entries => uptoBulkEntries entries + 1
  | .held _ => 1
def uptoBulkAll {H : Type} : List (DataW H) → Nat
  | [] => 0
  | d :: r => uptoBulk d + uptoBulkAll r
def uptoBulkEntries {H : Type} : List (Lit × DataW H) → Nat
  | [] => 0
  | x :: r => uptoBulkEntry x + uptoBulkEntries r
def uptoBulkEntry {H : Type} : Lit × DataW H → Nat
  | (.string bytes, d) => bytes.length + uptoBulk d + 1
  | (_, d) => uptoBulk d + 1
 end
def uptoSmall : (H : Type) → List (DataW H) → Bool := fun _ ds => decide (uptoBulkAll ds ≤ 1048576)
def OpenSpec.upto (s : _root_.Go.ChangeSpec) : _root_.Go.OpenSpec := { _root_.Go.OpenSpec.ofChange s with cond := some uptoSmall }

/-- 'feluccalaw18.SpurParts', WHERE WHAT IT READS IS OF BULK AT MOST 1048576: true; the input reads as it did. -/
def spurPartsUptoRow : OpenClaim := { program := "ytmbaklodgpcegaa", sum := "c1a1386e6ae5117dd1f98e8121a1a7f57c9962d049caaeccd765ad1e76b7a0f0", func := "felucca/feluccalaw18.SpurParts", spec := "spurParts", unfollowed := true, recurses := true, apart := false, narrowed := true }
def SpurPartsUptoSaid : Prop := spurPartsUptoRow.holds Try.pinned (OpenSpec.upto spurPartsSpec)

/-- 'feluccalaw18.SpurBeats', WHERE WHAT IT READS IS OF BULK AT MOST 1048576: true; the input reads as it did. -/
def spurBeatsUptoRow : OpenClaim := { program := "ytmbaklodgpcegaa", sum := "c1a1386e6ae5117dd1f98e8121a1a7f57c9962d049caaeccd765ad1e76b7a0f0", func := "felucca/feluccalaw18.SpurBeats", spec := "spurBeats", unfollowed := true, recurses := true, apart := false, narrowed := true }
def SpurBeatsUptoSaid : Prop := spurBeatsUptoRow.holds Try.pinned (OpenSpec.upto spurBeatsSpec)

/-- 'feluccalaw18.SpurBans', WHERE WHAT IT READS IS OF BULK AT MOST 1048576: true; the input reads as it did. -/
def spurBansUptoRow : OpenClaim := { program := "ytmbaklodgpcegaa", sum := "c1a1386e6ae5117dd1f98e8121a1a7f57c9962d049caaeccd765ad1e76b7a0f0", func := "felucca/feluccalaw18.SpurBans", spec := "spurBans", unfollowed := true, recurses := true, apart := false, narrowed := true }
def SpurBansUptoSaid : Prop := spurBansUptoRow.holds Try.pinned (OpenSpec.upto spurBansSpec)

end Rows
end Go.Proofs.Ytmbaklodgpcegaa

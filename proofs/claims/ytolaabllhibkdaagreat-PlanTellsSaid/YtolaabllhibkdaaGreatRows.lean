/-
  No cell of these rows narrows 'for every input' (looked for: loops, veiled, ifaces, maps, wideKeys, modest, calm, conditions, laid).
  DERIVED. THE GIVEN ROWS OF THIS SEAT. 7 by the template 'for every input the law returns true; each argument reads behind the call as it read before'; 0 by the template 'total and deterministic' (their statements: YtolaabllhibkdaaGreatTotals.lean).
  GIVEN WITH THE SEED: the statements are not yours to turn. If you find one false, say at which input.
  Laid BY PROGRAM, IN A SANDBOX (cutbox-rows.mjs): the forced cells as the released guide's own fill.sh prints them over the translation 45b7366045c905c9… (all of the seat's roots in one cut). By AI agents, Wed Nov 11 2026. No macro, syntax, notation, axiom, sorry.
-/
import Derived.Test.YtolaabllhibkdaaGreatChecked
import GoSem.Claim
import GoSem.ClaimJoined
import GoSem.ClaimMapViews
import Derived.JoinedTies
import Derived.KernelRfl
namespace Go.Proofs.YtolaabllhibkdaaGreat
/- THE CELL 'sum', in the pinned program and in every row, IS THE sha256 OF THE DUMP (.gsa) THAT YtolaabllhibkdaaGreatProg.lean LOADS. Nothing in Lean hashes anything: it is a label: what it is worth is what the hold of that sum in a sandbox is worth. -/
noncomputable def Tryz.pinned : Pinned := { name := "ytolaabllhibkdaagreat", sum := "45b7366045c905c97938979e27139b61e96bf9e3ff21df3d7799fed5e04517f1", checked := Tryz.checked }
namespace Rows
def none {H : Type} : Left H := { results := [], args := [] }

/-- 'feluccalaw08.PlanTells': WHATEVER THE INPUT: true; the input reads as it did. -/
def planTellsSpec : ChangeSpec := { name := "planTells", fn := fun _ => fun
  | [d1, d2, d3] => { results := [.lit (.bool true)], args := [d1, d2, d3] }
  | _ => none }
def planTellsRow : OpenClaim := { program := "ytolaabllhibkdaagreat", sum := "45b7366045c905c97938979e27139b61e96bf9e3ff21df3d7799fed5e04517f1", func := "felucca/feluccalaw08.PlanTells", spec := "planTells", unfollowed := true, recurses := true, plainKeys := false, apart := false }
def PlanTellsSaid : Prop := planTellsRow.holds Tryz.pinned (OpenSpec.ofChange planTellsSpec)

/-- ITS FALSE NEIGHBOUR: 'it returns false'. Refute it at one input. -/
def planTellsWrong : ChangeSpec := { name := "planTells", fn := fun _ => fun
  | [d1, d2, d3] => { results := [.lit (.bool false)], args := [d1, d2, d3] }
  | _ => none }
def PlanTellsWrongFalsely : Prop := planTellsRow.holds Tryz.pinned (OpenSpec.ofChange planTellsWrong)

/-- 'feluccalaw08.PlanRight': WHATEVER THE INPUT: true; the input reads as it did. -/
def planRightSpec : ChangeSpec := { name := "planRight", fn := fun _ => fun
  | [d1, d2] => { results := [.lit (.bool true)], args := [d1, d2] }
  | _ => none }
def planRightRow : OpenClaim := { program := "ytolaabllhibkdaagreat", sum := "45b7366045c905c97938979e27139b61e96bf9e3ff21df3d7799fed5e04517f1", func := "felucca/feluccalaw08.PlanRight", spec := "planRight", unfollowed := true, recurses := true, plainKeys := false, apart := false }
def PlanRightSaid : Prop := planRightRow.holds Tryz.pinned (OpenSpec.ofChange planRightSpec)

/-- ITS FALSE NEIGHBOUR: 'it returns false'. Refute it at one input. -/
def planRightWrong : ChangeSpec := { name := "planRight", fn := fun _ => fun
  | [d1, d2] => { results := [.lit (.bool false)], args := [d1, d2] }
  | _ => none }
def PlanRightWrongFalsely : Prop := planRightRow.holds Tryz.pinned (OpenSpec.ofChange planRightWrong)

/-- 'feluccalaw08.PlanLists': WHATEVER THE INPUT: true; the input reads as it did. -/
def planListsSpec : ChangeSpec := { name := "planLists", fn := fun _ => fun
  | [d] => { results := [.lit (.bool true)], args := [d] }
  | _ => none }
def planListsRow : OpenClaim := { program := "ytolaabllhibkdaagreat", sum := "45b7366045c905c97938979e27139b61e96bf9e3ff21df3d7799fed5e04517f1", func := "felucca/feluccalaw08.PlanLists", spec := "planLists", unfollowed := true, recurses := true, plainKeys := false, apart := false }
def PlanListsSaid : Prop := planListsRow.holds Tryz.pinned (OpenSpec.ofChange planListsSpec)

/-- ITS FALSE NEIGHBOUR: 'it returns false'. Refute it at one input. -/
def planListsWrong : ChangeSpec := { name := "planLists", fn := fun _ => fun
  | [d] => { results := [.lit (.bool false)], args := [d] }
  | _ => none }
def PlanListsWrongFalsely : Prop := planListsRow.holds Tryz.pinned (OpenSpec.ofChange planListsWrong)

/-- 'feluccalaw08.PlanWhole': WHATEVER THE INPUT: true; the input reads as it did. -/
def planWholeSpec : ChangeSpec := { name := "planWhole", fn := fun _ => fun
  | [d1, d2] => { results := [.lit (.bool true)], args := [d1, d2] }
  | _ => none }
def planWholeRow : OpenClaim := { program := "ytolaabllhibkdaagreat", sum := "45b7366045c905c97938979e27139b61e96bf9e3ff21df3d7799fed5e04517f1", func := "felucca/feluccalaw08.PlanWhole", spec := "planWhole", unfollowed := true, recurses := true, plainKeys := false, apart := false }
def PlanWholeSaid : Prop := planWholeRow.holds Tryz.pinned (OpenSpec.ofChange planWholeSpec)

/-- ITS FALSE NEIGHBOUR: 'it returns false'. Refute it at one input. -/
def planWholeWrong : ChangeSpec := { name := "planWhole", fn := fun _ => fun
  | [d1, d2] => { results := [.lit (.bool false)], args := [d1, d2] }
  | _ => none }
def PlanWholeWrongFalsely : Prop := planWholeRow.holds Tryz.pinned (OpenSpec.ofChange planWholeWrong)

/-- 'feluccalaw08.PlanSkips': WHATEVER THE INPUT: true; the input reads as it did. -/
def planSkipsSpec : ChangeSpec := { name := "planSkips", fn := fun _ => fun
  | [d1, d2, d3] => { results := [.lit (.bool true)], args := [d1, d2, d3] }
  | _ => none }
def planSkipsRow : OpenClaim := { program := "ytolaabllhibkdaagreat", sum := "45b7366045c905c97938979e27139b61e96bf9e3ff21df3d7799fed5e04517f1", func := "felucca/feluccalaw08.PlanSkips", spec := "planSkips", unfollowed := true, recurses := true, plainKeys := false, apart := false }
def PlanSkipsSaid : Prop := planSkipsRow.holds Tryz.pinned (OpenSpec.ofChange planSkipsSpec)

/-- ITS FALSE NEIGHBOUR: 'it returns false'. Refute it at one input. -/
def planSkipsWrong : ChangeSpec := { name := "planSkips", fn := fun _ => fun
  | [d1, d2, d3] => { results := [.lit (.bool false)], args := [d1, d2, d3] }
  | _ => none }
def PlanSkipsWrongFalsely : Prop := planSkipsRow.holds Tryz.pinned (OpenSpec.ofChange planSkipsWrong)

/-- 'feluccalaw08.PlanTwice': WHATEVER THE INPUT: true; the input reads as it did. -/
def planTwiceSpec : ChangeSpec := { name := "planTwice", fn := fun _ => fun
  | [d1, d2] => { results := [.lit (.bool true)], args := [d1, d2] }
  | _ => none }
def planTwiceRow : OpenClaim := { program := "ytolaabllhibkdaagreat", sum := "45b7366045c905c97938979e27139b61e96bf9e3ff21df3d7799fed5e04517f1", func := "felucca/feluccalaw08.PlanTwice", spec := "planTwice", unfollowed := true, recurses := true, plainKeys := false, apart := false }
def PlanTwiceSaid : Prop := planTwiceRow.holds Tryz.pinned (OpenSpec.ofChange planTwiceSpec)

/-- ITS FALSE NEIGHBOUR: 'it returns false'. Refute it at one input. -/
def planTwiceWrong : ChangeSpec := { name := "planTwice", fn := fun _ => fun
  | [d1, d2] => { results := [.lit (.bool false)], args := [d1, d2] }
  | _ => none }
def PlanTwiceWrongFalsely : Prop := planTwiceRow.holds Tryz.pinned (OpenSpec.ofChange planTwiceWrong)

/-- 'feluccalaw08.PlanEnds': WHATEVER THE INPUT: true; the input reads as it did. -/
def planEndsSpec : ChangeSpec := { name := "planEnds", fn := fun _ => fun
  | [d1, d2] => { results := [.lit (.bool true)], args := [d1, d2] }
  | _ => none }
def planEndsRow : OpenClaim := { program := "ytolaabllhibkdaagreat", sum := "45b7366045c905c97938979e27139b61e96bf9e3ff21df3d7799fed5e04517f1", func := "felucca/feluccalaw08.PlanEnds", spec := "planEnds", unfollowed := true, recurses := true, plainKeys := false, apart := false }
def PlanEndsSaid : Prop := planEndsRow.holds Tryz.pinned (OpenSpec.ofChange planEndsSpec)

/-- ITS FALSE NEIGHBOUR: 'it returns false'. Refute it at one input. -/
def planEndsWrong : ChangeSpec := { name := "planEnds", fn := fun _ => fun
  | [d1, d2] => { results := [.lit (.bool false)], args := [d1, d2] }
  | _ => none }
def PlanEndsWrongFalsely : Prop := planEndsRow.holds Tryz.pinned (OpenSpec.ofChange planEndsWrong)

/- THE SECOND FORM. 'bulk': how many values and letters a reading holds, each counted each time it is reached (what is shared counts as often as it is met; a slice's spare places count too). A statement '..UptoSaid' is the law's where the arguments, and the package variables that the reading takes, are together of bulk at most 1048576: NARROWER than '..Said'. Prove '..Said' where nothing that the law and all that it calls make is longer than what came in: it says more and counts as full. Else prove '..UptoSaid'. A law counts once. -/
mutual
def uptoBulk {H : Type} : DataW H → Nat
  | .lit (.string bytes) => bytes.length + 1
  | .lit _ => 1
  | .nil => 1
  | .ptr d => uptoBulk d + 1
  | .slice elems spare => uptoBulkAll elems + uptoBulkAll spare + 1
  | .agg parts => uptoBulkAll parts + 1
  | .iface _ d => uptoBulk d + 1
  | .map entries => uptoBulkEntries entries + 1
  | .held _ => 1
def uptoBulkAll {H : Type} : List (DataW H) → Nat
  | [] => 0
  | d :: r => uptoBulk d + uptoBulkAll r
def uptoBulkEntries {H : Type} : List (Lit × DataW H) → Nat
  | [] => 0
  | x :: r => uptoBulkEntry x + uptoBulkEntries r
def uptoBulkEntry {H : Type} : Lit × DataW H → Nat
  | (.string bytes, d) => bytes.length + uptoBulk d + 1
  | (_, d) => uptoBulk d + 1
 end
def uptoSmall : (H : Type) → List (DataW H) → Bool := fun _ ds => decide (uptoBulkAll ds ≤ 1048576)
def OpenSpec.upto (s : _root_.Go.ChangeSpec) : _root_.Go.OpenSpec := { _root_.Go.OpenSpec.ofChange s with cond := some uptoSmall }

/-- 'feluccalaw08.PlanTells', WHERE WHAT IT READS IS OF BULK AT MOST 1048576: true; the input reads as it did. -/
def planTellsUptoRow : OpenClaim := { program := "ytolaabllhibkdaagreat", sum := "45b7366045c905c97938979e27139b61e96bf9e3ff21df3d7799fed5e04517f1", func := "felucca/feluccalaw08.PlanTells", spec := "planTells", unfollowed := true, recurses := true, plainKeys := false, apart := false, narrowed := true }
def PlanTellsUptoSaid : Prop := planTellsUptoRow.holds Tryz.pinned (OpenSpec.upto planTellsSpec)

/-- 'feluccalaw08.PlanRight', WHERE WHAT IT READS IS OF BULK AT MOST 1048576: true; the input reads as it did. -/
def planRightUptoRow : OpenClaim := { program := "ytolaabllhibkdaagreat", sum := "45b7366045c905c97938979e27139b61e96bf9e3ff21df3d7799fed5e04517f1", func := "felucca/feluccalaw08.PlanRight", spec := "planRight", unfollowed := true, recurses := true, plainKeys := false, apart := false, narrowed := true }
def PlanRightUptoSaid : Prop := planRightUptoRow.holds Tryz.pinned (OpenSpec.upto planRightSpec)

/-- 'feluccalaw08.PlanLists', WHERE WHAT IT READS IS OF BULK AT MOST 1048576: true; the input reads as it did. -/
def planListsUptoRow : OpenClaim := { program := "ytolaabllhibkdaagreat", sum := "45b7366045c905c97938979e27139b61e96bf9e3ff21df3d7799fed5e04517f1", func := "felucca/feluccalaw08.PlanLists", spec := "planLists", unfollowed := true, recurses := true, plainKeys := false, apart := false, narrowed := true }
def PlanListsUptoSaid : Prop := planListsUptoRow.holds Tryz.pinned (OpenSpec.upto planListsSpec)

/-- 'feluccalaw08.PlanWhole', WHERE WHAT IT READS IS OF BULK AT MOST 1048576: true; the input reads as it did. -/
def planWholeUptoRow : OpenClaim := { program := "ytolaabllhibkdaagreat", sum := "45b7366045c905c97938979e27139b61e96bf9e3ff21df3d7799fed5e04517f1", func := "felucca/feluccalaw08.PlanWhole", spec := "planWhole", unfollowed := true, recurses := true, plainKeys := false, apart := false, narrowed := true }
def PlanWholeUptoSaid : Prop := planWholeUptoRow.holds Tryz.pinned (OpenSpec.upto planWholeSpec)

/-- 'feluccalaw08.PlanSkips', WHERE WHAT IT READS IS OF BULK AT MOST 1048576: true; the input reads as it did. -/
def planSkipsUptoRow : OpenClaim := { program := "ytolaabllhibkdaagreat", sum := "45b7366045c905c97938979e27139b61e96bf9e3ff21df3d7799fed5e04517f1", func := "felucca/feluccalaw08.PlanSkips", spec := "planSkips", unfollowed := true, recurses := true, plainKeys := false, apart := false, narrowed := true }
def PlanSkipsUptoSaid : Prop := planSkipsUptoRow.holds Tryz.pinned (OpenSpec.upto planSkipsSpec)

/-- 'feluccalaw08.PlanTwice', WHERE WHAT IT READS IS OF BULK AT MOST 1048576: true; the input reads as it did. -/
def planTwiceUptoRow : OpenClaim := { program := "ytolaabllhibkdaagreat", sum := "45b7366045c905c97938979e27139b61e96bf9e3ff21df3d7799fed5e04517f1", func := "felucca/feluccalaw08.PlanTwice", spec := "planTwice", unfollowed := true, recurses := true, plainKeys := false, apart := false, narrowed := true }
def PlanTwiceUptoSaid : Prop := planTwiceUptoRow.holds Tryz.pinned (OpenSpec.upto planTwiceSpec)

/-- 'feluccalaw08.PlanEnds', WHERE WHAT IT READS IS OF BULK AT MOST 1048576: true; the input reads as it did. -/
def planEndsUptoRow : OpenClaim := { program := "ytolaabllhibkdaagreat", sum := "45b7366045c905c97938979e27139b61e96bf9e3ff21df3d7799fed5e04517f1", func := "felucca/feluccalaw08.PlanEnds", spec := "planEnds", unfollowed := true, recurses := true, plainKeys := false, apart := false, narrowed := true }
def PlanEndsUptoSaid : Prop := planEndsUptoRow.holds Tryz.pinned (OpenSpec.upto planEndsSpec)

end Rows
end Go.Proofs.YtolaabllhibkdaaGreat

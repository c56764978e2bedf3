/-
  DERIVED. GIVEN WITH THE SEED: THE CARDS: each row of YtggdomeeienjbaaDoorRows.lean that lists a variable, with what it lists TIED to the program's text (the seventh form; the later family's looks); each row that meets fmt, with fmt's text TOLD by the authors' own Lean function (tested against real Go, not proved from fmt's source: count such statements apart). THE CARD IS WHAT COUNTS. Prove the row's statement (the work); the ties are given (YtggdomeeienjbaaDoorTie.lean); close each card by the builder's one call (the guide's Derived/Test/ToyasCard.lean, 'card_holds'). Laid BY PROGRAM, IN A SANDBOX (cutbox-door.mjs). By AI agents, Wed Nov 11 2026. No macro, syntax, notation, axiom, sorry.
-/
import Derived.Test.YtggdomeeienjbaaDoorRows
import GoSem.ClaimSeven
namespace Go.Proofs.YtggdomeeienjbaaDoor
namespace Rows

/-- THE TIED CARD OF 'feluccalaw25.ScriptTells'. -/
def scriptTellsCard : Claim7 := { stood := { row := scriptTellsRow, standIns := [], harness := (true, "e0328608674aef5192d7a2a915d6c7eae22adffb495e79be2325e59879455279"), looks := false }, kinds := [], alts := [], laidByText := true, laidKinds := [.data, .data, .data], laidTests := true, laidLooks := .later }
def ScriptTellsCardSaid : Prop := Claim7.holds Tryd.pinned (.plain (OpenSpec.ofChange scriptTellsSpec)) scriptTellsCard

/-- THE TIED CARD OF 'feluccalaw25.ScriptParts'. -/
def scriptPartsCard : Claim7 := { stood := { row := scriptPartsRow, standIns := [], harness := (true, "e0328608674aef5192d7a2a915d6c7eae22adffb495e79be2325e59879455279"), looks := false }, kinds := [], alts := [], laidByText := true, laidKinds := [.data, .data, .data], laidTests := true, laidLooks := .later }
def ScriptPartsCardSaid : Prop := Claim7.holds Tryd.pinned (.plain (OpenSpec.ofChange scriptPartsSpec)) scriptPartsCard

/-- THE TIED CARD OF 'feluccalaw25.ScriptOnes'. -/
def scriptOnesCard : Claim7 := { stood := { row := scriptOnesRow, standIns := [], harness := (true, "e0328608674aef5192d7a2a915d6c7eae22adffb495e79be2325e59879455279"), looks := false }, kinds := [], alts := [], laidByText := true, laidKinds := [.data, .data, .data], laidTests := true, laidLooks := .later }
def ScriptOnesCardSaid : Prop := Claim7.holds Tryd.pinned (.plain (OpenSpec.ofChange scriptOnesSpec)) scriptOnesCard

/-- THE SECOND FORM's CARD OF 'feluccalaw25.ScriptTells'. -/
def scriptTellsUptoCard : Claim7 := { stood := { row := scriptTellsUptoRow, standIns := [], harness := (true, "e0328608674aef5192d7a2a915d6c7eae22adffb495e79be2325e59879455279"), looks := false }, kinds := [], alts := [], laidByText := true, laidKinds := [.data, .data, .data], laidTests := true, laidLooks := .later }
def ScriptTellsUptoCardSaid : Prop := Claim7.holds Tryd.pinned (.plain (OpenSpec.upto scriptTellsSpec)) scriptTellsUptoCard

/-- THE SECOND FORM's CARD OF 'feluccalaw25.ScriptParts'. -/
def scriptPartsUptoCard : Claim7 := { stood := { row := scriptPartsUptoRow, standIns := [], harness := (true, "e0328608674aef5192d7a2a915d6c7eae22adffb495e79be2325e59879455279"), looks := false }, kinds := [], alts := [], laidByText := true, laidKinds := [.data, .data, .data], laidTests := true, laidLooks := .later }
def ScriptPartsUptoCardSaid : Prop := Claim7.holds Tryd.pinned (.plain (OpenSpec.upto scriptPartsSpec)) scriptPartsUptoCard

/-- THE SECOND FORM's CARD OF 'feluccalaw25.ScriptOnes'. -/
def scriptOnesUptoCard : Claim7 := { stood := { row := scriptOnesUptoRow, standIns := [], harness := (true, "e0328608674aef5192d7a2a915d6c7eae22adffb495e79be2325e59879455279"), looks := false }, kinds := [], alts := [], laidByText := true, laidKinds := [.data, .data, .data], laidTests := true, laidLooks := .later }
def ScriptOnesUptoCardSaid : Prop := Claim7.holds Tryd.pinned (.plain (OpenSpec.upto scriptOnesSpec)) scriptOnesUptoCard
end Rows
end Go.Proofs.YtggdomeeienjbaaDoor

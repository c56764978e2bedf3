/-
  DERIVED. GIVEN WITH THE SEED: THE CARDS: each row of YtkdfloeglknmnaaDoorRows.lean that lists a variable, with what it lists TIED to the program's text (the seventh form; the later family's looks); each row that meets fmt, with fmt's text TOLD by the authors' own Lean function (tested against real Go, not proved from fmt's source: count such statements apart). THE CARD IS WHAT COUNTS. Prove the row's statement (the work); the ties are given (YtkdfloeglknmnaaDoorTie.lean); close each card by the builder's one call (the guide's Derived/Test/ToyasCard.lean, 'card_holds'). Laid BY PROGRAM, IN A SANDBOX (cutbox-door.mjs). By AI agents, Wed Nov 11 2026. No macro, syntax, notation, axiom, sorry.
-/
import Derived.Test.YtkdfloeglknmnaaDoorRows
import GoSem.ClaimSeven
namespace Go.Proofs.YtkdfloeglknmnaaDoor
namespace Rows

/-- THE TIED CARD OF 'feluccalaw04.DirectTells'. -/
def directTellsCard : Claim7 := { stood := { row := directTellsRow, standIns := [], harness := (true, "77daf43df786662d9d68b302d0f36f084ec0642a988556e3d7dc87b23d06f132"), looks := false }, kinds := [], alts := [], laidByText := true, laidKinds := [.data, .data, .data], laidTests := true, laidLooks := .later }
def DirectTellsCardSaid : Prop := Claim7.holds Tryd.pinned (.plain (OpenSpec.ofChange directTellsSpec)) directTellsCard

/-- THE TIED CARD OF 'feluccalaw04.DirectBack'. -/
def directBackCard : Claim7 := { stood := { row := directBackRow, standIns := [], harness := (true, "77daf43df786662d9d68b302d0f36f084ec0642a988556e3d7dc87b23d06f132"), looks := false }, kinds := [], alts := [], laidByText := true, laidKinds := [.data, .data, .data], laidTests := true, laidLooks := .later }
def DirectBackCardSaid : Prop := Claim7.holds Tryd.pinned (.plain (OpenSpec.ofChange directBackSpec)) directBackCard

/-- THE TIED CARD OF 'feluccalaw04.DirectApart'. -/
def directApartCard : Claim7 := { stood := { row := directApartRow, standIns := [], harness := (true, "77daf43df786662d9d68b302d0f36f084ec0642a988556e3d7dc87b23d06f132"), looks := false }, kinds := [], alts := [], laidByText := true, laidKinds := [.data, .data, .data], laidTests := true, laidLooks := .later }
def DirectApartCardSaid : Prop := Claim7.holds Tryd.pinned (.plain (OpenSpec.ofChange directApartSpec)) directApartCard

/-- THE TIED CARD OF 'feluccalaw04.DirectKinds'. -/
def directKindsCard : Claim7 := { stood := { row := directKindsRow, standIns := [], harness := (true, "77daf43df786662d9d68b302d0f36f084ec0642a988556e3d7dc87b23d06f132"), looks := false }, kinds := [], alts := [], laidByText := true, laidKinds := [.data, .data, .data], laidTests := true, laidLooks := .later }
def DirectKindsCardSaid : Prop := Claim7.holds Tryd.pinned (.plain (OpenSpec.ofChange directKindsSpec)) directKindsCard

/-- THE TIED CARD OF 'feluccalaw04.DirectShort'. -/
def directShortCard : Claim7 := { stood := { row := directShortRow, standIns := [], harness := (true, "77daf43df786662d9d68b302d0f36f084ec0642a988556e3d7dc87b23d06f132"), looks := false }, kinds := [], alts := [], laidByText := true, laidKinds := [.data, .data, .data], laidTests := true, laidLooks := .later }
def DirectShortCardSaid : Prop := Claim7.holds Tryd.pinned (.plain (OpenSpec.ofChange directShortSpec)) directShortCard

/-- THE SECOND FORM's CARD OF 'feluccalaw04.DirectTells'. -/
def directTellsUptoCard : Claim7 := { stood := { row := directTellsUptoRow, standIns := [], harness := (true, "77daf43df786662d9d68b302d0f36f084ec0642a988556e3d7dc87b23d06f132"), looks := false }, kinds := [], alts := [], laidByText := true, laidKinds := [.data, .data, .data], laidTests := true, laidLooks := .later }
def DirectTellsUptoCardSaid : Prop := Claim7.holds Tryd.pinned (.plain (OpenSpec.upto directTellsSpec)) directTellsUptoCard

/-- THE SECOND FORM's CARD OF 'feluccalaw04.DirectBack'. -/
def directBackUptoCard : Claim7 := { stood := { row := directBackUptoRow, standIns := [], harness := (true, "77daf43df786662d9d68b302d0f36f084ec0642a988556e3d7dc87b23d06f132"), looks := false }, kinds := [], alts := [], laidByText := true, laidKinds := [.data, .data, .data], laidTests := true, laidLooks := .later }
def DirectBackUptoCardSaid : Prop := Claim7.holds Tryd.pinned (.plain (OpenSpec.upto directBackSpec)) directBackUptoCard

/-- THE SECOND FORM's CARD OF 'feluccalaw04.DirectApart'. -/
def directApartUptoCard : Claim7 := { stood := { row := directApartUptoRow, standIns := [], harness := (true, "77daf43df786662d9d68b302d0f36f084ec0642a988556e3d7dc87b23d06f132"), looks := false }, kinds := [], alts := [], laidByText := true, laidKinds := [.data, .data, .data], laidTests := true, laidLooks := .later }
def DirectApartUptoCardSaid : Prop := Claim7.holds Tryd.pinned (.plain (OpenSpec.upto directApartSpec)) directApartUptoCard

/-- THE SECOND FORM's CARD OF 'feluccalaw04.DirectKinds'. -/
def directKindsUptoCard : Claim7 := { stood := { row := directKindsUptoRow, standIns := [], harness := (true, "77daf43df786662d9d68b302d0f36f084ec0642a988556e3d7dc87b23d06f132"), looks := false }, kinds := [], alts := [], laidByText := true, laidKinds := [.data, .data, .data], laidTests := true, laidLooks := .later }
def DirectKindsUptoCardSaid : Prop := Claim7.holds Tryd.pinned (.plain (OpenSpec.upto directKindsSpec)) directKindsUptoCard

/-- THE SECOND FORM's CARD OF 'feluccalaw04.DirectShort'. -/
def directShortUptoCard : Claim7 := { stood := { row := directShortUptoRow, standIns := [], harness := (true, "77daf43df786662d9d68b302d0f36f084ec0642a988556e3d7dc87b23d06f132"), looks := false }, kinds := [], alts := [], laidByText := true, laidKinds := [.data, .data, .data], laidTests := true, laidLooks := .later }
def DirectShortUptoCardSaid : Prop := Claim7.holds Tryd.pinned (.plain (OpenSpec.upto directShortSpec)) directShortUptoCard
end Rows
end Go.Proofs.YtkdfloeglknmnaaDoor

/-
  DERIVED. GIVEN WITH THE SEED: THE CARDS: each row of YtdoclbgmbneggaaDoorRows.lean that lists a variable, with what it lists TIED to the program's text (the seventh form; the later family's looks); each row that meets fmt, with fmt's text TOLD by the authors' own Lean function (tested against real Go, not proved from fmt's source: count such statements apart). THE CARD IS WHAT COUNTS. Prove the row's statement (the work); the ties are given (YtdoclbgmbneggaaDoorTie.lean); close each card by the builder's one call (the guide's Derived/Test/ToyasCard.lean, 'card_holds'). Laid BY PROGRAM, IN A SANDBOX (cutbox-door.mjs). By AI agents, Wed Nov 11 2026. No macro, syntax, notation, axiom, sorry.
-/
import Derived.Test.YtdoclbgmbneggaaDoorRows
import GoSem.ClaimSeven
namespace Go.Proofs.YtdoclbgmbneggaaDoor
namespace Rows

/-- THE TIED CARD OF 'packsaddlelaw11.MomentTells'. -/
def momentTellsCard : Claim7 := { stood := { row := momentTellsRow, standIns := [], harness := (true, "c6381ea10b95fa66821bce194a3c1702ac61c7f5b9616e73cdc9a273b2507c58"), looks := false }, kinds := [], alts := [], laidByText := true, laidKinds := [.data, .data, .data], laidTests := true, laidLooks := .later }
def MomentTellsCardSaid : Prop := Claim7.holds Tryd.pinned (.plain (OpenSpec.ofChange momentTellsSpec)) momentTellsCard

/-- THE TIED CARD OF 'packsaddlelaw11.MomentJoins'. -/
def momentJoinsCard : Claim7 := { stood := { row := momentJoinsRow, standIns := [], harness := (true, "c6381ea10b95fa66821bce194a3c1702ac61c7f5b9616e73cdc9a273b2507c58"), looks := false }, kinds := [], alts := [], laidByText := true, laidKinds := [.data, .data, .data], laidTests := true, laidLooks := .later }
def MomentJoinsCardSaid : Prop := Claim7.holds Tryd.pinned (.plain (OpenSpec.ofChange momentJoinsSpec)) momentJoinsCard

/-- THE TIED CARD OF 'packsaddlelaw11.MomentParses'. -/
def momentParsesCard : Claim7 := { stood := { row := momentParsesRow, standIns := [], harness := (true, "c6381ea10b95fa66821bce194a3c1702ac61c7f5b9616e73cdc9a273b2507c58"), looks := false }, kinds := [], alts := [], laidByText := true, laidKinds := [.data, .data, .data], laidTests := true, laidLooks := .later }
def MomentParsesCardSaid : Prop := Claim7.holds Tryd.pinned (.plain (OpenSpec.ofChange momentParsesSpec)) momentParsesCard

/-- THE SECOND FORM's CARD OF 'packsaddlelaw11.MomentTells'. -/
def momentTellsUptoCard : Claim7 := { stood := { row := momentTellsUptoRow, standIns := [], harness := (true, "c6381ea10b95fa66821bce194a3c1702ac61c7f5b9616e73cdc9a273b2507c58"), looks := false }, kinds := [], alts := [], laidByText := true, laidKinds := [.data, .data, .data], laidTests := true, laidLooks := .later }
def MomentTellsUptoCardSaid : Prop := Claim7.holds Tryd.pinned (.plain (OpenSpec.upto momentTellsSpec)) momentTellsUptoCard

/-- THE SECOND FORM's CARD OF 'packsaddlelaw11.MomentJoins'. -/
def momentJoinsUptoCard : Claim7 := { stood := { row := momentJoinsUptoRow, standIns := [], harness := (true, "c6381ea10b95fa66821bce194a3c1702ac61c7f5b9616e73cdc9a273b2507c58"), looks := false }, kinds := [], alts := [], laidByText := true, laidKinds := [.data, .data, .data], laidTests := true, laidLooks := .later }
def MomentJoinsUptoCardSaid : Prop := Claim7.holds Tryd.pinned (.plain (OpenSpec.upto momentJoinsSpec)) momentJoinsUptoCard

/-- THE SECOND FORM's CARD OF 'packsaddlelaw11.MomentParses'. -/
def momentParsesUptoCard : Claim7 := { stood := { row := momentParsesUptoRow, standIns := [], harness := (true, "c6381ea10b95fa66821bce194a3c1702ac61c7f5b9616e73cdc9a273b2507c58"), looks := false }, kinds := [], alts := [], laidByText := true, laidKinds := [.data, .data, .data], laidTests := true, laidLooks := .later }
def MomentParsesUptoCardSaid : Prop := Claim7.holds Tryd.pinned (.plain (OpenSpec.upto momentParsesSpec)) momentParsesUptoCard
end Rows
end Go.Proofs.YtdoclbgmbneggaaDoor

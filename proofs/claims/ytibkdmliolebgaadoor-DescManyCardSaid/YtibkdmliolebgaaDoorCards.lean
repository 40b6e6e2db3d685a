/-
  DERIVED. GIVEN WITH THE SEED: THE CARDS: each row of YtibkdmliolebgaaDoorRows.lean that lists a variable, with what it lists TIED to the program's text (the seventh form; the later family's looks); each row that meets fmt, with fmt's text TOLD by the authors' own Lean function (tested against real Go, not proved from fmt's source: count such statements apart). THE CARD IS WHAT COUNTS. Prove the row's statement (the work); the ties are given (YtibkdmliolebgaaDoorTie.lean); close each card by the builder's one call (the guide's Derived/Test/ToyasCard.lean, 'card_holds'). Laid BY PROGRAM, IN A SANDBOX (cutbox-door.mjs). By AI agents, Wed Nov 11 2026. No macro, syntax, notation, axiom, sorry.
-/
import Derived.Test.YtibkdmliolebgaaDoorRows
import GoSem.ClaimSeven
namespace Go.Proofs.YtibkdmliolebgaaDoor
namespace Rows

/-- THE TIED CARD OF 'packsaddlelaw17.DescNames'. -/
def descNamesCard : Claim7 := { stood := { row := descNamesRow, standIns := [], harness := (true, "7bf98b25fff4881e494093ca5cee6b6329d669e53dbb32fbe1a816e2249dfc26"), looks := false }, kinds := [], alts := [], laidByText := true, laidKinds := [.data, .pinned], laidTests := true, laidLooks := .later }
def DescNamesCardSaid : Prop := Claim7.holds Tryd.pinned (.plain (OpenSpec.ofChange descNamesSpec)) descNamesCard

/-- THE TIED CARD OF 'packsaddlelaw17.DescMethods'. -/
def descMethodsCard : Claim7 := { stood := { row := descMethodsRow, standIns := [], harness := (true, "7bf98b25fff4881e494093ca5cee6b6329d669e53dbb32fbe1a816e2249dfc26"), looks := false }, kinds := [], alts := [], laidByText := true, laidKinds := [.data, .pinned], laidTests := true, laidLooks := .later }
def DescMethodsCardSaid : Prop := Claim7.holds Tryd.pinned (.plain (OpenSpec.ofChange descMethodsSpec)) descMethodsCard

/-- THE TIED CARD OF 'packsaddlelaw17.DescMany'. -/
def descManyCard : Claim7 := { stood := { row := descManyRow, standIns := [], harness := (true, "7bf98b25fff4881e494093ca5cee6b6329d669e53dbb32fbe1a816e2249dfc26"), looks := false }, kinds := [], alts := [], laidByText := true, laidKinds := [.data, .pinned], laidTests := true, laidLooks := .later }
def DescManyCardSaid : Prop := Claim7.holds Tryd.pinned (.plain (OpenSpec.ofChange descManySpec)) descManyCard

/-- THE SECOND FORM's CARD OF 'packsaddlelaw17.DescNames'. -/
def descNamesUptoCard : Claim7 := { stood := { row := descNamesUptoRow, standIns := [], harness := (true, "7bf98b25fff4881e494093ca5cee6b6329d669e53dbb32fbe1a816e2249dfc26"), looks := false }, kinds := [], alts := [], laidByText := true, laidKinds := [.data, .pinned], laidTests := true, laidLooks := .later }
def DescNamesUptoCardSaid : Prop := Claim7.holds Tryd.pinned (.plain (OpenSpec.upto descNamesSpec)) descNamesUptoCard

/-- THE SECOND FORM's CARD OF 'packsaddlelaw17.DescMethods'. -/
def descMethodsUptoCard : Claim7 := { stood := { row := descMethodsUptoRow, standIns := [], harness := (true, "7bf98b25fff4881e494093ca5cee6b6329d669e53dbb32fbe1a816e2249dfc26"), looks := false }, kinds := [], alts := [], laidByText := true, laidKinds := [.data, .pinned], laidTests := true, laidLooks := .later }
def DescMethodsUptoCardSaid : Prop := Claim7.holds Tryd.pinned (.plain (OpenSpec.upto descMethodsSpec)) descMethodsUptoCard

/-- THE SECOND FORM's CARD OF 'packsaddlelaw17.DescMany'. -/
def descManyUptoCard : Claim7 := { stood := { row := descManyUptoRow, standIns := [], harness := (true, "7bf98b25fff4881e494093ca5cee6b6329d669e53dbb32fbe1a816e2249dfc26"), looks := false }, kinds := [], alts := [], laidByText := true, laidKinds := [.data, .pinned], laidTests := true, laidLooks := .later }
def DescManyUptoCardSaid : Prop := Claim7.holds Tryd.pinned (.plain (OpenSpec.upto descManySpec)) descManyUptoCard
end Rows
end Go.Proofs.YtibkdmliolebgaaDoor

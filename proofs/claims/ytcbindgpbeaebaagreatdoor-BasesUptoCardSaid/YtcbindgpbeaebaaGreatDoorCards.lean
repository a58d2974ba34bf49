/-
  DERIVED. GIVEN WITH THE SEED: THE CARDS: each row of YtcbindgpbeaebaaGreatDoorRows.lean that lists a variable, with what it lists TIED to the program's text (the seventh form; the later family's looks); each row that meets fmt, with fmt's text TOLD by the authors' own Lean function (tested against real Go, not proved from fmt's source: count such statements apart). THE CARD IS WHAT COUNTS. Prove the row's statement (the work); the ties are given (YtcbindgpbeaebaaGreatDoorTie.lean); close each card by the builder's one call (the guide's Derived/Test/ToyasCard.lean, 'card_holds'). Laid BY PROGRAM, IN A SANDBOX (cutbox-door.mjs). By AI agents, Wed Nov 11 2026. No macro, syntax, notation, axiom, sorry.
-/
import Derived.Test.YtcbindgpbeaebaaGreatDoorRows
import GoSem.ClaimSeven
namespace Go.Proofs.YtcbindgpbeaebaaGreatDoor
namespace Rows

/-- THE TIED CARD OF 'gauzelaw.Bases'. -/
def basesCard : Claim7 := { stood := { row := basesRow, standIns := [], harness := (true, "8a04070db9d21ec28972f7fbfd4a4900e6dc67d63971f1a26646bdb30636f174"), looks := false }, kinds := [], alts := [], goes := true, laidByText := true, laidKinds := [.data, .pinned], laidTests := true, laidLooks := .later }
def BasesCardSaid : Prop := Claim7.holds Tryz.pinned (.plain (OpenSpec.ofChange basesSpec)) basesCard

/-- THE TIED CARD OF 'gauzelaw.Does'. -/
def doesCard : Claim7 := { stood := { row := doesRow, standIns := [], harness := (true, "8a04070db9d21ec28972f7fbfd4a4900e6dc67d63971f1a26646bdb30636f174"), looks := false }, kinds := [], alts := [], goes := true, laidByText := true, laidKinds := [.data, .data, .pinned], laidTests := true, laidLooks := .later }
def DoesCardSaid : Prop := Claim7.holds Tryz.pinned (.plain (OpenSpec.ofChange doesSpec)) doesCard

/-- THE TIED CARD OF 'gauzelaw.Endures'. -/
def enduresCard : Claim7 := { stood := { row := enduresRow, standIns := [], harness := (true, "8a04070db9d21ec28972f7fbfd4a4900e6dc67d63971f1a26646bdb30636f174"), looks := false }, kinds := [], alts := [], goes := true, laidByText := true, laidKinds := [.data, .data, .pinned], laidTests := true, laidLooks := .later }
def EnduresCardSaid : Prop := Claim7.holds Tryz.pinned (.plain (OpenSpec.ofChange enduresSpec)) enduresCard

/-- THE TIED CARD OF 'gauzekeep.Plain'. -/
def plainCard : Claim7 := { stood := { row := plainRow, standIns := [], harness := (true, "8a04070db9d21ec28972f7fbfd4a4900e6dc67d63971f1a26646bdb30636f174"), looks := false }, kinds := [], alts := [], goes := true, laidByText := true, laidKinds := [.data, .data, .data, .pinned], laidTests := true, laidLooks := .later }
def PlainCardSaid : Prop := Claim7.holds Tryz.pinned (.plain (OpenSpec.ofChange plainSpec)) plainCard

/-- THE TIED CARD OF 'gauzekeep.Layered'. -/
def layeredCard : Claim7 := { stood := { row := layeredRow, standIns := [], harness := (true, "8a04070db9d21ec28972f7fbfd4a4900e6dc67d63971f1a26646bdb30636f174"), looks := false }, kinds := [], alts := [], goes := true, laidByText := true, laidKinds := [.data, .data, .data, .pinned], laidTests := true, laidLooks := .later }
def LayeredCardSaid : Prop := Claim7.holds Tryz.pinned (.plain (OpenSpec.ofChange layeredSpec)) layeredCard

/-- THE TIED CARD OF 'gauzekeep.Anew'. -/
def anewCard : Claim7 := { stood := { row := anewRow, standIns := [], harness := (true, "8a04070db9d21ec28972f7fbfd4a4900e6dc67d63971f1a26646bdb30636f174"), looks := false }, kinds := [], alts := [], goes := true, laidByText := true, laidKinds := [.data, .data, .data, .pinned], laidTests := true, laidLooks := .later }
def AnewCardSaid : Prop := Claim7.holds Tryz.pinned (.plain (OpenSpec.ofChange anewSpec)) anewCard

/-- THE TIED CARD OF 'gauzekeep.Saved'. -/
def savedCard : Claim7 := { stood := { row := savedRow, standIns := [], harness := (true, "8a04070db9d21ec28972f7fbfd4a4900e6dc67d63971f1a26646bdb30636f174"), looks := false }, kinds := [], alts := [], goes := true, laidByText := true, laidKinds := [.data, .data, .data, .pinned], laidTests := true, laidLooks := .later }
def SavedCardSaid : Prop := Claim7.holds Tryz.pinned (.plain (OpenSpec.ofChange savedSpec)) savedCard

/-- THE TIED CARD OF 'gauzekeep.Torn'. -/
def tornCard : Claim7 := { stood := { row := tornRow, standIns := [], harness := (true, "8a04070db9d21ec28972f7fbfd4a4900e6dc67d63971f1a26646bdb30636f174"), looks := false }, kinds := [], alts := [], goes := true, laidByText := true, laidKinds := [.data, .data, .data, .pinned], laidTests := true, laidLooks := .later }
def TornCardSaid : Prop := Claim7.holds Tryz.pinned (.plain (OpenSpec.ofChange tornSpec)) tornCard

/-- THE SECOND FORM's CARD OF 'gauzelaw.Bases'. -/
def basesUptoCard : Claim7 := { stood := { row := basesUptoRow, standIns := [], harness := (true, "8a04070db9d21ec28972f7fbfd4a4900e6dc67d63971f1a26646bdb30636f174"), looks := false }, kinds := [], alts := [], goes := true, laidByText := true, laidKinds := [.data, .pinned], laidTests := true, laidLooks := .later }
def BasesUptoCardSaid : Prop := Claim7.holds Tryz.pinned (.plain (OpenSpec.upto basesSpec)) basesUptoCard

/-- THE SECOND FORM's CARD OF 'gauzelaw.Does'. -/
def doesUptoCard : Claim7 := { stood := { row := doesUptoRow, standIns := [], harness := (true, "8a04070db9d21ec28972f7fbfd4a4900e6dc67d63971f1a26646bdb30636f174"), looks := false }, kinds := [], alts := [], goes := true, laidByText := true, laidKinds := [.data, .data, .pinned], laidTests := true, laidLooks := .later }
def DoesUptoCardSaid : Prop := Claim7.holds Tryz.pinned (.plain (OpenSpec.upto doesSpec)) doesUptoCard

/-- THE SECOND FORM's CARD OF 'gauzelaw.Endures'. -/
def enduresUptoCard : Claim7 := { stood := { row := enduresUptoRow, standIns := [], harness := (true, "8a04070db9d21ec28972f7fbfd4a4900e6dc67d63971f1a26646bdb30636f174"), looks := false }, kinds := [], alts := [], goes := true, laidByText := true, laidKinds := [.data, .data, .pinned], laidTests := true, laidLooks := .later }
def EnduresUptoCardSaid : Prop := Claim7.holds Tryz.pinned (.plain (OpenSpec.upto enduresSpec)) enduresUptoCard

/-- THE SECOND FORM's CARD OF 'gauzekeep.Plain'. -/
def plainUptoCard : Claim7 := { stood := { row := plainUptoRow, standIns := [], harness := (true, "8a04070db9d21ec28972f7fbfd4a4900e6dc67d63971f1a26646bdb30636f174"), looks := false }, kinds := [], alts := [], goes := true, laidByText := true, laidKinds := [.data, .data, .data, .pinned], laidTests := true, laidLooks := .later }
def PlainUptoCardSaid : Prop := Claim7.holds Tryz.pinned (.plain (OpenSpec.upto plainSpec)) plainUptoCard

/-- THE SECOND FORM's CARD OF 'gauzekeep.Layered'. -/
def layeredUptoCard : Claim7 := { stood := { row := layeredUptoRow, standIns := [], harness := (true, "8a04070db9d21ec28972f7fbfd4a4900e6dc67d63971f1a26646bdb30636f174"), looks := false }, kinds := [], alts := [], goes := true, laidByText := true, laidKinds := [.data, .data, .data, .pinned], laidTests := true, laidLooks := .later }
def LayeredUptoCardSaid : Prop := Claim7.holds Tryz.pinned (.plain (OpenSpec.upto layeredSpec)) layeredUptoCard

/-- THE SECOND FORM's CARD OF 'gauzekeep.Anew'. -/
def anewUptoCard : Claim7 := { stood := { row := anewUptoRow, standIns := [], harness := (true, "8a04070db9d21ec28972f7fbfd4a4900e6dc67d63971f1a26646bdb30636f174"), looks := false }, kinds := [], alts := [], goes := true, laidByText := true, laidKinds := [.data, .data, .data, .pinned], laidTests := true, laidLooks := .later }
def AnewUptoCardSaid : Prop := Claim7.holds Tryz.pinned (.plain (OpenSpec.upto anewSpec)) anewUptoCard

/-- THE SECOND FORM's CARD OF 'gauzekeep.Saved'. -/
def savedUptoCard : Claim7 := { stood := { row := savedUptoRow, standIns := [], harness := (true, "8a04070db9d21ec28972f7fbfd4a4900e6dc67d63971f1a26646bdb30636f174"), looks := false }, kinds := [], alts := [], goes := true, laidByText := true, laidKinds := [.data, .data, .data, .pinned], laidTests := true, laidLooks := .later }
def SavedUptoCardSaid : Prop := Claim7.holds Tryz.pinned (.plain (OpenSpec.upto savedSpec)) savedUptoCard

/-- THE SECOND FORM's CARD OF 'gauzekeep.Torn'. -/
def tornUptoCard : Claim7 := { stood := { row := tornUptoRow, standIns := [], harness := (true, "8a04070db9d21ec28972f7fbfd4a4900e6dc67d63971f1a26646bdb30636f174"), looks := false }, kinds := [], alts := [], goes := true, laidByText := true, laidKinds := [.data, .data, .data, .pinned], laidTests := true, laidLooks := .later }
def TornUptoCardSaid : Prop := Claim7.holds Tryz.pinned (.plain (OpenSpec.upto tornSpec)) tornUptoCard
end Rows
end Go.Proofs.YtcbindgpbeaebaaGreatDoor

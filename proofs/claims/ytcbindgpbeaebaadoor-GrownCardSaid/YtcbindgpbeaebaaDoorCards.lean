/-
  DERIVED. GIVEN WITH THE SEED: THE CARDS: each row of YtcbindgpbeaebaaDoorRows.lean that lists a variable, with what it lists TIED to the program's text (the seventh form; the later family's looks); each row that meets fmt, with fmt's text TOLD by the authors' own Lean function (tested against real Go, not proved from fmt's source: count such statements apart). THE CARD IS WHAT COUNTS. Prove the row's statement (the work); the ties are given (YtcbindgpbeaebaaDoorTie.lean); close each card by the builder's one call (the guide's Derived/Test/ToyasCard.lean, 'card_holds'). Laid BY PROGRAM, IN A SANDBOX (cutbox-door.mjs). By AI agents, Wed Nov 11 2026. No macro, syntax, notation, axiom, sorry.
-/
import Derived.Test.YtcbindgpbeaebaaDoorRows
import GoSem.ClaimSeven
namespace Go.Proofs.YtcbindgpbeaebaaDoor
namespace Rows

/-- THE TIED CARD OF 'gauzelaw.Merges'. -/
def mergesCard : Claim7 := { stood := { row := mergesRow, standIns := [], harness := (true, "b6d5a7cda62618df26a3ce40ab3ac43143edf03f993fb2ec0eb5ccfbdc30d2b1"), looks := false }, kinds := [], alts := [], goes := true, laidByText := true, laidKinds := [.data, .data, .pinned], laidTests := true, laidLooks := .later }
def MergesCardSaid : Prop := Claim7.holds Tryd.pinned (.plain (OpenSpec.ofChange mergesSpec)) mergesCard

/-- THE TIED CARD OF 'gauzekeep.Grown'. -/
def grownCard : Claim7 := { stood := { row := grownRow, standIns := [], harness := (true, "b6d5a7cda62618df26a3ce40ab3ac43143edf03f993fb2ec0eb5ccfbdc30d2b1"), looks := false }, kinds := [], alts := [], goes := true, laidByText := true, laidKinds := [.data, .pinned], laidTests := true, laidLooks := .later }
def GrownCardSaid : Prop := Claim7.holds Tryd.pinned (.plain (OpenSpec.ofChange grownSpec)) grownCard

/-- THE SECOND FORM's CARD OF 'gauzelaw.Merges'. -/
def mergesUptoCard : Claim7 := { stood := { row := mergesUptoRow, standIns := [], harness := (true, "b6d5a7cda62618df26a3ce40ab3ac43143edf03f993fb2ec0eb5ccfbdc30d2b1"), looks := false }, kinds := [], alts := [], goes := true, laidByText := true, laidKinds := [.data, .data, .pinned], laidTests := true, laidLooks := .later }
def MergesUptoCardSaid : Prop := Claim7.holds Tryd.pinned (.plain (OpenSpec.upto mergesSpec)) mergesUptoCard

/-- THE SECOND FORM's CARD OF 'gauzekeep.Grown'. -/
def grownUptoCard : Claim7 := { stood := { row := grownUptoRow, standIns := [], harness := (true, "b6d5a7cda62618df26a3ce40ab3ac43143edf03f993fb2ec0eb5ccfbdc30d2b1"), looks := false }, kinds := [], alts := [], goes := true, laidByText := true, laidKinds := [.data, .pinned], laidTests := true, laidLooks := .later }
def GrownUptoCardSaid : Prop := Claim7.holds Tryd.pinned (.plain (OpenSpec.upto grownSpec)) grownUptoCard
end Rows
end Go.Proofs.YtcbindgpbeaebaaDoor

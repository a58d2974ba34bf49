/-
  NARROWER THAN 'FOR EVERY INPUT', by the rows' own cells (each row's printed sentence says how): Bases: laid · Does: laid · Endures: laid · Plain: laid · Layered: laid · Anew: laid · Saved: laid · Torn: laid.
  DERIVED. THE GIVEN ROWS OF THIS SEAT. 8 by the template 'for every input the law returns true; each argument reads behind the call as it read before'; 0 by the template 'total and deterministic' (their statements: YtcbindgpbeaebaaGreatDoorTotals.lean).
  GIVEN WITH THE SEED: the statements are not yours to turn. If you find one false, say at which input.
  Laid BY PROGRAM, IN A SANDBOX (cutbox-rows.mjs): the forced cells as the released guide's own fill.sh prints them over the translation 1cae8bd5386952a7… (all of the seat's roots in one cut). By AI agents, Wed Nov 11 2026. No macro, syntax, notation, axiom, sorry.
-/
import Derived.Test.YtcbindgpbeaebaaGreatDoorChecked
import GoSem.PinnedTables
import GoSem.Claim
import GoSem.ClaimJoined
import GoSem.ClaimMapViews
import Derived.JoinedTies
import Derived.KernelRfl
namespace Go.Proofs.YtcbindgpbeaebaaGreatDoor
/- THE CELL 'sum', in the pinned program and in every row, IS THE sha256 OF THE DUMP (.gsa) THAT YtcbindgpbeaebaaGreatDoorProg.lean LOADS. Nothing in Lean hashes anything: it is a label: what it is worth is what the hold of that sum in a sandbox is worth. -/
noncomputable def Tryz.pinned : Pinned := { name := "ytcbindgpbeaebaagreatdoor", sum := "1cae8bd5386952a793e3771da05c9c909c02e21051d5181a1fc907e0d95f9284", checked := Tryz.checked }
namespace Rows
def none {H : Type} : Left H := { results := [], args := [] }

/- WHAT THE LISTED PACKAGE-LEVEL VARIABLES READ AS WHEN THE CALL BEGINS. Each datum BY PROGRAM (the guide's laid-datum.mjs) off the statement by which the dump's own 'gosem.cut.vars' lays the variable. In a bare row this is a premise. The card (YtcbindgpbeaebaaGreatDoorCards.lean) ties it to the program's text. -/
def laid_unicode_utf8_acceptRanges {H : Type} : DataW H := .agg [.agg [.lit (.int .u8 128), .lit (.int .u8 191)], .agg [.lit (.int .u8 160), .lit (.int .u8 191)], .agg [.lit (.int .u8 128), .lit (.int .u8 159)], .agg [.lit (.int .u8 144), .lit (.int .u8 191)], .agg [.lit (.int .u8 128), .lit (.int .u8 143)], .agg [.lit (.int .u8 0), .lit (.int .u8 0)], .agg [.lit (.int .u8 0), .lit (.int .u8 0)], .agg [.lit (.int .u8 0), .lit (.int .u8 0)], .agg [.lit (.int .u8 0), .lit (.int .u8 0)], .agg [.lit (.int .u8 0), .lit (.int .u8 0)], .agg [.lit (.int .u8 0), .lit (.int .u8 0)], .agg [.lit (.int .u8 0), .lit (.int .u8 0)], .agg [.lit (.int .u8 0), .lit (.int .u8 0)], .agg [.lit (.int .u8 0), .lit (.int .u8 0)], .agg [.lit (.int .u8 0), .lit (.int .u8 0)], .agg [.lit (.int .u8 0), .lit (.int .u8 0)]]
/-- One of Go's own tables, pinned by name: the form's constant. -/
def laid_unicode_utf8_first : DataW Unit := Go.Pinned.utf8First
def laid_gauze_gauzelaw_spare {H : Type} : DataW H := .agg [.lit (.string [126]), .lit (.int .i64 77), .lit (.int .i64 0), .lit (.string []), .lit (.bool false)]
def laid_gauze_gauzekeep_names {H : Type} : DataW H := .slice [.lit (.string [97]), .lit (.string [98]), .lit (.string [100]), .lit (.string [100, 47, 97]), .lit (.string [100, 47, 98]), .lit (.string [100, 47, 101]), .lit (.string [100, 47, 101, 47, 97]), .lit (.string [100, 47, 101, 47, 102]), .lit (.string [100, 47, 101, 47, 102, 47, 97]), .lit (.string [101]), .lit (.string [101, 47, 97])] []
def laid_gauze_gauzekeep_parents {H : Type} : DataW H := .slice [.lit (.int .i64 (-1)), .lit (.int .i64 (-1)), .lit (.int .i64 (-1)), .lit (.int .i64 2), .lit (.int .i64 2), .lit (.int .i64 2), .lit (.int .i64 5), .lit (.int .i64 5), .lit (.int .i64 7), .lit (.int .i64 (-1)), .lit (.int .i64 9)] []

/-- 'gauzelaw.Bases': WHATEVER THE INPUT: true; the input reads as it did. -/
def basesSpec : ChangeSpec := { name := "bases", fn := fun _ => fun
  | [d1, d2] => { results := [.lit (.bool true)], args := [d1, d2] }
  | _ => none }
def basesRow : OpenClaim := { program := "ytcbindgpbeaebaagreatdoor", sum := "1cae8bd5386952a793e3771da05c9c909c02e21051d5181a1fc907e0d95f9284", func := "gauze/gauzelaw.Bases", spec := "bases", inPlace := ["internal/bytealg.CountString", "internal/bytealg.IndexByteString", "internal/bytealg.IndexString", "internal/bytealg.abigen_runtime_cmpstring", "slices.overlaps[gauze/paths.entry[gauze/base.placed]]"], unfollowed := true, recurses := true, named := ["unicode/utf8.first", "unicode/utf8.acceptRanges", "internal/bytealg.MaxLen"], apart := false, laid := [("unicode/utf8.acceptRanges", laid_unicode_utf8_acceptRanges), ("unicode/utf8.first", laid_unicode_utf8_first)] }
def BasesSaid : Prop := basesRow.holds Tryz.pinned (OpenSpec.ofChange basesSpec)

/-- ITS FALSE NEIGHBOUR: 'it returns false'. Refute it at one input. -/
def basesWrong : ChangeSpec := { name := "bases", fn := fun _ => fun
  | [d1, d2] => { results := [.lit (.bool false)], args := [d1, d2] }
  | _ => none }
def BasesWrongFalsely : Prop := basesRow.holds Tryz.pinned (OpenSpec.ofChange basesWrong)

/-- 'gauzelaw.Does': WHATEVER THE INPUT: true; the input reads as it did. -/
def doesSpec : ChangeSpec := { name := "does", fn := fun _ => fun
  | [d1, d2] => { results := [.lit (.bool true)], args := [d1, d2] }
  | _ => none }
def doesRow : OpenClaim := { program := "ytcbindgpbeaebaagreatdoor", sum := "1cae8bd5386952a793e3771da05c9c909c02e21051d5181a1fc907e0d95f9284", func := "gauze/gauzelaw.Does", spec := "does", inPlace := ["internal/bytealg.abigen_runtime_cmpstring", "slices.overlaps[gauze/paths.entry[gauze/api.Item]]", "internal/bytealg.CountString", "internal/bytealg.IndexByteString", "internal/bytealg.IndexString", "slices.overlaps[gauze/paths.entry[gauze/base.placed]]"], unfollowed := true, recurses := true, named := ["unicode/utf8.first", "unicode/utf8.acceptRanges", "internal/bytealg.MaxLen", "gauze/gauzelaw.spare"], apart := false, laid := [("unicode/utf8.acceptRanges", laid_unicode_utf8_acceptRanges), ("gauze/gauzelaw.spare", laid_gauze_gauzelaw_spare), ("unicode/utf8.first", laid_unicode_utf8_first)] }
def DoesSaid : Prop := doesRow.holds Tryz.pinned (OpenSpec.ofChange doesSpec)

/-- ITS FALSE NEIGHBOUR: 'it returns false'. Refute it at one input. -/
def doesWrong : ChangeSpec := { name := "does", fn := fun _ => fun
  | [d1, d2] => { results := [.lit (.bool false)], args := [d1, d2] }
  | _ => none }
def DoesWrongFalsely : Prop := doesRow.holds Tryz.pinned (OpenSpec.ofChange doesWrong)

/-- 'gauzelaw.Endures': WHATEVER THE INPUT: true; the input reads as it did. -/
def enduresSpec : ChangeSpec := { name := "endures", fn := fun _ => fun
  | [d1, d2] => { results := [.lit (.bool true)], args := [d1, d2] }
  | _ => none }
def enduresRow : OpenClaim := { program := "ytcbindgpbeaebaagreatdoor", sum := "1cae8bd5386952a793e3771da05c9c909c02e21051d5181a1fc907e0d95f9284", func := "gauze/gauzelaw.Endures", spec := "endures", inPlace := ["internal/bytealg.abigen_runtime_cmpstring", "slices.overlaps[gauze/paths.entry[gauze/api.Item]]", "internal/bytealg.CountString", "internal/bytealg.IndexByteString", "internal/bytealg.IndexString", "slices.overlaps[gauze/paths.entry[gauze/base.placed]]"], unfollowed := true, recurses := true, named := ["unicode/utf8.first", "unicode/utf8.acceptRanges", "internal/bytealg.MaxLen", "gauze/gauzelaw.spare"], apart := false, laid := [("unicode/utf8.acceptRanges", laid_unicode_utf8_acceptRanges), ("gauze/gauzelaw.spare", laid_gauze_gauzelaw_spare), ("unicode/utf8.first", laid_unicode_utf8_first)] }
def EnduresSaid : Prop := enduresRow.holds Tryz.pinned (OpenSpec.ofChange enduresSpec)

/-- ITS FALSE NEIGHBOUR: 'it returns false'. Refute it at one input. -/
def enduresWrong : ChangeSpec := { name := "endures", fn := fun _ => fun
  | [d1, d2] => { results := [.lit (.bool false)], args := [d1, d2] }
  | _ => none }
def EnduresWrongFalsely : Prop := enduresRow.holds Tryz.pinned (OpenSpec.ofChange enduresWrong)

/-- 'gauzekeep.Plain': WHATEVER THE INPUT: true; the input reads as it did. -/
def plainSpec : ChangeSpec := { name := "plain", fn := fun _ => fun
  | [d1, d2] => { results := [.lit (.bool true)], args := [d1, d2] }
  | _ => none }
def plainRow : OpenClaim := { program := "ytcbindgpbeaebaagreatdoor", sum := "1cae8bd5386952a793e3771da05c9c909c02e21051d5181a1fc907e0d95f9284", func := "gauze/gauzekeep.Plain", spec := "plain", inPlace := ["internal/bytealg.abigen_runtime_cmpstring", "slices.overlaps[gauze/paths.entry[gauze/api.Item]]", "internal/bytealg.CountString", "internal/bytealg.IndexByteString", "internal/bytealg.IndexString", "slices.overlaps[gauze/paths.entry[gauze/base.placed]]"], unfollowed := true, recurses := true, named := ["gauze/gauzekeep.parents", "gauze/gauzekeep.names", "unicode/utf8.first", "unicode/utf8.acceptRanges", "internal/bytealg.MaxLen"], apart := false, laid := [("unicode/utf8.acceptRanges", laid_unicode_utf8_acceptRanges), ("gauze/gauzekeep.names", laid_gauze_gauzekeep_names), ("gauze/gauzekeep.parents", laid_gauze_gauzekeep_parents), ("unicode/utf8.first", laid_unicode_utf8_first)] }
def PlainSaid : Prop := plainRow.holds Tryz.pinned (OpenSpec.ofChange plainSpec)

/-- ITS FALSE NEIGHBOUR: 'it returns false'. Refute it at one input. -/
def plainWrong : ChangeSpec := { name := "plain", fn := fun _ => fun
  | [d1, d2] => { results := [.lit (.bool false)], args := [d1, d2] }
  | _ => none }
def PlainWrongFalsely : Prop := plainRow.holds Tryz.pinned (OpenSpec.ofChange plainWrong)

/-- 'gauzekeep.Layered': WHATEVER THE INPUT: true; the input reads as it did. -/
def layeredSpec : ChangeSpec := { name := "layered", fn := fun _ => fun
  | [d1, d2] => { results := [.lit (.bool true)], args := [d1, d2] }
  | _ => none }
def layeredRow : OpenClaim := { program := "ytcbindgpbeaebaagreatdoor", sum := "1cae8bd5386952a793e3771da05c9c909c02e21051d5181a1fc907e0d95f9284", func := "gauze/gauzekeep.Layered", spec := "layered", inPlace := ["internal/bytealg.abigen_runtime_cmpstring", "slices.overlaps[gauze/paths.entry[gauze/api.Item]]", "internal/bytealg.CountString", "internal/bytealg.IndexByteString", "internal/bytealg.IndexString", "slices.overlaps[gauze/paths.entry[gauze/base.placed]]"], unfollowed := true, recurses := true, named := ["gauze/gauzekeep.parents", "gauze/gauzekeep.names", "unicode/utf8.first", "unicode/utf8.acceptRanges", "internal/bytealg.MaxLen"], apart := false, laid := [("unicode/utf8.acceptRanges", laid_unicode_utf8_acceptRanges), ("gauze/gauzekeep.names", laid_gauze_gauzekeep_names), ("gauze/gauzekeep.parents", laid_gauze_gauzekeep_parents), ("unicode/utf8.first", laid_unicode_utf8_first)] }
def LayeredSaid : Prop := layeredRow.holds Tryz.pinned (OpenSpec.ofChange layeredSpec)

/-- ITS FALSE NEIGHBOUR: 'it returns false'. Refute it at one input. -/
def layeredWrong : ChangeSpec := { name := "layered", fn := fun _ => fun
  | [d1, d2] => { results := [.lit (.bool false)], args := [d1, d2] }
  | _ => none }
def LayeredWrongFalsely : Prop := layeredRow.holds Tryz.pinned (OpenSpec.ofChange layeredWrong)

/-- 'gauzekeep.Anew': WHATEVER THE INPUT: true; the input reads as it did. -/
def anewSpec : ChangeSpec := { name := "anew", fn := fun _ => fun
  | [d1, d2, d3] => { results := [.lit (.bool true)], args := [d1, d2, d3] }
  | _ => none }
def anewRow : OpenClaim := { program := "ytcbindgpbeaebaagreatdoor", sum := "1cae8bd5386952a793e3771da05c9c909c02e21051d5181a1fc907e0d95f9284", func := "gauze/gauzekeep.Anew", spec := "anew", inPlace := ["internal/bytealg.abigen_runtime_cmpstring", "slices.overlaps[gauze/paths.entry[gauze/api.Item]]", "internal/bytealg.CountString", "internal/bytealg.IndexByteString", "internal/bytealg.IndexString", "slices.overlaps[gauze/paths.entry[gauze/base.placed]]"], unfollowed := true, recurses := true, named := ["gauze/gauzekeep.names", "gauze/gauzekeep.parents", "unicode/utf8.first", "unicode/utf8.acceptRanges", "internal/bytealg.MaxLen"], apart := false, laid := [("unicode/utf8.acceptRanges", laid_unicode_utf8_acceptRanges), ("gauze/gauzekeep.names", laid_gauze_gauzekeep_names), ("gauze/gauzekeep.parents", laid_gauze_gauzekeep_parents), ("unicode/utf8.first", laid_unicode_utf8_first)] }
def AnewSaid : Prop := anewRow.holds Tryz.pinned (OpenSpec.ofChange anewSpec)

/-- ITS FALSE NEIGHBOUR: 'it returns false'. Refute it at one input. -/
def anewWrong : ChangeSpec := { name := "anew", fn := fun _ => fun
  | [d1, d2, d3] => { results := [.lit (.bool false)], args := [d1, d2, d3] }
  | _ => none }
def AnewWrongFalsely : Prop := anewRow.holds Tryz.pinned (OpenSpec.ofChange anewWrong)

/-- 'gauzekeep.Saved': WHATEVER THE INPUT: true; the input reads as it did. -/
def savedSpec : ChangeSpec := { name := "saved", fn := fun _ => fun
  | [d1, d2, d3] => { results := [.lit (.bool true)], args := [d1, d2, d3] }
  | _ => none }
def savedRow : OpenClaim := { program := "ytcbindgpbeaebaagreatdoor", sum := "1cae8bd5386952a793e3771da05c9c909c02e21051d5181a1fc907e0d95f9284", func := "gauze/gauzekeep.Saved", spec := "saved", inPlace := ["internal/bytealg.abigen_runtime_cmpstring", "slices.overlaps[gauze/paths.entry[gauze/api.Item]]", "internal/bytealg.CountString", "internal/bytealg.IndexByteString", "internal/bytealg.IndexString", "slices.overlaps[gauze/paths.entry[gauze/base.placed]]"], unfollowed := true, recurses := true, named := ["gauze/gauzekeep.parents", "gauze/gauzekeep.names", "unicode/utf8.first", "unicode/utf8.acceptRanges", "internal/bytealg.MaxLen"], apart := false, laid := [("unicode/utf8.acceptRanges", laid_unicode_utf8_acceptRanges), ("gauze/gauzekeep.names", laid_gauze_gauzekeep_names), ("gauze/gauzekeep.parents", laid_gauze_gauzekeep_parents), ("unicode/utf8.first", laid_unicode_utf8_first)] }
def SavedSaid : Prop := savedRow.holds Tryz.pinned (OpenSpec.ofChange savedSpec)

/-- ITS FALSE NEIGHBOUR: 'it returns false'. Refute it at one input. -/
def savedWrong : ChangeSpec := { name := "saved", fn := fun _ => fun
  | [d1, d2, d3] => { results := [.lit (.bool false)], args := [d1, d2, d3] }
  | _ => none }
def SavedWrongFalsely : Prop := savedRow.holds Tryz.pinned (OpenSpec.ofChange savedWrong)

/-- 'gauzekeep.Torn': WHATEVER THE INPUT: true; the input reads as it did. -/
def tornSpec : ChangeSpec := { name := "torn", fn := fun _ => fun
  | [d1, d2, d3, d4, d5] => { results := [.lit (.bool true)], args := [d1, d2, d3, d4, d5] }
  | _ => none }
def tornRow : OpenClaim := { program := "ytcbindgpbeaebaagreatdoor", sum := "1cae8bd5386952a793e3771da05c9c909c02e21051d5181a1fc907e0d95f9284", func := "gauze/gauzekeep.Torn", spec := "torn", inPlace := ["internal/bytealg.abigen_runtime_cmpstring", "slices.overlaps[gauze/paths.entry[gauze/api.Item]]", "internal/bytealg.CountString", "internal/bytealg.IndexByteString", "internal/bytealg.IndexString", "slices.overlaps[gauze/paths.entry[gauze/base.placed]]"], unfollowed := true, recurses := true, named := ["gauze/gauzekeep.parents", "gauze/gauzekeep.names", "unicode/utf8.first", "unicode/utf8.acceptRanges", "internal/bytealg.MaxLen"], apart := false, laid := [("unicode/utf8.acceptRanges", laid_unicode_utf8_acceptRanges), ("gauze/gauzekeep.names", laid_gauze_gauzekeep_names), ("gauze/gauzekeep.parents", laid_gauze_gauzekeep_parents), ("unicode/utf8.first", laid_unicode_utf8_first)] }
def TornSaid : Prop := tornRow.holds Tryz.pinned (OpenSpec.ofChange tornSpec)

/-- ITS FALSE NEIGHBOUR: 'it returns false'. Refute it at one input. -/
def tornWrong : ChangeSpec := { name := "torn", fn := fun _ => fun
  | [d1, d2, d3, d4, d5] => { results := [.lit (.bool false)], args := [d1, d2, d3, d4, d5] }
  | _ => none }
def TornWrongFalsely : Prop := tornRow.holds Tryz.pinned (OpenSpec.ofChange tornWrong)

/- THE SECOND FORM. 'bulk': how many values and letters a reading holds, each counted each time it is reached (what is shared counts as often as it is met; a slice's spare places count too). A statement '..UptoSaid' is the law's where the arguments, and the package variables that the reading takes, are together of bulk at most 1048576: NARROWER than '..Said'. Prove '..Said' where nothing that the law and all that it calls make is longer than what came in: it says more and counts as full. Else prove '..UptoSaid'. A law counts once. -/
mutual
def uptoBulk {H : Type} : DataW H → Nat
  | .lit (.string bytes) => bytes.length + 1
  | .lit _ => 1
  | .nil => 1
  | .ptr d => uptoBulk d + 1
  | .slice elems spare => uptoBulkAll elems + uptoBulkAll spare + 1
  | .agg parts => uptoBulkAll parts + 1
  | .iface _ d => uptoBulk d + 1
  | .map entries => uptoBulkEntries entries + 1
  | .held _ => 1
def uptoBulkAll {H : Type} : List (DataW H) → Nat
  | [] => 0
  | d :: r => uptoBulk d + uptoBulkAll r
def uptoBulkEntries {H : Type} : List (Lit × DataW H) → Nat
  | [] => 0
  | x :: r => uptoBulkEntry x + uptoBulkEntries r
def uptoBulkEntry {H : Type} : Lit × DataW H → Nat
  | (.string bytes, d) => bytes.length + uptoBulk d + 1
  | (_, d) => uptoBulk d + 1
 end
def uptoSmall : (H : Type) → List (DataW H) → Bool := fun _ ds => decide (uptoBulkAll ds ≤ 1048576)
def OpenSpec.upto (s : _root_.Go.ChangeSpec) : _root_.Go.OpenSpec := { _root_.Go.OpenSpec.ofChange s with cond := some uptoSmall }

/-- 'gauzelaw.Bases', WHERE WHAT IT READS IS OF BULK AT MOST 1048576: true; the input reads as it did. -/
def basesUptoRow : OpenClaim := { program := "ytcbindgpbeaebaagreatdoor", sum := "1cae8bd5386952a793e3771da05c9c909c02e21051d5181a1fc907e0d95f9284", func := "gauze/gauzelaw.Bases", spec := "bases", inPlace := ["internal/bytealg.CountString", "internal/bytealg.IndexByteString", "internal/bytealg.IndexString", "internal/bytealg.abigen_runtime_cmpstring", "slices.overlaps[gauze/paths.entry[gauze/base.placed]]"], unfollowed := true, recurses := true, named := ["unicode/utf8.first", "unicode/utf8.acceptRanges", "internal/bytealg.MaxLen"], apart := false, laid := [("unicode/utf8.acceptRanges", laid_unicode_utf8_acceptRanges), ("unicode/utf8.first", laid_unicode_utf8_first)], narrowed := true }
def BasesUptoSaid : Prop := basesUptoRow.holds Tryz.pinned (OpenSpec.upto basesSpec)

/-- 'gauzelaw.Does', WHERE WHAT IT READS IS OF BULK AT MOST 1048576: true; the input reads as it did. -/
def doesUptoRow : OpenClaim := { program := "ytcbindgpbeaebaagreatdoor", sum := "1cae8bd5386952a793e3771da05c9c909c02e21051d5181a1fc907e0d95f9284", func := "gauze/gauzelaw.Does", spec := "does", inPlace := ["internal/bytealg.abigen_runtime_cmpstring", "slices.overlaps[gauze/paths.entry[gauze/api.Item]]", "internal/bytealg.CountString", "internal/bytealg.IndexByteString", "internal/bytealg.IndexString", "slices.overlaps[gauze/paths.entry[gauze/base.placed]]"], unfollowed := true, recurses := true, named := ["unicode/utf8.first", "unicode/utf8.acceptRanges", "internal/bytealg.MaxLen", "gauze/gauzelaw.spare"], apart := false, laid := [("unicode/utf8.acceptRanges", laid_unicode_utf8_acceptRanges), ("gauze/gauzelaw.spare", laid_gauze_gauzelaw_spare), ("unicode/utf8.first", laid_unicode_utf8_first)], narrowed := true }
def DoesUptoSaid : Prop := doesUptoRow.holds Tryz.pinned (OpenSpec.upto doesSpec)

/-- 'gauzelaw.Endures', WHERE WHAT IT READS IS OF BULK AT MOST 1048576: true; the input reads as it did. -/
def enduresUptoRow : OpenClaim := { program := "ytcbindgpbeaebaagreatdoor", sum := "1cae8bd5386952a793e3771da05c9c909c02e21051d5181a1fc907e0d95f9284", func := "gauze/gauzelaw.Endures", spec := "endures", inPlace := ["internal/bytealg.abigen_runtime_cmpstring", "slices.overlaps[gauze/paths.entry[gauze/api.Item]]", "internal/bytealg.CountString", "internal/bytealg.IndexByteString", "internal/bytealg.IndexString", "slices.overlaps[gauze/paths.entry[gauze/base.placed]]"], unfollowed := true, recurses := true, named := ["unicode/utf8.first", "unicode/utf8.acceptRanges", "internal/bytealg.MaxLen", "gauze/gauzelaw.spare"], apart := false, laid := [("unicode/utf8.acceptRanges", laid_unicode_utf8_acceptRanges), ("gauze/gauzelaw.spare", laid_gauze_gauzelaw_spare), ("unicode/utf8.first", laid_unicode_utf8_first)], narrowed := true }
def EnduresUptoSaid : Prop := enduresUptoRow.holds Tryz.pinned (OpenSpec.upto enduresSpec)

/-- 'gauzekeep.Plain', WHERE WHAT IT READS IS OF BULK AT MOST 1048576: true; the input reads as it did. -/
def plainUptoRow : OpenClaim := { program := "ytcbindgpbeaebaagreatdoor", sum := "1cae8bd5386952a793e3771da05c9c909c02e21051d5181a1fc907e0d95f9284", func := "gauze/gauzekeep.Plain", spec := "plain", inPlace := ["internal/bytealg.abigen_runtime_cmpstring", "slices.overlaps[gauze/paths.entry[gauze/api.Item]]", "internal/bytealg.CountString", "internal/bytealg.IndexByteString", "internal/bytealg.IndexString", "slices.overlaps[gauze/paths.entry[gauze/base.placed]]"], unfollowed := true, recurses := true, named := ["gauze/gauzekeep.parents", "gauze/gauzekeep.names", "unicode/utf8.first", "unicode/utf8.acceptRanges", "internal/bytealg.MaxLen"], apart := false, laid := [("unicode/utf8.acceptRanges", laid_unicode_utf8_acceptRanges), ("gauze/gauzekeep.names", laid_gauze_gauzekeep_names), ("gauze/gauzekeep.parents", laid_gauze_gauzekeep_parents), ("unicode/utf8.first", laid_unicode_utf8_first)], narrowed := true }
def PlainUptoSaid : Prop := plainUptoRow.holds Tryz.pinned (OpenSpec.upto plainSpec)

/-- 'gauzekeep.Layered', WHERE WHAT IT READS IS OF BULK AT MOST 1048576: true; the input reads as it did. -/
def layeredUptoRow : OpenClaim := { program := "ytcbindgpbeaebaagreatdoor", sum := "1cae8bd5386952a793e3771da05c9c909c02e21051d5181a1fc907e0d95f9284", func := "gauze/gauzekeep.Layered", spec := "layered", inPlace := ["internal/bytealg.abigen_runtime_cmpstring", "slices.overlaps[gauze/paths.entry[gauze/api.Item]]", "internal/bytealg.CountString", "internal/bytealg.IndexByteString", "internal/bytealg.IndexString", "slices.overlaps[gauze/paths.entry[gauze/base.placed]]"], unfollowed := true, recurses := true, named := ["gauze/gauzekeep.parents", "gauze/gauzekeep.names", "unicode/utf8.first", "unicode/utf8.acceptRanges", "internal/bytealg.MaxLen"], apart := false, laid := [("unicode/utf8.acceptRanges", laid_unicode_utf8_acceptRanges), ("gauze/gauzekeep.names", laid_gauze_gauzekeep_names), ("gauze/gauzekeep.parents", laid_gauze_gauzekeep_parents), ("unicode/utf8.first", laid_unicode_utf8_first)], narrowed := true }
def LayeredUptoSaid : Prop := layeredUptoRow.holds Tryz.pinned (OpenSpec.upto layeredSpec)

/-- 'gauzekeep.Anew', WHERE WHAT IT READS IS OF BULK AT MOST 1048576: true; the input reads as it did. -/
def anewUptoRow : OpenClaim := { program := "ytcbindgpbeaebaagreatdoor", sum := "1cae8bd5386952a793e3771da05c9c909c02e21051d5181a1fc907e0d95f9284", func := "gauze/gauzekeep.Anew", spec := "anew", inPlace := ["internal/bytealg.abigen_runtime_cmpstring", "slices.overlaps[gauze/paths.entry[gauze/api.Item]]", "internal/bytealg.CountString", "internal/bytealg.IndexByteString", "internal/bytealg.IndexString", "slices.overlaps[gauze/paths.entry[gauze/base.placed]]"], unfollowed := true, recurses := true, named := ["gauze/gauzekeep.names", "gauze/gauzekeep.parents", "unicode/utf8.first", "unicode/utf8.acceptRanges", "internal/bytealg.MaxLen"], apart := false, laid := [("unicode/utf8.acceptRanges", laid_unicode_utf8_acceptRanges), ("gauze/gauzekeep.names", laid_gauze_gauzekeep_names), ("gauze/gauzekeep.parents", laid_gauze_gauzekeep_parents), ("unicode/utf8.first", laid_unicode_utf8_first)], narrowed := true }
def AnewUptoSaid : Prop := anewUptoRow.holds Tryz.pinned (OpenSpec.upto anewSpec)

/-- 'gauzekeep.Saved', WHERE WHAT IT READS IS OF BULK AT MOST 1048576: true; the input reads as it did. -/
def savedUptoRow : OpenClaim := { program := "ytcbindgpbeaebaagreatdoor", sum := "1cae8bd5386952a793e3771da05c9c909c02e21051d5181a1fc907e0d95f9284", func := "gauze/gauzekeep.Saved", spec := "saved", inPlace := ["internal/bytealg.abigen_runtime_cmpstring", "slices.overlaps[gauze/paths.entry[gauze/api.Item]]", "internal/bytealg.CountString", "internal/bytealg.IndexByteString", "internal/bytealg.IndexString", "slices.overlaps[gauze/paths.entry[gauze/base.placed]]"], unfollowed := true, recurses := true, named := ["gauze/gauzekeep.parents", "gauze/gauzekeep.names", "unicode/utf8.first", "unicode/utf8.acceptRanges", "internal/bytealg.MaxLen"], apart := false, laid := [("unicode/utf8.acceptRanges", laid_unicode_utf8_acceptRanges), ("gauze/gauzekeep.names", laid_gauze_gauzekeep_names), ("gauze/gauzekeep.parents", laid_gauze_gauzekeep_parents), ("unicode/utf8.first", laid_unicode_utf8_first)], narrowed := true }
def SavedUptoSaid : Prop := savedUptoRow.holds Tryz.pinned (OpenSpec.upto savedSpec)

/-- 'gauzekeep.Torn', WHERE WHAT IT READS IS OF BULK AT MOST 1048576: true; the input reads as it did. -/
def tornUptoRow : OpenClaim := { program := "ytcbindgpbeaebaagreatdoor", sum := "1cae8bd5386952a793e3771da05c9c909c02e21051d5181a1fc907e0d95f9284", func := "gauze/gauzekeep.Torn", spec := "torn", inPlace := ["internal/bytealg.abigen_runtime_cmpstring", "slices.overlaps[gauze/paths.entry[gauze/api.Item]]", "internal/bytealg.CountString", "internal/bytealg.IndexByteString", "internal/bytealg.IndexString", "slices.overlaps[gauze/paths.entry[gauze/base.placed]]"], unfollowed := true, recurses := true, named := ["gauze/gauzekeep.parents", "gauze/gauzekeep.names", "unicode/utf8.first", "unicode/utf8.acceptRanges", "internal/bytealg.MaxLen"], apart := false, laid := [("unicode/utf8.acceptRanges", laid_unicode_utf8_acceptRanges), ("gauze/gauzekeep.names", laid_gauze_gauzekeep_names), ("gauze/gauzekeep.parents", laid_gauze_gauzekeep_parents), ("unicode/utf8.first", laid_unicode_utf8_first)], narrowed := true }
def TornUptoSaid : Prop := tornUptoRow.holds Tryz.pinned (OpenSpec.upto tornSpec)

end Rows
end Go.Proofs.YtcbindgpbeaebaaGreatDoor

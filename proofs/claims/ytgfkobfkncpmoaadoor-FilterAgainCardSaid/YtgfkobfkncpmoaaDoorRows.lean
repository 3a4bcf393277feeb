/-
  NARROWER THAN 'FOR EVERY INPUT', by the rows' own cells (each row's printed sentence says how): CodecReads: laid · CellGone: laid · MemFrom: laid · BlockBack: laid · BlockCuts: laid · BlockFinds: laid · MergeCalls: laid · FilterLets: laid · FilterTakes: laid · FilterParts: laid · FilterAgain: laid · FilterRows: laid.
  DERIVED. THE GIVEN ROWS OF THIS SEAT. 12 by the template 'for every input the law returns true; each argument reads behind the call as it read before'; 0 by the template 'total and deterministic' (their statements: YtgfkobfkncpmoaaDoorTotals.lean).
  GIVEN WITH THE SEED: the statements are not yours to turn. If you find one false, say at which input.
  Laid BY PROGRAM, IN A SANDBOX (cutbox-rows.mjs): the forced cells as the released guide's own fill.sh prints them over the translation d5179c493ecba502… (all of the seat's roots in one cut). By AI agents, Wed Nov 11 2026. No macro, syntax, notation, axiom, sorry.
-/
import Derived.Test.YtgfkobfkncpmoaaDoorChecked
import GoSem.PinnedTables
import GoSem.Claim
import GoSem.ClaimJoined
import GoSem.ClaimMapViews
import Derived.JoinedTies
import Derived.KernelRfl
namespace Go.Proofs.YtgfkobfkncpmoaaDoor
/- THE CELL 'sum', in the pinned program and in every row, IS THE sha256 OF THE DUMP (.gsa) THAT YtgfkobfkncpmoaaDoorProg.lean LOADS. Nothing in Lean hashes anything: it is a label: what it is worth is what the hold of that sum in a sandbox is worth. -/
noncomputable def Tryd.pinned : Pinned := { name := "ytgfkobfkncpmoaadoor", sum := "d5179c493ecba5020bf0f7230bfc0ebd96e584c3d5cdeee4e7e28f550f703be1", checked := Tryd.checked }
namespace Rows
def none {H : Type} : Left H := { results := [], args := [] }

/- WHAT THE LISTED PACKAGE-LEVEL VARIABLES READ AS WHEN THE CALL BEGINS. Each datum BY PROGRAM (the guide's laid-datum.mjs) off the statement by which the dump's own 'gosem.cut.vars' lays the variable. In a bare row this is a premise. The card (YtgfkobfkncpmoaaDoorCards.lean) ties it to the program's text. -/
def laid_unicode_utf8_acceptRanges {H : Type} : DataW H := .agg [.agg [.lit (.int .u8 128), .lit (.int .u8 191)], .agg [.lit (.int .u8 160), .lit (.int .u8 191)], .agg [.lit (.int .u8 128), .lit (.int .u8 159)], .agg [.lit (.int .u8 144), .lit (.int .u8 191)], .agg [.lit (.int .u8 128), .lit (.int .u8 143)], .agg [.lit (.int .u8 0), .lit (.int .u8 0)], .agg [.lit (.int .u8 0), .lit (.int .u8 0)], .agg [.lit (.int .u8 0), .lit (.int .u8 0)], .agg [.lit (.int .u8 0), .lit (.int .u8 0)], .agg [.lit (.int .u8 0), .lit (.int .u8 0)], .agg [.lit (.int .u8 0), .lit (.int .u8 0)], .agg [.lit (.int .u8 0), .lit (.int .u8 0)], .agg [.lit (.int .u8 0), .lit (.int .u8 0)], .agg [.lit (.int .u8 0), .lit (.int .u8 0)], .agg [.lit (.int .u8 0), .lit (.int .u8 0)], .agg [.lit (.int .u8 0), .lit (.int .u8 0)]]
def laid_bytes_ErrTooLarge {H : Type} : DataW H := .iface "*errors.errorString" (.ptr (.agg [.lit (.string [98, 121, 116, 101, 115, 46, 66, 117, 102, 102, 101, 114, 58, 32, 116, 111, 111, 32, 108, 97, 114, 103, 101])]))
/-- One of Go's own tables, pinned by name: the form's constant. -/
def laid_unicode_utf8_first : DataW Unit := Go.Pinned.utf8First

/-- 'joistlaw03.CodecReads': WHATEVER THE INPUT: true; the input reads as it did. -/
def codecReadsSpec : ChangeSpec := { name := "codecReads", fn := fun _ => fun
  | [d] => { results := [.lit (.bool true)], args := [d] }
  | _ => none }
def codecReadsRow : OpenClaim := { program := "ytgfkobfkncpmoaadoor", sum := "d5179c493ecba5020bf0f7230bfc0ebd96e584c3d5cdeee4e7e28f550f703be1", func := "joist/joistlaw03.CodecReads", spec := "codecReads", inPlace := ["math.Float64frombits", "internal/bytealg.abigen_runtime_cmpstring"], unfollowed := true, recurses := true, named := ["unicode/utf8.first", "unicode/utf8.acceptRanges", "bytes.ErrTooLarge"], apart := false, laid := [("unicode/utf8.acceptRanges", laid_unicode_utf8_acceptRanges), ("bytes.ErrTooLarge", laid_bytes_ErrTooLarge), ("unicode/utf8.first", laid_unicode_utf8_first)] }
def CodecReadsSaid : Prop := codecReadsRow.holds Tryd.pinned (OpenSpec.ofChange codecReadsSpec)

/-- ITS FALSE NEIGHBOUR: 'it returns false'. Refute it at one input. -/
def codecReadsWrong : ChangeSpec := { name := "codecReads", fn := fun _ => fun
  | [d] => { results := [.lit (.bool false)], args := [d] }
  | _ => none }
def CodecReadsWrongFalsely : Prop := codecReadsRow.holds Tryd.pinned (OpenSpec.ofChange codecReadsWrong)

/-- 'joistlaw06.CellGone': WHATEVER THE INPUT: true; the input reads as it did. -/
def cellGoneSpec : ChangeSpec := { name := "cellGone", fn := fun _ => fun
  | [d1, d2, d3] => { results := [.lit (.bool true)], args := [d1, d2, d3] }
  | _ => none }
def cellGoneRow : OpenClaim := { program := "ytgfkobfkncpmoaadoor", sum := "d5179c493ecba5020bf0f7230bfc0ebd96e584c3d5cdeee4e7e28f550f703be1", func := "joist/joistlaw06.CellGone", spec := "cellGone", inPlace := ["math.Float64frombits", "internal/bytealg.abigen_runtime_cmpstring"], unfollowed := true, recurses := true, named := ["unicode/utf8.first", "unicode/utf8.acceptRanges"], apart := false, laid := [("unicode/utf8.acceptRanges", laid_unicode_utf8_acceptRanges), ("unicode/utf8.first", laid_unicode_utf8_first)] }
def CellGoneSaid : Prop := cellGoneRow.holds Tryd.pinned (OpenSpec.ofChange cellGoneSpec)

/-- ITS FALSE NEIGHBOUR: 'it returns false'. Refute it at one input. -/
def cellGoneWrong : ChangeSpec := { name := "cellGone", fn := fun _ => fun
  | [d1, d2, d3] => { results := [.lit (.bool false)], args := [d1, d2, d3] }
  | _ => none }
def CellGoneWrongFalsely : Prop := cellGoneRow.holds Tryd.pinned (OpenSpec.ofChange cellGoneWrong)

/-- 'joistlaw07.MemFrom': WHATEVER THE INPUT: true; the input reads as it did. -/
def memFromSpec : ChangeSpec := { name := "memFrom", fn := fun _ => fun
  | [d1, d2, d3] => { results := [.lit (.bool true)], args := [d1, d2, d3] }
  | _ => none }
def memFromRow : OpenClaim := { program := "ytgfkobfkncpmoaadoor", sum := "d5179c493ecba5020bf0f7230bfc0ebd96e584c3d5cdeee4e7e28f550f703be1", func := "joist/joistlaw07.MemFrom", spec := "memFrom", inPlace := ["math.Float64frombits", "internal/bytealg.abigen_runtime_cmpstring"], unfollowed := true, recurses := true, named := ["unicode/utf8.first", "unicode/utf8.acceptRanges", "bytes.ErrTooLarge"], apart := false, laid := [("unicode/utf8.acceptRanges", laid_unicode_utf8_acceptRanges), ("bytes.ErrTooLarge", laid_bytes_ErrTooLarge), ("unicode/utf8.first", laid_unicode_utf8_first)] }
def MemFromSaid : Prop := memFromRow.holds Tryd.pinned (OpenSpec.ofChange memFromSpec)

/-- ITS FALSE NEIGHBOUR: 'it returns false'. Refute it at one input. -/
def memFromWrong : ChangeSpec := { name := "memFrom", fn := fun _ => fun
  | [d1, d2, d3] => { results := [.lit (.bool false)], args := [d1, d2, d3] }
  | _ => none }
def MemFromWrongFalsely : Prop := memFromRow.holds Tryd.pinned (OpenSpec.ofChange memFromWrong)

/-- 'joistlaw08.BlockBack': WHATEVER THE INPUT: true; the input reads as it did. -/
def blockBackSpec : ChangeSpec := { name := "blockBack", fn := fun _ => fun
  | [d1, d2] => { results := [.lit (.bool true)], args := [d1, d2] }
  | _ => none }
def blockBackRow : OpenClaim := { program := "ytgfkobfkncpmoaadoor", sum := "d5179c493ecba5020bf0f7230bfc0ebd96e584c3d5cdeee4e7e28f550f703be1", func := "joist/joistlaw08.BlockBack", spec := "blockBack", inPlace := ["math.Float64frombits", "internal/bytealg.Compare", "internal/bytealg.abigen_runtime_cmpstring"], unfollowed := true, recurses := true, named := ["bytes.ErrTooLarge", "unicode/utf8.first", "unicode/utf8.acceptRanges"], apart := false, laid := [("unicode/utf8.acceptRanges", laid_unicode_utf8_acceptRanges), ("bytes.ErrTooLarge", laid_bytes_ErrTooLarge), ("unicode/utf8.first", laid_unicode_utf8_first)] }
def BlockBackSaid : Prop := blockBackRow.holds Tryd.pinned (OpenSpec.ofChange blockBackSpec)

/-- ITS FALSE NEIGHBOUR: 'it returns false'. Refute it at one input. -/
def blockBackWrong : ChangeSpec := { name := "blockBack", fn := fun _ => fun
  | [d1, d2] => { results := [.lit (.bool false)], args := [d1, d2] }
  | _ => none }
def BlockBackWrongFalsely : Prop := blockBackRow.holds Tryd.pinned (OpenSpec.ofChange blockBackWrong)

/-- 'joistlaw08.BlockCuts': WHATEVER THE INPUT: true; the input reads as it did. -/
def blockCutsSpec : ChangeSpec := { name := "blockCuts", fn := fun _ => fun
  | [d1, d2] => { results := [.lit (.bool true)], args := [d1, d2] }
  | _ => none }
def blockCutsRow : OpenClaim := { program := "ytgfkobfkncpmoaadoor", sum := "d5179c493ecba5020bf0f7230bfc0ebd96e584c3d5cdeee4e7e28f550f703be1", func := "joist/joistlaw08.BlockCuts", spec := "blockCuts", inPlace := ["math.Float64frombits", "internal/bytealg.Compare", "internal/bytealg.abigen_runtime_cmpstring"], unfollowed := true, recurses := true, named := ["bytes.ErrTooLarge", "unicode/utf8.first", "unicode/utf8.acceptRanges"], apart := false, laid := [("unicode/utf8.acceptRanges", laid_unicode_utf8_acceptRanges), ("bytes.ErrTooLarge", laid_bytes_ErrTooLarge), ("unicode/utf8.first", laid_unicode_utf8_first)] }
def BlockCutsSaid : Prop := blockCutsRow.holds Tryd.pinned (OpenSpec.ofChange blockCutsSpec)

/-- ITS FALSE NEIGHBOUR: 'it returns false'. Refute it at one input. -/
def blockCutsWrong : ChangeSpec := { name := "blockCuts", fn := fun _ => fun
  | [d1, d2] => { results := [.lit (.bool false)], args := [d1, d2] }
  | _ => none }
def BlockCutsWrongFalsely : Prop := blockCutsRow.holds Tryd.pinned (OpenSpec.ofChange blockCutsWrong)

/-- 'joistlaw08.BlockFinds': WHATEVER THE INPUT: true; the input reads as it did. -/
def blockFindsSpec : ChangeSpec := { name := "blockFinds", fn := fun _ => fun
  | [d1, d2] => { results := [.lit (.bool true)], args := [d1, d2] }
  | _ => none }
def blockFindsRow : OpenClaim := { program := "ytgfkobfkncpmoaadoor", sum := "d5179c493ecba5020bf0f7230bfc0ebd96e584c3d5cdeee4e7e28f550f703be1", func := "joist/joistlaw08.BlockFinds", spec := "blockFinds", inPlace := ["math.Float64frombits", "internal/bytealg.Compare", "internal/bytealg.abigen_runtime_cmpstring"], unfollowed := true, recurses := true, named := ["bytes.ErrTooLarge", "unicode/utf8.first", "unicode/utf8.acceptRanges"], apart := false, laid := [("unicode/utf8.acceptRanges", laid_unicode_utf8_acceptRanges), ("bytes.ErrTooLarge", laid_bytes_ErrTooLarge), ("unicode/utf8.first", laid_unicode_utf8_first)] }
def BlockFindsSaid : Prop := blockFindsRow.holds Tryd.pinned (OpenSpec.ofChange blockFindsSpec)

/-- ITS FALSE NEIGHBOUR: 'it returns false'. Refute it at one input. -/
def blockFindsWrong : ChangeSpec := { name := "blockFinds", fn := fun _ => fun
  | [d1, d2] => { results := [.lit (.bool false)], args := [d1, d2] }
  | _ => none }
def BlockFindsWrongFalsely : Prop := blockFindsRow.holds Tryd.pinned (OpenSpec.ofChange blockFindsWrong)

/-- 'joistlaw10.MergeCalls': WHATEVER THE INPUT: true; the input reads as it did. -/
def mergeCallsSpec : ChangeSpec := { name := "mergeCalls", fn := fun _ => fun
  | [d1, d2, d3] => { results := [.lit (.bool true)], args := [d1, d2, d3] }
  | _ => none }
def mergeCallsRow : OpenClaim := { program := "ytgfkobfkncpmoaadoor", sum := "d5179c493ecba5020bf0f7230bfc0ebd96e584c3d5cdeee4e7e28f550f703be1", func := "joist/joistlaw10.MergeCalls", spec := "mergeCalls", inPlace := ["math.Float64frombits", "internal/bytealg.abigen_runtime_cmpstring"], unfollowed := true, recurses := true, named := ["unicode/utf8.first", "unicode/utf8.acceptRanges"], apart := false, laid := [("unicode/utf8.acceptRanges", laid_unicode_utf8_acceptRanges), ("unicode/utf8.first", laid_unicode_utf8_first)] }
def MergeCallsSaid : Prop := mergeCallsRow.holds Tryd.pinned (OpenSpec.ofChange mergeCallsSpec)

/-- ITS FALSE NEIGHBOUR: 'it returns false'. Refute it at one input. -/
def mergeCallsWrong : ChangeSpec := { name := "mergeCalls", fn := fun _ => fun
  | [d1, d2, d3] => { results := [.lit (.bool false)], args := [d1, d2, d3] }
  | _ => none }
def MergeCallsWrongFalsely : Prop := mergeCallsRow.holds Tryd.pinned (OpenSpec.ofChange mergeCallsWrong)

/-- 'joistlaw13.FilterLets': WHATEVER THE INPUT: true; the input reads as it did. -/
def filterLetsSpec : ChangeSpec := { name := "filterLets", fn := fun _ => fun
  | [d1, d2, d3] => { results := [.lit (.bool true)], args := [d1, d2, d3] }
  | _ => none }
def filterLetsRow : OpenClaim := { program := "ytgfkobfkncpmoaadoor", sum := "d5179c493ecba5020bf0f7230bfc0ebd96e584c3d5cdeee4e7e28f550f703be1", func := "joist/joistlaw13.FilterLets", spec := "filterLets", inPlace := ["math.Float64frombits"], unfollowed := true, recurses := true, named := ["unicode/utf8.first", "unicode/utf8.acceptRanges"], apart := false, laid := [("unicode/utf8.acceptRanges", laid_unicode_utf8_acceptRanges), ("unicode/utf8.first", laid_unicode_utf8_first)] }
def FilterLetsSaid : Prop := filterLetsRow.holds Tryd.pinned (OpenSpec.ofChange filterLetsSpec)

/-- ITS FALSE NEIGHBOUR: 'it returns false'. Refute it at one input. -/
def filterLetsWrong : ChangeSpec := { name := "filterLets", fn := fun _ => fun
  | [d1, d2, d3] => { results := [.lit (.bool false)], args := [d1, d2, d3] }
  | _ => none }
def FilterLetsWrongFalsely : Prop := filterLetsRow.holds Tryd.pinned (OpenSpec.ofChange filterLetsWrong)

/-- 'joistlaw13.FilterTakes': WHATEVER THE INPUT: true; the input reads as it did. -/
def filterTakesSpec : ChangeSpec := { name := "filterTakes", fn := fun _ => fun
  | [d1, d2] => { results := [.lit (.bool true)], args := [d1, d2] }
  | _ => none }
def filterTakesRow : OpenClaim := { program := "ytgfkobfkncpmoaadoor", sum := "d5179c493ecba5020bf0f7230bfc0ebd96e584c3d5cdeee4e7e28f550f703be1", func := "joist/joistlaw13.FilterTakes", spec := "filterTakes", inPlace := ["math.Float64frombits"], unfollowed := true, recurses := true, named := ["unicode/utf8.first", "unicode/utf8.acceptRanges"], apart := false, laid := [("unicode/utf8.acceptRanges", laid_unicode_utf8_acceptRanges), ("unicode/utf8.first", laid_unicode_utf8_first)] }
def FilterTakesSaid : Prop := filterTakesRow.holds Tryd.pinned (OpenSpec.ofChange filterTakesSpec)

/-- ITS FALSE NEIGHBOUR: 'it returns false'. Refute it at one input. -/
def filterTakesWrong : ChangeSpec := { name := "filterTakes", fn := fun _ => fun
  | [d1, d2] => { results := [.lit (.bool false)], args := [d1, d2] }
  | _ => none }
def FilterTakesWrongFalsely : Prop := filterTakesRow.holds Tryd.pinned (OpenSpec.ofChange filterTakesWrong)

/-- 'joistlaw13.FilterParts': WHATEVER THE INPUT: true; the input reads as it did. -/
def filterPartsSpec : ChangeSpec := { name := "filterParts", fn := fun _ => fun
  | [d1, d2] => { results := [.lit (.bool true)], args := [d1, d2] }
  | _ => none }
def filterPartsRow : OpenClaim := { program := "ytgfkobfkncpmoaadoor", sum := "d5179c493ecba5020bf0f7230bfc0ebd96e584c3d5cdeee4e7e28f550f703be1", func := "joist/joistlaw13.FilterParts", spec := "filterParts", inPlace := ["math.Float64frombits"], unfollowed := true, recurses := true, named := ["unicode/utf8.first", "unicode/utf8.acceptRanges"], apart := false, laid := [("unicode/utf8.acceptRanges", laid_unicode_utf8_acceptRanges), ("unicode/utf8.first", laid_unicode_utf8_first)] }
def FilterPartsSaid : Prop := filterPartsRow.holds Tryd.pinned (OpenSpec.ofChange filterPartsSpec)

/-- ITS FALSE NEIGHBOUR: 'it returns false'. Refute it at one input. -/
def filterPartsWrong : ChangeSpec := { name := "filterParts", fn := fun _ => fun
  | [d1, d2] => { results := [.lit (.bool false)], args := [d1, d2] }
  | _ => none }
def FilterPartsWrongFalsely : Prop := filterPartsRow.holds Tryd.pinned (OpenSpec.ofChange filterPartsWrong)

/-- 'joistlaw13.FilterAgain': WHATEVER THE INPUT: true; the input reads as it did. -/
def filterAgainSpec : ChangeSpec := { name := "filterAgain", fn := fun _ => fun
  | [d1, d2] => { results := [.lit (.bool true)], args := [d1, d2] }
  | _ => none }
def filterAgainRow : OpenClaim := { program := "ytgfkobfkncpmoaadoor", sum := "d5179c493ecba5020bf0f7230bfc0ebd96e584c3d5cdeee4e7e28f550f703be1", func := "joist/joistlaw13.FilterAgain", spec := "filterAgain", inPlace := ["math.Float64frombits"], unfollowed := true, recurses := true, named := ["unicode/utf8.first", "unicode/utf8.acceptRanges"], apart := false, laid := [("unicode/utf8.acceptRanges", laid_unicode_utf8_acceptRanges), ("unicode/utf8.first", laid_unicode_utf8_first)] }
def FilterAgainSaid : Prop := filterAgainRow.holds Tryd.pinned (OpenSpec.ofChange filterAgainSpec)

/-- ITS FALSE NEIGHBOUR: 'it returns false'. Refute it at one input. -/
def filterAgainWrong : ChangeSpec := { name := "filterAgain", fn := fun _ => fun
  | [d1, d2] => { results := [.lit (.bool false)], args := [d1, d2] }
  | _ => none }
def FilterAgainWrongFalsely : Prop := filterAgainRow.holds Tryd.pinned (OpenSpec.ofChange filterAgainWrong)

/-- 'joistlaw13.FilterRows': WHATEVER THE INPUT: true; the input reads as it did. -/
def filterRowsSpec : ChangeSpec := { name := "filterRows", fn := fun _ => fun
  | [d1, d2] => { results := [.lit (.bool true)], args := [d1, d2] }
  | _ => none }
def filterRowsRow : OpenClaim := { program := "ytgfkobfkncpmoaadoor", sum := "d5179c493ecba5020bf0f7230bfc0ebd96e584c3d5cdeee4e7e28f550f703be1", func := "joist/joistlaw13.FilterRows", spec := "filterRows", inPlace := ["math.Float64frombits"], unfollowed := true, recurses := true, named := ["unicode/utf8.first", "unicode/utf8.acceptRanges"], apart := false, laid := [("unicode/utf8.acceptRanges", laid_unicode_utf8_acceptRanges), ("unicode/utf8.first", laid_unicode_utf8_first)] }
def FilterRowsSaid : Prop := filterRowsRow.holds Tryd.pinned (OpenSpec.ofChange filterRowsSpec)

/-- ITS FALSE NEIGHBOUR: 'it returns false'. Refute it at one input. -/
def filterRowsWrong : ChangeSpec := { name := "filterRows", fn := fun _ => fun
  | [d1, d2] => { results := [.lit (.bool false)], args := [d1, d2] }
  | _ => none }
def FilterRowsWrongFalsely : Prop := filterRowsRow.holds Tryd.pinned (OpenSpec.ofChange filterRowsWrong)

/- THE SECOND FORM. 'bulk': how many values and letters a reading holds, each counted each time it is reached (what is shared counts as often as it is met; a slice's spare places count too). A statement '..UptoSaid' is the law's where the arguments, and the package variables that the reading takes, are together of bulk at most 1048576: NARROWER than '..Said'. Prove '..Said' where nothing that the law and all that it calls make is longer than what came in: it says more and counts as full. Else prove '..UptoSaid'. A law counts once. -/
mutual
def uptoBulk {H : Type} : DataW H → Nat
  | .lit (.string bytes) => bytes.length + 1
  | .lit _ => 1
  | .nil => 1
  | .ptr d => uptoBulk d + 1
  | .slice elems spare => uptoBulkAll elems + uptoBulkAll spare + 1
  | .agg parts => uptoBulkAll parts + 1
  | .iface _ d => uptoBulk d + 1
  | .map entries => uptoBulkEntries entries + 1
  | .held _ => 1
def uptoBulkAll {H : Type} : List (DataW H) → Nat
  | [] => 0
  | d :: r => uptoBulk d + uptoBulkAll r
def uptoBulkEntries {H : Type} : List (Lit × DataW H) → Nat
  | [] => 0
  | x :: r => uptoBulkEntry x + uptoBulkEntries r
def uptoBulkEntry {H : Type} : Lit × DataW H → Nat
  | (.string bytes, d) => bytes.length + uptoBulk d + 1
  | (_, d) => uptoBulk d + 1
 end
def uptoSmall : (H : Type) → List (DataW H) → Bool := fun _ ds => decide (uptoBulkAll ds ≤ 1048576)
def OpenSpec.upto (s : _root_.Go.ChangeSpec) : _root_.Go.OpenSpec := { _root_.Go.OpenSpec.ofChange s with cond := some uptoSmall }

/-- 'joistlaw03.CodecReads', WHERE WHAT IT READS IS OF BULK AT MOST 1048576: true; the input reads as it did. -/
def codecReadsUptoRow : OpenClaim := { program := "ytgfkobfkncpmoaadoor", sum := "d5179c493ecba5020bf0f7230bfc0ebd96e584c3d5cdeee4e7e28f550f703be1", func := "joist/joistlaw03.CodecReads", spec := "codecReads", inPlace := ["math.Float64frombits", "internal/bytealg.abigen_runtime_cmpstring"], unfollowed := true, recurses := true, named := ["unicode/utf8.first", "unicode/utf8.acceptRanges", "bytes.ErrTooLarge"], apart := false, laid := [("unicode/utf8.acceptRanges", laid_unicode_utf8_acceptRanges), ("bytes.ErrTooLarge", laid_bytes_ErrTooLarge), ("unicode/utf8.first", laid_unicode_utf8_first)], narrowed := true }
def CodecReadsUptoSaid : Prop := codecReadsUptoRow.holds Tryd.pinned (OpenSpec.upto codecReadsSpec)

/-- 'joistlaw06.CellGone', WHERE WHAT IT READS IS OF BULK AT MOST 1048576: true; the input reads as it did. -/
def cellGoneUptoRow : OpenClaim := { program := "ytgfkobfkncpmoaadoor", sum := "d5179c493ecba5020bf0f7230bfc0ebd96e584c3d5cdeee4e7e28f550f703be1", func := "joist/joistlaw06.CellGone", spec := "cellGone", inPlace := ["math.Float64frombits", "internal/bytealg.abigen_runtime_cmpstring"], unfollowed := true, recurses := true, named := ["unicode/utf8.first", "unicode/utf8.acceptRanges"], apart := false, laid := [("unicode/utf8.acceptRanges", laid_unicode_utf8_acceptRanges), ("unicode/utf8.first", laid_unicode_utf8_first)], narrowed := true }
def CellGoneUptoSaid : Prop := cellGoneUptoRow.holds Tryd.pinned (OpenSpec.upto cellGoneSpec)

/-- 'joistlaw07.MemFrom', WHERE WHAT IT READS IS OF BULK AT MOST 1048576: true; the input reads as it did. -/
def memFromUptoRow : OpenClaim := { program := "ytgfkobfkncpmoaadoor", sum := "d5179c493ecba5020bf0f7230bfc0ebd96e584c3d5cdeee4e7e28f550f703be1", func := "joist/joistlaw07.MemFrom", spec := "memFrom", inPlace := ["math.Float64frombits", "internal/bytealg.abigen_runtime_cmpstring"], unfollowed := true, recurses := true, named := ["unicode/utf8.first", "unicode/utf8.acceptRanges", "bytes.ErrTooLarge"], apart := false, laid := [("unicode/utf8.acceptRanges", laid_unicode_utf8_acceptRanges), ("bytes.ErrTooLarge", laid_bytes_ErrTooLarge), ("unicode/utf8.first", laid_unicode_utf8_first)], narrowed := true }
def MemFromUptoSaid : Prop := memFromUptoRow.holds Tryd.pinned (OpenSpec.upto memFromSpec)

/-- 'joistlaw08.BlockBack', WHERE WHAT IT READS IS OF BULK AT MOST 1048576: true; the input reads as it did. -/
def blockBackUptoRow : OpenClaim := { program := "ytgfkobfkncpmoaadoor", sum := "d5179c493ecba5020bf0f7230bfc0ebd96e584c3d5cdeee4e7e28f550f703be1", func := "joist/joistlaw08.BlockBack", spec := "blockBack", inPlace := ["math.Float64frombits", "internal/bytealg.Compare", "internal/bytealg.abigen_runtime_cmpstring"], unfollowed := true, recurses := true, named := ["bytes.ErrTooLarge", "unicode/utf8.first", "unicode/utf8.acceptRanges"], apart := false, laid := [("unicode/utf8.acceptRanges", laid_unicode_utf8_acceptRanges), ("bytes.ErrTooLarge", laid_bytes_ErrTooLarge), ("unicode/utf8.first", laid_unicode_utf8_first)], narrowed := true }
def BlockBackUptoSaid : Prop := blockBackUptoRow.holds Tryd.pinned (OpenSpec.upto blockBackSpec)

/-- 'joistlaw08.BlockCuts', WHERE WHAT IT READS IS OF BULK AT MOST 1048576: true; the input reads as it did. -/
def blockCutsUptoRow : OpenClaim := { program := "ytgfkobfkncpmoaadoor", sum := "d5179c493ecba5020bf0f7230bfc0ebd96e584c3d5cdeee4e7e28f550f703be1", func := "joist/joistlaw08.BlockCuts", spec := "blockCuts", inPlace := ["math.Float64frombits", "internal/bytealg.Compare", "internal/bytealg.abigen_runtime_cmpstring"], unfollowed := true, recurses := true, named := ["bytes.ErrTooLarge", "unicode/utf8.first", "unicode/utf8.acceptRanges"], apart := false, laid := [("unicode/utf8.acceptRanges", laid_unicode_utf8_acceptRanges), ("bytes.ErrTooLarge", laid_bytes_ErrTooLarge), ("unicode/utf8.first", laid_unicode_utf8_first)], narrowed := true }
def BlockCutsUptoSaid : Prop := blockCutsUptoRow.holds Tryd.pinned (OpenSpec.upto blockCutsSpec)

/-- 'joistlaw08.BlockFinds', WHERE WHAT IT READS IS OF BULK AT MOST 1048576: true; the input reads as it did. -/
def blockFindsUptoRow : OpenClaim := { program := "ytgfkobfkncpmoaadoor", sum := "d5179c493ecba5020bf0f7230bfc0ebd96e584c3d5cdeee4e7e28f550f703be1", func := "joist/joistlaw08.BlockFinds", spec := "blockFinds", inPlace := ["math.Float64frombits", "internal/bytealg.Compare", "internal/bytealg.abigen_runtime_cmpstring"], unfollowed := true, recurses := true, named := ["bytes.ErrTooLarge", "unicode/utf8.first", "unicode/utf8.acceptRanges"], apart := false, laid := [("unicode/utf8.acceptRanges", laid_unicode_utf8_acceptRanges), ("bytes.ErrTooLarge", laid_bytes_ErrTooLarge), ("unicode/utf8.first", laid_unicode_utf8_first)], narrowed := true }
def BlockFindsUptoSaid : Prop := blockFindsUptoRow.holds Tryd.pinned (OpenSpec.upto blockFindsSpec)

/-- 'joistlaw10.MergeCalls', WHERE WHAT IT READS IS OF BULK AT MOST 1048576: true; the input reads as it did. -/
def mergeCallsUptoRow : OpenClaim := { program := "ytgfkobfkncpmoaadoor", sum := "d5179c493ecba5020bf0f7230bfc0ebd96e584c3d5cdeee4e7e28f550f703be1", func := "joist/joistlaw10.MergeCalls", spec := "mergeCalls", inPlace := ["math.Float64frombits", "internal/bytealg.abigen_runtime_cmpstring"], unfollowed := true, recurses := true, named := ["unicode/utf8.first", "unicode/utf8.acceptRanges"], apart := false, laid := [("unicode/utf8.acceptRanges", laid_unicode_utf8_acceptRanges), ("unicode/utf8.first", laid_unicode_utf8_first)], narrowed := true }
def MergeCallsUptoSaid : Prop := mergeCallsUptoRow.holds Tryd.pinned (OpenSpec.upto mergeCallsSpec)

/-- 'joistlaw13.FilterLets', WHERE WHAT IT READS IS OF BULK AT MOST 1048576: true; the input reads as it did. -/
def filterLetsUptoRow : OpenClaim := { program := "ytgfkobfkncpmoaadoor", sum := "d5179c493ecba5020bf0f7230bfc0ebd96e584c3d5cdeee4e7e28f550f703be1", func := "joist/joistlaw13.FilterLets", spec := "filterLets", inPlace := ["math.Float64frombits"], unfollowed := true, recurses := true, named := ["unicode/utf8.first", "unicode/utf8.acceptRanges"], apart := false, laid := [("unicode/utf8.acceptRanges", laid_unicode_utf8_acceptRanges), ("unicode/utf8.first", laid_unicode_utf8_first)], narrowed := true }
def FilterLetsUptoSaid : Prop := filterLetsUptoRow.holds Tryd.pinned (OpenSpec.upto filterLetsSpec)

/-- 'joistlaw13.FilterTakes', WHERE WHAT IT READS IS OF BULK AT MOST 1048576: true; the input reads as it did. -/
def filterTakesUptoRow : OpenClaim := { program := "ytgfkobfkncpmoaadoor", sum := "d5179c493ecba5020bf0f7230bfc0ebd96e584c3d5cdeee4e7e28f550f703be1", func := "joist/joistlaw13.FilterTakes", spec := "filterTakes", inPlace := ["math.Float64frombits"], unfollowed := true, recurses := true, named := ["unicode/utf8.first", "unicode/utf8.acceptRanges"], apart := false, laid := [("unicode/utf8.acceptRanges", laid_unicode_utf8_acceptRanges), ("unicode/utf8.first", laid_unicode_utf8_first)], narrowed := true }
def FilterTakesUptoSaid : Prop := filterTakesUptoRow.holds Tryd.pinned (OpenSpec.upto filterTakesSpec)

/-- 'joistlaw13.FilterParts', WHERE WHAT IT READS IS OF BULK AT MOST 1048576: true; the input reads as it did. -/
def filterPartsUptoRow : OpenClaim := { program := "ytgfkobfkncpmoaadoor", sum := "d5179c493ecba5020bf0f7230bfc0ebd96e584c3d5cdeee4e7e28f550f703be1", func := "joist/joistlaw13.FilterParts", spec := "filterParts", inPlace := ["math.Float64frombits"], unfollowed := true, recurses := true, named := ["unicode/utf8.first", "unicode/utf8.acceptRanges"], apart := false, laid := [("unicode/utf8.acceptRanges", laid_unicode_utf8_acceptRanges), ("unicode/utf8.first", laid_unicode_utf8_first)], narrowed := true }
def FilterPartsUptoSaid : Prop := filterPartsUptoRow.holds Tryd.pinned (OpenSpec.upto filterPartsSpec)

/-- 'joistlaw13.FilterAgain', WHERE WHAT IT READS IS OF BULK AT MOST 1048576: true; the input reads as it did. -/
def filterAgainUptoRow : OpenClaim := { program := "ytgfkobfkncpmoaadoor", sum := "d5179c493ecba5020bf0f7230bfc0ebd96e584c3d5cdeee4e7e28f550f703be1", func := "joist/joistlaw13.FilterAgain", spec := "filterAgain", inPlace := ["math.Float64frombits"], unfollowed := true, recurses := true, named := ["unicode/utf8.first", "unicode/utf8.acceptRanges"], apart := false, laid := [("unicode/utf8.acceptRanges", laid_unicode_utf8_acceptRanges), ("unicode/utf8.first", laid_unicode_utf8_first)], narrowed := true }
def FilterAgainUptoSaid : Prop := filterAgainUptoRow.holds Tryd.pinned (OpenSpec.upto filterAgainSpec)

/-- 'joistlaw13.FilterRows', WHERE WHAT IT READS IS OF BULK AT MOST 1048576: true; the input reads as it did. -/
def filterRowsUptoRow : OpenClaim := { program := "ytgfkobfkncpmoaadoor", sum := "d5179c493ecba5020bf0f7230bfc0ebd96e584c3d5cdeee4e7e28f550f703be1", func := "joist/joistlaw13.FilterRows", spec := "filterRows", inPlace := ["math.Float64frombits"], unfollowed := true, recurses := true, named := ["unicode/utf8.first", "unicode/utf8.acceptRanges"], apart := false, laid := [("unicode/utf8.acceptRanges", laid_unicode_utf8_acceptRanges), ("unicode/utf8.first", laid_unicode_utf8_first)], narrowed := true }
def FilterRowsUptoSaid : Prop := filterRowsUptoRow.holds Tryd.pinned (OpenSpec.upto filterRowsSpec)

end Rows
end Go.Proofs.YtgfkobfkncpmoaaDoor

/-
  NARROWER THAN 'FOR EVERY INPUT', by the rows' own cells (each row's printed sentence says how): ManifestBytes: laid · ManifestSaves: laid · ManifestCrash: laid · ManifestBits: laid.
  DERIVED. THE GIVEN ROWS OF THIS SEAT. 4 by the template 'for every input the law returns true; each argument reads behind the call as it read before'; 0 by the template 'total and deterministic' (their statements: YtofkfafdodhmdaaGreatDoorTotals.lean).
  GIVEN WITH THE SEED: the statements are not yours to turn. If you find one false, say at which input.
  Laid BY PROGRAM, IN A SANDBOX (cutbox-rows.mjs): the forced cells as the released guide's own fill.sh prints them over the translation 48b17f88d16e0e81… (all of the seat's roots in one cut). By AI agents, Wed Nov 11 2026. No macro, syntax, notation, axiom, sorry.
-/
import Derived.Test.YtofkfafdodhmdaaGreatDoorChecked
import GoSem.Claim
import GoSem.ClaimJoined
import GoSem.ClaimMapViews
import Derived.JoinedTies
import Derived.KernelRfl
namespace Go.Proofs.YtofkfafdodhmdaaGreatDoor
/- THE CELL 'sum', in the pinned program and in every row, IS THE sha256 OF THE DUMP (.gsa) THAT YtofkfafdodhmdaaGreatDoorProg.lean LOADS. Nothing in Lean hashes anything: it is a label: what it is worth is what the hold of that sum in a sandbox is worth. -/
noncomputable def Tryz.pinned : Pinned := { name := "ytofkfafdodhmdaagreatdoor", sum := "48b17f88d16e0e810364c99069d1f46c3c11d2acbfa9618f9560a3c7d7919728", checked := Tryz.checked }
namespace Rows
def none {H : Type} : Left H := { results := [], args := [] }

/- WHAT THE LISTED PACKAGE-LEVEL VARIABLES READ AS WHEN THE CALL BEGINS. Each datum BY PROGRAM (the guide's laid-datum.mjs) off the statement by which the dump's own 'gosem.cut.vars' lays the variable. In a bare row this is a premise. The card (YtofkfafdodhmdaaGreatDoorCards.lean) ties it to the program's text. -/
def laid_bytes_ErrTooLarge {H : Type} : DataW H := .iface "*errors.errorString" (.ptr (.agg [.lit (.string [98, 121, 116, 101, 115, 46, 66, 117, 102, 102, 101, 114, 58, 32, 116, 111, 111, 32, 108, 97, 114, 103, 101])]))

/-- 'joistlaw11.ManifestBytes': WHATEVER THE INPUT: true; the input reads as it did. -/
def manifestBytesSpec : ChangeSpec := { name := "manifestBytes", fn := fun _ => fun
  | [d1, d2] => { results := [.lit (.bool true)], args := [d1, d2] }
  | _ => none }
def manifestBytesRow : OpenClaim := { program := "ytofkfafdodhmdaagreatdoor", sum := "48b17f88d16e0e810364c99069d1f46c3c11d2acbfa9618f9560a3c7d7919728", func := "joist/joistlaw11.ManifestBytes", spec := "manifestBytes", unfollowed := true, recurses := true, named := ["bytes.ErrTooLarge"], apart := false, laid := [("bytes.ErrTooLarge", laid_bytes_ErrTooLarge)] }
def ManifestBytesSaid : Prop := manifestBytesRow.holds Tryz.pinned (OpenSpec.ofChange manifestBytesSpec)

/-- ITS FALSE NEIGHBOUR: 'it returns false'. Refute it at one input. -/
def manifestBytesWrong : ChangeSpec := { name := "manifestBytes", fn := fun _ => fun
  | [d1, d2] => { results := [.lit (.bool false)], args := [d1, d2] }
  | _ => none }
def ManifestBytesWrongFalsely : Prop := manifestBytesRow.holds Tryz.pinned (OpenSpec.ofChange manifestBytesWrong)

/-- 'joistlaw11.ManifestSaves': WHATEVER THE INPUT: true; the input reads as it did. -/
def manifestSavesSpec : ChangeSpec := { name := "manifestSaves", fn := fun _ => fun
  | [d1, d2, d3, d4] => { results := [.lit (.bool true)], args := [d1, d2, d3, d4] }
  | _ => none }
def manifestSavesRow : OpenClaim := { program := "ytofkfafdodhmdaagreatdoor", sum := "48b17f88d16e0e810364c99069d1f46c3c11d2acbfa9618f9560a3c7d7919728", func := "joist/joistlaw11.ManifestSaves", spec := "manifestSaves", unfollowed := true, recurses := true, named := ["bytes.ErrTooLarge"], apart := false, laid := [("bytes.ErrTooLarge", laid_bytes_ErrTooLarge)] }
def ManifestSavesSaid : Prop := manifestSavesRow.holds Tryz.pinned (OpenSpec.ofChange manifestSavesSpec)

/-- ITS FALSE NEIGHBOUR: 'it returns false'. Refute it at one input. -/
def manifestSavesWrong : ChangeSpec := { name := "manifestSaves", fn := fun _ => fun
  | [d1, d2, d3, d4] => { results := [.lit (.bool false)], args := [d1, d2, d3, d4] }
  | _ => none }
def ManifestSavesWrongFalsely : Prop := manifestSavesRow.holds Tryz.pinned (OpenSpec.ofChange manifestSavesWrong)

/-- 'joistlaw11.ManifestCrash': WHATEVER THE INPUT: true; the input reads as it did. -/
def manifestCrashSpec : ChangeSpec := { name := "manifestCrash", fn := fun _ => fun
  | [d1, d2] => { results := [.lit (.bool true)], args := [d1, d2] }
  | _ => none }
def manifestCrashRow : OpenClaim := { program := "ytofkfafdodhmdaagreatdoor", sum := "48b17f88d16e0e810364c99069d1f46c3c11d2acbfa9618f9560a3c7d7919728", func := "joist/joistlaw11.ManifestCrash", spec := "manifestCrash", unfollowed := true, recurses := true, named := ["bytes.ErrTooLarge"], apart := false, laid := [("bytes.ErrTooLarge", laid_bytes_ErrTooLarge)] }
def ManifestCrashSaid : Prop := manifestCrashRow.holds Tryz.pinned (OpenSpec.ofChange manifestCrashSpec)

/-- ITS FALSE NEIGHBOUR: 'it returns false'. Refute it at one input. -/
def manifestCrashWrong : ChangeSpec := { name := "manifestCrash", fn := fun _ => fun
  | [d1, d2] => { results := [.lit (.bool false)], args := [d1, d2] }
  | _ => none }
def ManifestCrashWrongFalsely : Prop := manifestCrashRow.holds Tryz.pinned (OpenSpec.ofChange manifestCrashWrong)

/-- 'joistlaw11.ManifestBits': WHATEVER THE INPUT: true; the input reads as it did. -/
def manifestBitsSpec : ChangeSpec := { name := "manifestBits", fn := fun _ => fun
  | [d1, d2] => { results := [.lit (.bool true)], args := [d1, d2] }
  | _ => none }
def manifestBitsRow : OpenClaim := { program := "ytofkfafdodhmdaagreatdoor", sum := "48b17f88d16e0e810364c99069d1f46c3c11d2acbfa9618f9560a3c7d7919728", func := "joist/joistlaw11.ManifestBits", spec := "manifestBits", unfollowed := true, recurses := true, named := ["bytes.ErrTooLarge"], apart := false, laid := [("bytes.ErrTooLarge", laid_bytes_ErrTooLarge)] }
def ManifestBitsSaid : Prop := manifestBitsRow.holds Tryz.pinned (OpenSpec.ofChange manifestBitsSpec)

/-- ITS FALSE NEIGHBOUR: 'it returns false'. Refute it at one input. -/
def manifestBitsWrong : ChangeSpec := { name := "manifestBits", fn := fun _ => fun
  | [d1, d2] => { results := [.lit (.bool false)], args := [d1, d2] }
  | _ => none }
def ManifestBitsWrongFalsely : Prop := manifestBitsRow.holds Tryz.pinned (OpenSpec.ofChange manifestBitsWrong)

/- THE SECOND FORM. 'bulk': how many values and letters a reading holds, each counted each time it is reached (what is shared counts as often as it is met; a slice's spare places count too). A statement '..UptoSaid' is the law's where the arguments, and the package variables that the reading takes, are together of bulk at most 1048576: NARROWER than '..Said'. Prove '..Said' where nothing that the law and all that it calls make is longer than what came in: it says more and counts as full. Else prove '..UptoSaid'. A law counts once. -/
mutual
def uptoBulk {H : Type} : DataW H → Nat
  | .lit (.string bytes) => bytes.length + 1
  | .lit _ => 1
  | .nil => 1
  | .ptr d => uptoBulk d + 1
  | .slice elems spare => uptoBulkAll elems + uptoBulkAll spare + 1
  | .agg parts => uptoBulkAll parts + 1
  | .iface _ d => uptoBulk d + 1
  | .map entries => uptoBulkEntries entries + 1
  | .held _ => 1
def uptoBulkAll {H : Type} : List (DataW H) → Nat
  | [] => 0
  | d :: r => uptoBulk d + uptoBulkAll r
def uptoBulkEntries {H : Type} : List (Lit × DataW H) → Nat
  | [] => 0
  | x :: r => uptoBulkEntry x + uptoBulkEntries r
def uptoBulkEntry {H : Type} : Lit × DataW H → Nat
  | (.string bytes, d) => bytes.length + uptoBulk d + 1
  | (_, d) => uptoBulk d + 1
 end
def uptoSmall : (H : Type) → List (DataW H) → Bool := fun _ ds => decide (uptoBulkAll ds ≤ 1048576)
def OpenSpec.upto (s : _root_.Go.ChangeSpec) : _root_.Go.OpenSpec := { _root_.Go.OpenSpec.ofChange s with cond := some uptoSmall }

/-- 'joistlaw11.ManifestBytes', WHERE WHAT IT READS IS OF BULK AT MOST 1048576: true; the input reads as it did. -/
def manifestBytesUptoRow : OpenClaim := { program := "ytofkfafdodhmdaagreatdoor", sum := "48b17f88d16e0e810364c99069d1f46c3c11d2acbfa9618f9560a3c7d7919728", func := "joist/joistlaw11.ManifestBytes", spec := "manifestBytes", unfollowed := true, recurses := true, named := ["bytes.ErrTooLarge"], apart := false, laid := [("bytes.ErrTooLarge", laid_bytes_ErrTooLarge)], narrowed := true }
def ManifestBytesUptoSaid : Prop := manifestBytesUptoRow.holds Tryz.pinned (OpenSpec.upto manifestBytesSpec)

/-- 'joistlaw11.ManifestSaves', WHERE WHAT IT READS IS OF BULK AT MOST 1048576: true; the input reads as it did. -/
def manifestSavesUptoRow : OpenClaim := { program := "ytofkfafdodhmdaagreatdoor", sum := "48b17f88d16e0e810364c99069d1f46c3c11d2acbfa9618f9560a3c7d7919728", func := "joist/joistlaw11.ManifestSaves", spec := "manifestSaves", unfollowed := true, recurses := true, named := ["bytes.ErrTooLarge"], apart := false, laid := [("bytes.ErrTooLarge", laid_bytes_ErrTooLarge)], narrowed := true }
def ManifestSavesUptoSaid : Prop := manifestSavesUptoRow.holds Tryz.pinned (OpenSpec.upto manifestSavesSpec)

/-- 'joistlaw11.ManifestCrash', WHERE WHAT IT READS IS OF BULK AT MOST 1048576: true; the input reads as it did. -/
def manifestCrashUptoRow : OpenClaim := { program := "ytofkfafdodhmdaagreatdoor", sum := "48b17f88d16e0e810364c99069d1f46c3c11d2acbfa9618f9560a3c7d7919728", func := "joist/joistlaw11.ManifestCrash", spec := "manifestCrash", unfollowed := true, recurses := true, named := ["bytes.ErrTooLarge"], apart := false, laid := [("bytes.ErrTooLarge", laid_bytes_ErrTooLarge)], narrowed := true }
def ManifestCrashUptoSaid : Prop := manifestCrashUptoRow.holds Tryz.pinned (OpenSpec.upto manifestCrashSpec)

/-- 'joistlaw11.ManifestBits', WHERE WHAT IT READS IS OF BULK AT MOST 1048576: true; the input reads as it did. -/
def manifestBitsUptoRow : OpenClaim := { program := "ytofkfafdodhmdaagreatdoor", sum := "48b17f88d16e0e810364c99069d1f46c3c11d2acbfa9618f9560a3c7d7919728", func := "joist/joistlaw11.ManifestBits", spec := "manifestBits", unfollowed := true, recurses := true, named := ["bytes.ErrTooLarge"], apart := false, laid := [("bytes.ErrTooLarge", laid_bytes_ErrTooLarge)], narrowed := true }
def ManifestBitsUptoSaid : Prop := manifestBitsUptoRow.holds Tryz.pinned (OpenSpec.upto manifestBitsSpec)

end Rows
end Go.Proofs.YtofkfafdodhmdaaGreatDoor

/-
  NARROWER THAN 'FOR EVERY INPUT', by the rows' own cells (each row's printed sentence says how): PatternJoins: laid · PatternAll: laid · PatternLiterals: laid · PatternRelocates: laid · PatternReturns: laid · PatternOverlaps: laid.
  DERIVED. THE GIVEN ROWS OF THIS SEAT. 6 by the template 'for every input the law returns true; each argument reads behind the call as it read before'; 0 by the template 'total and deterministic' (their statements: YtmafefdchglpbabDoorTotals.lean).
  GIVEN WITH THE SEED: the statements are not yours to turn. If you find one false, say at which input.
  Laid BY PROGRAM, IN A SANDBOX (cutbox-rows.mjs): the forced cells as the released guide's own fill.sh prints them over the translation b6460711141fd31c… (all of the seat's roots in one cut). By AI agents, Wed Nov 11 2026. No macro, syntax, notation, axiom, sorry.
-/
import Derived.Test.YtmafefdchglpbabDoorChecked
import GoSem.PinnedTables
import GoSem.Claim
import GoSem.ClaimJoined
import GoSem.ClaimMapViews
import Derived.JoinedTies
import Derived.KernelRfl
namespace Go.Proofs.YtmafefdchglpbabDoor
/- THE CELL 'sum', in the pinned program and in every row, IS THE sha256 OF THE DUMP (.gsa) THAT YtmafefdchglpbabDoorProg.lean LOADS. Nothing in Lean hashes anything: it is a label: what it is worth is what the hold of that sum in a sandbox is worth. -/
noncomputable def Tryd.pinned : Pinned := { name := "ytmafefdchglpbabdoor", sum := "b6460711141fd31c503aea0b9f1f6db9ba9792feb0a45a6d36b073eb49c66fd7", checked := Tryd.checked }
namespace Rows
def none {H : Type} : Left H := { results := [], args := [] }

/- WHAT THE LISTED PACKAGE-LEVEL VARIABLES READ AS WHEN THE CALL BEGINS. Each datum BY PROGRAM (the guide's laid-datum.mjs) off the statement by which the dump's own 'gosem.cut.vars' lays the variable. In a bare row this is a premise. The card (YtmafefdchglpbabDoorCards.lean) ties it to the program's text. -/
def laid_unicode_utf8_acceptRanges {H : Type} : DataW H := .agg [.agg [.lit (.int .u8 128), .lit (.int .u8 191)], .agg [.lit (.int .u8 160), .lit (.int .u8 191)], .agg [.lit (.int .u8 128), .lit (.int .u8 159)], .agg [.lit (.int .u8 144), .lit (.int .u8 191)], .agg [.lit (.int .u8 128), .lit (.int .u8 143)], .agg [.lit (.int .u8 0), .lit (.int .u8 0)], .agg [.lit (.int .u8 0), .lit (.int .u8 0)], .agg [.lit (.int .u8 0), .lit (.int .u8 0)], .agg [.lit (.int .u8 0), .lit (.int .u8 0)], .agg [.lit (.int .u8 0), .lit (.int .u8 0)], .agg [.lit (.int .u8 0), .lit (.int .u8 0)], .agg [.lit (.int .u8 0), .lit (.int .u8 0)], .agg [.lit (.int .u8 0), .lit (.int .u8 0)], .agg [.lit (.int .u8 0), .lit (.int .u8 0)], .agg [.lit (.int .u8 0), .lit (.int .u8 0)], .agg [.lit (.int .u8 0), .lit (.int .u8 0)]]
/-- One of Go's own tables, pinned by name: the form's constant. -/
def laid_unicode_utf8_first : DataW Unit := Go.Pinned.utf8First

/-- 'admissionlaw03.PatternJoins': WHATEVER THE INPUT: true; the input reads as it did. -/
def patternJoinsSpec : ChangeSpec := { name := "patternJoins", fn := fun _ => fun
  | [d1, d2, d3] => { results := [.lit (.bool true)], args := [d1, d2, d3] }
  | _ => none }
def patternJoinsRow : OpenClaim := { program := "ytmafefdchglpbabdoor", sum := "b6460711141fd31c503aea0b9f1f6db9ba9792feb0a45a6d36b073eb49c66fd7", func := "admission/admissionlaw03.PatternJoins", spec := "patternJoins", inPlace := ["internal/bytealg.IndexByteString", "internal/bytealg.IndexString"], unfollowed := true, recurses := true, named := ["unicode/utf8.first", "unicode/utf8.acceptRanges", "internal/bytealg.MaxLen"], plainKeys := false, apart := false, laid := [("unicode/utf8.acceptRanges", laid_unicode_utf8_acceptRanges), ("unicode/utf8.first", laid_unicode_utf8_first)] }
def PatternJoinsSaid : Prop := patternJoinsRow.holds Tryd.pinned (OpenSpec.ofChange patternJoinsSpec)

/-- ITS FALSE NEIGHBOUR: 'it returns false'. Refute it at one input. -/
def patternJoinsWrong : ChangeSpec := { name := "patternJoins", fn := fun _ => fun
  | [d1, d2, d3] => { results := [.lit (.bool false)], args := [d1, d2, d3] }
  | _ => none }
def PatternJoinsWrongFalsely : Prop := patternJoinsRow.holds Tryd.pinned (OpenSpec.ofChange patternJoinsWrong)

/-- 'admissionlaw03.PatternAll': WHATEVER THE INPUT: true; the input reads as it did. -/
def patternAllSpec : ChangeSpec := { name := "patternAll", fn := fun _ => fun
  | [d] => { results := [.lit (.bool true)], args := [d] }
  | _ => none }
def patternAllRow : OpenClaim := { program := "ytmafefdchglpbabdoor", sum := "b6460711141fd31c503aea0b9f1f6db9ba9792feb0a45a6d36b073eb49c66fd7", func := "admission/admissionlaw03.PatternAll", spec := "patternAll", inPlace := ["internal/bytealg.IndexByteString", "internal/bytealg.IndexString"], unfollowed := true, recurses := true, named := ["unicode/utf8.first", "unicode/utf8.acceptRanges", "internal/bytealg.MaxLen"], plainKeys := false, apart := false, laid := [("unicode/utf8.acceptRanges", laid_unicode_utf8_acceptRanges), ("unicode/utf8.first", laid_unicode_utf8_first)] }
def PatternAllSaid : Prop := patternAllRow.holds Tryd.pinned (OpenSpec.ofChange patternAllSpec)

/-- ITS FALSE NEIGHBOUR: 'it returns false'. Refute it at one input. -/
def patternAllWrong : ChangeSpec := { name := "patternAll", fn := fun _ => fun
  | [d] => { results := [.lit (.bool false)], args := [d] }
  | _ => none }
def PatternAllWrongFalsely : Prop := patternAllRow.holds Tryd.pinned (OpenSpec.ofChange patternAllWrong)

/-- 'admissionlaw03.PatternLiterals': WHATEVER THE INPUT: true; the input reads as it did. -/
def patternLiteralsSpec : ChangeSpec := { name := "patternLiterals", fn := fun _ => fun
  | [d1, d2] => { results := [.lit (.bool true)], args := [d1, d2] }
  | _ => none }
def patternLiteralsRow : OpenClaim := { program := "ytmafefdchglpbabdoor", sum := "b6460711141fd31c503aea0b9f1f6db9ba9792feb0a45a6d36b073eb49c66fd7", func := "admission/admissionlaw03.PatternLiterals", spec := "patternLiterals", inPlace := ["internal/bytealg.IndexByteString", "internal/bytealg.IndexString", "internal/bytealg.CountString"], unfollowed := true, recurses := true, named := ["unicode/utf8.first", "unicode/utf8.acceptRanges", "internal/bytealg.MaxLen"], plainKeys := false, apart := false, laid := [("unicode/utf8.acceptRanges", laid_unicode_utf8_acceptRanges), ("unicode/utf8.first", laid_unicode_utf8_first)] }
def PatternLiteralsSaid : Prop := patternLiteralsRow.holds Tryd.pinned (OpenSpec.ofChange patternLiteralsSpec)

/-- ITS FALSE NEIGHBOUR: 'it returns false'. Refute it at one input. -/
def patternLiteralsWrong : ChangeSpec := { name := "patternLiterals", fn := fun _ => fun
  | [d1, d2] => { results := [.lit (.bool false)], args := [d1, d2] }
  | _ => none }
def PatternLiteralsWrongFalsely : Prop := patternLiteralsRow.holds Tryd.pinned (OpenSpec.ofChange patternLiteralsWrong)

/-- 'admissionlaw03.PatternRelocates': WHATEVER THE INPUT: true; the input reads as it did. -/
def patternRelocatesSpec : ChangeSpec := { name := "patternRelocates", fn := fun _ => fun
  | [d1, d2, d3] => { results := [.lit (.bool true)], args := [d1, d2, d3] }
  | _ => none }
def patternRelocatesRow : OpenClaim := { program := "ytmafefdchglpbabdoor", sum := "b6460711141fd31c503aea0b9f1f6db9ba9792feb0a45a6d36b073eb49c66fd7", func := "admission/admissionlaw03.PatternRelocates", spec := "patternRelocates", inPlace := ["internal/bytealg.IndexByteString", "internal/bytealg.IndexString", "internal/bytealg.CountString"], unfollowed := true, recurses := true, named := ["unicode/utf8.first", "unicode/utf8.acceptRanges", "internal/bytealg.MaxLen"], plainKeys := false, apart := false, laid := [("unicode/utf8.acceptRanges", laid_unicode_utf8_acceptRanges), ("unicode/utf8.first", laid_unicode_utf8_first)] }
def PatternRelocatesSaid : Prop := patternRelocatesRow.holds Tryd.pinned (OpenSpec.ofChange patternRelocatesSpec)

/-- ITS FALSE NEIGHBOUR: 'it returns false'. Refute it at one input. -/
def patternRelocatesWrong : ChangeSpec := { name := "patternRelocates", fn := fun _ => fun
  | [d1, d2, d3] => { results := [.lit (.bool false)], args := [d1, d2, d3] }
  | _ => none }
def PatternRelocatesWrongFalsely : Prop := patternRelocatesRow.holds Tryd.pinned (OpenSpec.ofChange patternRelocatesWrong)

/-- 'admissionlaw03.PatternReturns': WHATEVER THE INPUT: true; the input reads as it did. -/
def patternReturnsSpec : ChangeSpec := { name := "patternReturns", fn := fun _ => fun
  | [d1, d2, d3] => { results := [.lit (.bool true)], args := [d1, d2, d3] }
  | _ => none }
def patternReturnsRow : OpenClaim := { program := "ytmafefdchglpbabdoor", sum := "b6460711141fd31c503aea0b9f1f6db9ba9792feb0a45a6d36b073eb49c66fd7", func := "admission/admissionlaw03.PatternReturns", spec := "patternReturns", inPlace := ["internal/bytealg.IndexByteString", "internal/bytealg.IndexString"], unfollowed := true, recurses := true, named := ["unicode/utf8.first", "unicode/utf8.acceptRanges", "internal/bytealg.MaxLen"], plainKeys := false, apart := false, laid := [("unicode/utf8.acceptRanges", laid_unicode_utf8_acceptRanges), ("unicode/utf8.first", laid_unicode_utf8_first)] }
def PatternReturnsSaid : Prop := patternReturnsRow.holds Tryd.pinned (OpenSpec.ofChange patternReturnsSpec)

/-- ITS FALSE NEIGHBOUR: 'it returns false'. Refute it at one input. -/
def patternReturnsWrong : ChangeSpec := { name := "patternReturns", fn := fun _ => fun
  | [d1, d2, d3] => { results := [.lit (.bool false)], args := [d1, d2, d3] }
  | _ => none }
def PatternReturnsWrongFalsely : Prop := patternReturnsRow.holds Tryd.pinned (OpenSpec.ofChange patternReturnsWrong)

/-- 'admissionlaw03.PatternOverlaps': WHATEVER THE INPUT: true; the input reads as it did. -/
def patternOverlapsSpec : ChangeSpec := { name := "patternOverlaps", fn := fun _ => fun
  | [d1, d2] => { results := [.lit (.bool true)], args := [d1, d2] }
  | _ => none }
def patternOverlapsRow : OpenClaim := { program := "ytmafefdchglpbabdoor", sum := "b6460711141fd31c503aea0b9f1f6db9ba9792feb0a45a6d36b073eb49c66fd7", func := "admission/admissionlaw03.PatternOverlaps", spec := "patternOverlaps", inPlace := ["internal/bytealg.IndexByteString", "internal/bytealg.IndexString", "internal/bytealg.CountString"], unfollowed := true, recurses := true, named := ["internal/bytealg.MaxLen", "unicode/utf8.first", "unicode/utf8.acceptRanges"], plainKeys := false, apart := false, laid := [("unicode/utf8.acceptRanges", laid_unicode_utf8_acceptRanges), ("unicode/utf8.first", laid_unicode_utf8_first)] }
def PatternOverlapsSaid : Prop := patternOverlapsRow.holds Tryd.pinned (OpenSpec.ofChange patternOverlapsSpec)

/-- ITS FALSE NEIGHBOUR: 'it returns false'. Refute it at one input. -/
def patternOverlapsWrong : ChangeSpec := { name := "patternOverlaps", fn := fun _ => fun
  | [d1, d2] => { results := [.lit (.bool false)], args := [d1, d2] }
  | _ => none }
def PatternOverlapsWrongFalsely : Prop := patternOverlapsRow.holds Tryd.pinned (OpenSpec.ofChange patternOverlapsWrong)

/- THE SECOND FORM. 'bulk': how many values and letters a reading holds, each counted each time it is reached (what is shared counts as often as it is met; a slice's spare places count too). A statement '..UptoSaid' is the law's where the arguments, and the package variables that the reading takes, are together of bulk at most 1048576: NARROWER than '..Said'. Prove '..Said' where nothing that the law and all that it calls make is longer than what came in: it says more and counts as full. Else prove '..UptoSaid'. A law counts once. -/
mutual
def uptoBulk {H : Type} : DataW H → Nat
  | .lit (.string bytes) => bytes.length + 1
  | .lit _ => 1
  | .nil => 1
  | .ptr d => uptoBulk d + 1
  | .slice elems spare => uptoBulkAll elems + uptoBulkAll spare + 1
  | .agg parts => uptoBulkAll parts + 1
  | .iface _ d => uptoBulk d + 1
  | .map entries => uptoBulkEntries entries + 1
  | .held _ => 1
def uptoBulkAll {H : Type} : List (DataW H) → Nat
  | [] => 0
  | d :: r => uptoBulk d + uptoBulkAll r
def uptoBulkEntries {H : Type} : List (Lit × DataW H) → Nat
  | [] => 0
  | x :: r => uptoBulkEntry x + uptoBulkEntries r
def uptoBulkEntry {H : Type} : Lit × DataW H → Nat
  | (.string bytes, d) => bytes.length + uptoBulk d + 1
  | (_, d) => uptoBulk d + 1
 end
def uptoSmall : (H : Type) → List (DataW H) → Bool := fun _ ds => decide (uptoBulkAll ds ≤ 1048576)
def OpenSpec.upto (s : _root_.Go.ChangeSpec) : _root_.Go.OpenSpec := { _root_.Go.OpenSpec.ofChange s with cond := some uptoSmall }

/-- 'admissionlaw03.PatternJoins', WHERE WHAT IT READS IS OF BULK AT MOST 1048576: true; the input reads as it did. -/
def patternJoinsUptoRow : OpenClaim := { program := "ytmafefdchglpbabdoor", sum := "b6460711141fd31c503aea0b9f1f6db9ba9792feb0a45a6d36b073eb49c66fd7", func := "admission/admissionlaw03.PatternJoins", spec := "patternJoins", inPlace := ["internal/bytealg.IndexByteString", "internal/bytealg.IndexString"], unfollowed := true, recurses := true, named := ["unicode/utf8.first", "unicode/utf8.acceptRanges", "internal/bytealg.MaxLen"], plainKeys := false, apart := false, laid := [("unicode/utf8.acceptRanges", laid_unicode_utf8_acceptRanges), ("unicode/utf8.first", laid_unicode_utf8_first)], narrowed := true }
def PatternJoinsUptoSaid : Prop := patternJoinsUptoRow.holds Tryd.pinned (OpenSpec.upto patternJoinsSpec)

/-- 'admissionlaw03.PatternAll', WHERE WHAT IT READS IS OF BULK AT MOST 1048576: true; the input reads as it did. -/
def patternAllUptoRow : OpenClaim := { program := "ytmafefdchglpbabdoor", sum := "b6460711141fd31c503aea0b9f1f6db9ba9792feb0a45a6d36b073eb49c66fd7", func := "admission/admissionlaw03.PatternAll", spec := "patternAll", inPlace := ["internal/bytealg.IndexByteString", "internal/bytealg.IndexString"], unfollowed := true, recurses := true, named := ["unicode/utf8.first", "unicode/utf8.acceptRanges", "internal/bytealg.MaxLen"], plainKeys := false, apart := false, laid := [("unicode/utf8.acceptRanges", laid_unicode_utf8_acceptRanges), ("unicode/utf8.first", laid_unicode_utf8_first)], narrowed := true }
def PatternAllUptoSaid : Prop := patternAllUptoRow.holds Tryd.pinned (OpenSpec.upto patternAllSpec)

/-- 'admissionlaw03.PatternLiterals', WHERE WHAT IT READS IS OF BULK AT MOST 1048576: true; the input reads as it did. -/
def patternLiteralsUptoRow : OpenClaim := { program := "ytmafefdchglpbabdoor", sum := "b6460711141fd31c503aea0b9f1f6db9ba9792feb0a45a6d36b073eb49c66fd7", func := "admission/admissionlaw03.PatternLiterals", spec := "patternLiterals", inPlace := ["internal/bytealg.IndexByteString", "internal/bytealg.IndexString", "internal/bytealg.CountString"], unfollowed := true, recurses := true, named := ["unicode/utf8.first", "unicode/utf8.acceptRanges", "internal/bytealg.MaxLen"], plainKeys := false, apart := false, laid := [("unicode/utf8.acceptRanges", laid_unicode_utf8_acceptRanges), ("unicode/utf8.first", laid_unicode_utf8_first)], narrowed := true }
def PatternLiteralsUptoSaid : Prop := patternLiteralsUptoRow.holds Tryd.pinned (OpenSpec.upto patternLiteralsSpec)

/-- 'admissionlaw03.PatternRelocates', WHERE WHAT IT READS IS OF BULK AT MOST 1048576: true; the input reads as it did. -/
def patternRelocatesUptoRow : OpenClaim := { program := "ytmafefdchglpbabdoor", sum := "b6460711141fd31c503aea0b9f1f6db9ba9792feb0a45a6d36b073eb49c66fd7", func := "admission/admissionlaw03.PatternRelocates", spec := "patternRelocates", inPlace := ["internal/bytealg.IndexByteString", "internal/bytealg.IndexString", "internal/bytealg.CountString"], unfollowed := true, recurses := true, named := ["unicode/utf8.first", "unicode/utf8.acceptRanges", "internal/bytealg.MaxLen"], plainKeys := false, apart := false, laid := [("unicode/utf8.acceptRanges", laid_unicode_utf8_acceptRanges), ("unicode/utf8.first", laid_unicode_utf8_first)], narrowed := true }
def PatternRelocatesUptoSaid : Prop := patternRelocatesUptoRow.holds Tryd.pinned (OpenSpec.upto patternRelocatesSpec)

/-- 'admissionlaw03.PatternReturns', WHERE WHAT IT READS IS OF BULK AT MOST 1048576: true; the input reads as it did. -/
def patternReturnsUptoRow : OpenClaim := { program := "ytmafefdchglpbabdoor", sum := "b6460711141fd31c503aea0b9f1f6db9ba9792feb0a45a6d36b073eb49c66fd7", func := "admission/admissionlaw03.PatternReturns", spec := "patternReturns", inPlace := ["internal/bytealg.IndexByteString", "internal/bytealg.IndexString"], unfollowed := true, recurses := true, named := ["unicode/utf8.first", "unicode/utf8.acceptRanges", "internal/bytealg.MaxLen"], plainKeys := false, apart := false, laid := [("unicode/utf8.acceptRanges", laid_unicode_utf8_acceptRanges), ("unicode/utf8.first", laid_unicode_utf8_first)], narrowed := true }
def PatternReturnsUptoSaid : Prop := patternReturnsUptoRow.holds Tryd.pinned (OpenSpec.upto patternReturnsSpec)

/-- 'admissionlaw03.PatternOverlaps', WHERE WHAT IT READS IS OF BULK AT MOST 1048576: true; the input reads as it did. -/
def patternOverlapsUptoRow : OpenClaim := { program := "ytmafefdchglpbabdoor", sum := "b6460711141fd31c503aea0b9f1f6db9ba9792feb0a45a6d36b073eb49c66fd7", func := "admission/admissionlaw03.PatternOverlaps", spec := "patternOverlaps", inPlace := ["internal/bytealg.IndexByteString", "internal/bytealg.IndexString", "internal/bytealg.CountString"], unfollowed := true, recurses := true, named := ["internal/bytealg.MaxLen", "unicode/utf8.first", "unicode/utf8.acceptRanges"], plainKeys := false, apart := false, laid := [("unicode/utf8.acceptRanges", laid_unicode_utf8_acceptRanges), ("unicode/utf8.first", laid_unicode_utf8_first)], narrowed := true }
def PatternOverlapsUptoSaid : Prop := patternOverlapsUptoRow.holds Tryd.pinned (OpenSpec.upto patternOverlapsSpec)

end Rows
end Go.Proofs.YtmafefdchglpbabDoor

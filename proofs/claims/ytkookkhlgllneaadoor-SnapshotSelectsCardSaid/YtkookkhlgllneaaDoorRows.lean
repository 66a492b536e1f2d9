/-
  NARROWER THAN 'FOR EVERY INPUT', by the rows' own cells (each row's printed sentence says how): SnapshotMakes: laid · SnapshotInverse: laid · SnapshotChain: laid · SnapshotSelects: laid · SnapshotLines: laid · SnapshotRevisions: laid · PatternOverlaps: laid · PatternMeets: laid.
  DERIVED. THE GIVEN ROWS OF THIS SEAT. 8 by the template 'for every input the law returns true; each argument reads behind the call as it read before'; 0 by the template 'total and deterministic' (their statements: YtkookkhlgllneaaDoorTotals.lean).
  GIVEN WITH THE SEED: the statements are not yours to turn. If you find one false, say at which input.
  Laid BY PROGRAM, IN A SANDBOX (cutbox-rows.mjs): the forced cells as the released guide's own fill.sh prints them over the translation a236155dd2a23e16… (all of the seat's roots in one cut). By AI agents, Wed Nov 11 2026. No macro, syntax, notation, axiom, sorry.
-/
import Derived.Test.YtkookkhlgllneaaDoorChecked
import GoSem.PinnedTables
import GoSem.Claim
import GoSem.ClaimJoined
import GoSem.ClaimMapViews
import Derived.JoinedTies
import Derived.KernelRfl
namespace Go.Proofs.YtkookkhlgllneaaDoor
/- THE CELL 'sum', in the pinned program and in every row, IS THE sha256 OF THE DUMP (.gsa) THAT YtkookkhlgllneaaDoorProg.lean LOADS. Nothing in Lean hashes anything: it is a label: what it is worth is what the hold of that sum in a sandbox is worth. -/
noncomputable def Tryd.pinned : Pinned := { name := "ytkookkhlgllneaadoor", sum := "a236155dd2a23e168529a10adbe69c6e7745dd2f57586f76ed8d947d68e0bc42", checked := Tryd.checked }
namespace Rows
def none {H : Type} : Left H := { results := [], args := [] }

/- WHAT THE LISTED PACKAGE-LEVEL VARIABLES READ AS WHEN THE CALL BEGINS. Each datum BY PROGRAM (the guide's laid-datum.mjs) off the statement by which the dump's own 'gosem.cut.vars' lays the variable. In a bare row this is a premise. The card (YtkookkhlgllneaaDoorCards.lean) ties it to the program's text. -/
def laid_unicode_utf8_acceptRanges {H : Type} : DataW H := .agg [.agg [.lit (.int .u8 128), .lit (.int .u8 191)], .agg [.lit (.int .u8 160), .lit (.int .u8 191)], .agg [.lit (.int .u8 128), .lit (.int .u8 159)], .agg [.lit (.int .u8 144), .lit (.int .u8 191)], .agg [.lit (.int .u8 128), .lit (.int .u8 143)], .agg [.lit (.int .u8 0), .lit (.int .u8 0)], .agg [.lit (.int .u8 0), .lit (.int .u8 0)], .agg [.lit (.int .u8 0), .lit (.int .u8 0)], .agg [.lit (.int .u8 0), .lit (.int .u8 0)], .agg [.lit (.int .u8 0), .lit (.int .u8 0)], .agg [.lit (.int .u8 0), .lit (.int .u8 0)], .agg [.lit (.int .u8 0), .lit (.int .u8 0)], .agg [.lit (.int .u8 0), .lit (.int .u8 0)], .agg [.lit (.int .u8 0), .lit (.int .u8 0)], .agg [.lit (.int .u8 0), .lit (.int .u8 0)], .agg [.lit (.int .u8 0), .lit (.int .u8 0)]]
/-- One of Go's own tables, pinned by name: the form's constant. -/
def laid_unicode_utf8_first : DataW Unit := Go.Pinned.utf8First
def laid_admission_digest_roundConstants {H : Type} : DataW H := .agg [.lit (.int .u32 1116352408), .lit (.int .u32 1899447441), .lit (.int .u32 3049323471), .lit (.int .u32 3921009573), .lit (.int .u32 961987163), .lit (.int .u32 1508970993), .lit (.int .u32 2453635748), .lit (.int .u32 2870763221), .lit (.int .u32 3624381080), .lit (.int .u32 310598401), .lit (.int .u32 607225278), .lit (.int .u32 1426881987), .lit (.int .u32 1925078388), .lit (.int .u32 2162078206), .lit (.int .u32 2614888103), .lit (.int .u32 3248222580), .lit (.int .u32 3835390401), .lit (.int .u32 4022224774), .lit (.int .u32 264347078), .lit (.int .u32 604807628), .lit (.int .u32 770255983), .lit (.int .u32 1249150122), .lit (.int .u32 1555081692), .lit (.int .u32 1996064986), .lit (.int .u32 2554220882), .lit (.int .u32 2821834349), .lit (.int .u32 2952996808), .lit (.int .u32 3210313671), .lit (.int .u32 3336571891), .lit (.int .u32 3584528711), .lit (.int .u32 113926993), .lit (.int .u32 338241895), .lit (.int .u32 666307205), .lit (.int .u32 773529912), .lit (.int .u32 1294757372), .lit (.int .u32 1396182291), .lit (.int .u32 1695183700), .lit (.int .u32 1986661051), .lit (.int .u32 2177026350), .lit (.int .u32 2456956037), .lit (.int .u32 2730485921), .lit (.int .u32 2820302411), .lit (.int .u32 3259730800), .lit (.int .u32 3345764771), .lit (.int .u32 3516065817), .lit (.int .u32 3600352804), .lit (.int .u32 4094571909), .lit (.int .u32 275423344), .lit (.int .u32 430227734), .lit (.int .u32 506948616), .lit (.int .u32 659060556), .lit (.int .u32 883997877), .lit (.int .u32 958139571), .lit (.int .u32 1322822218), .lit (.int .u32 1537002063), .lit (.int .u32 1747873779), .lit (.int .u32 1955562222), .lit (.int .u32 2024104815), .lit (.int .u32 2227730452), .lit (.int .u32 2361852424), .lit (.int .u32 2428436474), .lit (.int .u32 2756734187), .lit (.int .u32 3204031479), .lit (.int .u32 3329325298)]

/-- 'admissionlaw04.SnapshotMakes': WHATEVER THE INPUT: true; the input reads as it did. -/
def snapshotMakesSpec : ChangeSpec := { name := "snapshotMakes", fn := fun _ => fun
  | [d1, d2] => { results := [.lit (.bool true)], args := [d1, d2] }
  | _ => none }
def snapshotMakesRow : OpenClaim := { program := "ytkookkhlgllneaadoor", sum := "a236155dd2a23e168529a10adbe69c6e7745dd2f57586f76ed8d947d68e0bc42", func := "admission/admissionlaw04.SnapshotMakes", spec := "snapshotMakes", inPlace := ["internal/bytealg.IndexByteString", "internal/bytealg.IndexString", "internal/bytealg.abigen_runtime_cmpstring", "internal/bytealg.CountString"], unfollowed := true, recurses := true, named := ["unicode/utf8.first", "unicode/utf8.acceptRanges", "internal/bytealg.MaxLen"], plainKeys := false, apart := false, laid := [("unicode/utf8.acceptRanges", laid_unicode_utf8_acceptRanges), ("unicode/utf8.first", laid_unicode_utf8_first)] }
def SnapshotMakesSaid : Prop := snapshotMakesRow.holds Tryd.pinned (OpenSpec.ofChange snapshotMakesSpec)

/-- ITS FALSE NEIGHBOUR: 'it returns false'. Refute it at one input. -/
def snapshotMakesWrong : ChangeSpec := { name := "snapshotMakes", fn := fun _ => fun
  | [d1, d2] => { results := [.lit (.bool false)], args := [d1, d2] }
  | _ => none }
def SnapshotMakesWrongFalsely : Prop := snapshotMakesRow.holds Tryd.pinned (OpenSpec.ofChange snapshotMakesWrong)

/-- 'admissionlaw04.SnapshotInverse': WHATEVER THE INPUT: true; the input reads as it did. -/
def snapshotInverseSpec : ChangeSpec := { name := "snapshotInverse", fn := fun _ => fun
  | [d] => { results := [.lit (.bool true)], args := [d] }
  | _ => none }
def snapshotInverseRow : OpenClaim := { program := "ytkookkhlgllneaadoor", sum := "a236155dd2a23e168529a10adbe69c6e7745dd2f57586f76ed8d947d68e0bc42", func := "admission/admissionlaw04.SnapshotInverse", spec := "snapshotInverse", inPlace := ["internal/bytealg.IndexByteString", "internal/bytealg.IndexString"], unfollowed := true, recurses := true, named := ["unicode/utf8.first", "unicode/utf8.acceptRanges", "internal/bytealg.MaxLen"], plainKeys := false, apart := false, laid := [("unicode/utf8.acceptRanges", laid_unicode_utf8_acceptRanges), ("unicode/utf8.first", laid_unicode_utf8_first)] }
def SnapshotInverseSaid : Prop := snapshotInverseRow.holds Tryd.pinned (OpenSpec.ofChange snapshotInverseSpec)

/-- ITS FALSE NEIGHBOUR: 'it returns false'. Refute it at one input. -/
def snapshotInverseWrong : ChangeSpec := { name := "snapshotInverse", fn := fun _ => fun
  | [d] => { results := [.lit (.bool false)], args := [d] }
  | _ => none }
def SnapshotInverseWrongFalsely : Prop := snapshotInverseRow.holds Tryd.pinned (OpenSpec.ofChange snapshotInverseWrong)

/-- 'admissionlaw04.SnapshotChain': WHATEVER THE INPUT: true; the input reads as it did. -/
def snapshotChainSpec : ChangeSpec := { name := "snapshotChain", fn := fun _ => fun
  | [d] => { results := [.lit (.bool true)], args := [d] }
  | _ => none }
def snapshotChainRow : OpenClaim := { program := "ytkookkhlgllneaadoor", sum := "a236155dd2a23e168529a10adbe69c6e7745dd2f57586f76ed8d947d68e0bc42", func := "admission/admissionlaw04.SnapshotChain", spec := "snapshotChain", inPlace := ["internal/bytealg.IndexByteString", "internal/bytealg.IndexString"], unfollowed := true, recurses := true, named := ["unicode/utf8.first", "unicode/utf8.acceptRanges", "internal/bytealg.MaxLen"], plainKeys := false, apart := false, laid := [("unicode/utf8.acceptRanges", laid_unicode_utf8_acceptRanges), ("unicode/utf8.first", laid_unicode_utf8_first)] }
def SnapshotChainSaid : Prop := snapshotChainRow.holds Tryd.pinned (OpenSpec.ofChange snapshotChainSpec)

/-- ITS FALSE NEIGHBOUR: 'it returns false'. Refute it at one input. -/
def snapshotChainWrong : ChangeSpec := { name := "snapshotChain", fn := fun _ => fun
  | [d] => { results := [.lit (.bool false)], args := [d] }
  | _ => none }
def SnapshotChainWrongFalsely : Prop := snapshotChainRow.holds Tryd.pinned (OpenSpec.ofChange snapshotChainWrong)

/-- 'admissionlaw04.SnapshotSelects': WHATEVER THE INPUT: true; the input reads as it did. -/
def snapshotSelectsSpec : ChangeSpec := { name := "snapshotSelects", fn := fun _ => fun
  | [d1, d2] => { results := [.lit (.bool true)], args := [d1, d2] }
  | _ => none }
def snapshotSelectsRow : OpenClaim := { program := "ytkookkhlgllneaadoor", sum := "a236155dd2a23e168529a10adbe69c6e7745dd2f57586f76ed8d947d68e0bc42", func := "admission/admissionlaw04.SnapshotSelects", spec := "snapshotSelects", inPlace := ["internal/bytealg.IndexByteString", "internal/bytealg.IndexString", "internal/bytealg.CountString"], unfollowed := true, recurses := true, named := ["unicode/utf8.first", "unicode/utf8.acceptRanges", "internal/bytealg.MaxLen"], plainKeys := false, apart := false, laid := [("unicode/utf8.acceptRanges", laid_unicode_utf8_acceptRanges), ("unicode/utf8.first", laid_unicode_utf8_first)] }
def SnapshotSelectsSaid : Prop := snapshotSelectsRow.holds Tryd.pinned (OpenSpec.ofChange snapshotSelectsSpec)

/-- ITS FALSE NEIGHBOUR: 'it returns false'. Refute it at one input. -/
def snapshotSelectsWrong : ChangeSpec := { name := "snapshotSelects", fn := fun _ => fun
  | [d1, d2] => { results := [.lit (.bool false)], args := [d1, d2] }
  | _ => none }
def SnapshotSelectsWrongFalsely : Prop := snapshotSelectsRow.holds Tryd.pinned (OpenSpec.ofChange snapshotSelectsWrong)

/-- 'admissionlaw04.SnapshotLines': WHATEVER THE INPUT: true; the input reads as it did. -/
def snapshotLinesSpec : ChangeSpec := { name := "snapshotLines", fn := fun _ => fun
  | [d1, d2, d3] => { results := [.lit (.bool true)], args := [d1, d2, d3] }
  | _ => none }
def snapshotLinesRow : OpenClaim := { program := "ytkookkhlgllneaadoor", sum := "a236155dd2a23e168529a10adbe69c6e7745dd2f57586f76ed8d947d68e0bc42", func := "admission/admissionlaw04.SnapshotLines", spec := "snapshotLines", inPlace := ["internal/bytealg.IndexByteString", "internal/bytealg.IndexString", "internal/bytealg.CountString"], unfollowed := true, recurses := true, named := ["unicode/utf8.first", "unicode/utf8.acceptRanges", "internal/bytealg.MaxLen"], plainKeys := false, apart := false, laid := [("unicode/utf8.acceptRanges", laid_unicode_utf8_acceptRanges), ("unicode/utf8.first", laid_unicode_utf8_first)] }
def SnapshotLinesSaid : Prop := snapshotLinesRow.holds Tryd.pinned (OpenSpec.ofChange snapshotLinesSpec)

/-- ITS FALSE NEIGHBOUR: 'it returns false'. Refute it at one input. -/
def snapshotLinesWrong : ChangeSpec := { name := "snapshotLines", fn := fun _ => fun
  | [d1, d2, d3] => { results := [.lit (.bool false)], args := [d1, d2, d3] }
  | _ => none }
def SnapshotLinesWrongFalsely : Prop := snapshotLinesRow.holds Tryd.pinned (OpenSpec.ofChange snapshotLinesWrong)

/-- 'admissionlaw04.SnapshotRevisions': WHATEVER THE INPUT: true; the input reads as it did. -/
def snapshotRevisionsSpec : ChangeSpec := { name := "snapshotRevisions", fn := fun _ => fun
  | [d1, d2] => { results := [.lit (.bool true)], args := [d1, d2] }
  | _ => none }
def snapshotRevisionsRow : OpenClaim := { program := "ytkookkhlgllneaadoor", sum := "a236155dd2a23e168529a10adbe69c6e7745dd2f57586f76ed8d947d68e0bc42", func := "admission/admissionlaw04.SnapshotRevisions", spec := "snapshotRevisions", inPlace := ["internal/bytealg.IndexByteString", "internal/bytealg.IndexString", "internal/bytealg.CountString"], unfollowed := true, recurses := true, named := ["unicode/utf8.first", "unicode/utf8.acceptRanges", "internal/bytealg.MaxLen", "admission/digest.roundConstants"], plainKeys := false, apart := false, laid := [("unicode/utf8.acceptRanges", laid_unicode_utf8_acceptRanges), ("admission/digest.roundConstants", laid_admission_digest_roundConstants), ("unicode/utf8.first", laid_unicode_utf8_first)] }
def SnapshotRevisionsSaid : Prop := snapshotRevisionsRow.holds Tryd.pinned (OpenSpec.ofChange snapshotRevisionsSpec)

/-- ITS FALSE NEIGHBOUR: 'it returns false'. Refute it at one input. -/
def snapshotRevisionsWrong : ChangeSpec := { name := "snapshotRevisions", fn := fun _ => fun
  | [d1, d2] => { results := [.lit (.bool false)], args := [d1, d2] }
  | _ => none }
def SnapshotRevisionsWrongFalsely : Prop := snapshotRevisionsRow.holds Tryd.pinned (OpenSpec.ofChange snapshotRevisionsWrong)

/-- 'admissionlaw03.PatternOverlaps': WHATEVER THE INPUT: true; the input reads as it did. -/
def patternOverlapsSpec : ChangeSpec := { name := "patternOverlaps", fn := fun _ => fun
  | [d1, d2] => { results := [.lit (.bool true)], args := [d1, d2] }
  | _ => none }
def patternOverlapsRow : OpenClaim := { program := "ytkookkhlgllneaadoor", sum := "a236155dd2a23e168529a10adbe69c6e7745dd2f57586f76ed8d947d68e0bc42", func := "admission/admissionlaw03.PatternOverlaps", spec := "patternOverlaps", inPlace := ["internal/bytealg.IndexByteString", "internal/bytealg.IndexString", "internal/bytealg.CountString"], unfollowed := true, recurses := true, named := ["internal/bytealg.MaxLen", "unicode/utf8.first", "unicode/utf8.acceptRanges"], plainKeys := false, apart := false, laid := [("unicode/utf8.acceptRanges", laid_unicode_utf8_acceptRanges), ("unicode/utf8.first", laid_unicode_utf8_first)] }
def PatternOverlapsSaid : Prop := patternOverlapsRow.holds Tryd.pinned (OpenSpec.ofChange patternOverlapsSpec)

/-- ITS FALSE NEIGHBOUR: 'it returns false'. Refute it at one input. -/
def patternOverlapsWrong : ChangeSpec := { name := "patternOverlaps", fn := fun _ => fun
  | [d1, d2] => { results := [.lit (.bool false)], args := [d1, d2] }
  | _ => none }
def PatternOverlapsWrongFalsely : Prop := patternOverlapsRow.holds Tryd.pinned (OpenSpec.ofChange patternOverlapsWrong)

/-- 'admissionlaw03.PatternMeets': WHATEVER THE INPUT: true; the input reads as it did. -/
def patternMeetsSpec : ChangeSpec := { name := "patternMeets", fn := fun _ => fun
  | [d1, d2, d3] => { results := [.lit (.bool true)], args := [d1, d2, d3] }
  | _ => none }
def patternMeetsRow : OpenClaim := { program := "ytkookkhlgllneaadoor", sum := "a236155dd2a23e168529a10adbe69c6e7745dd2f57586f76ed8d947d68e0bc42", func := "admission/admissionlaw03.PatternMeets", spec := "patternMeets", inPlace := ["internal/bytealg.IndexByteString", "internal/bytealg.IndexString"], unfollowed := true, recurses := true, named := ["unicode/utf8.first", "unicode/utf8.acceptRanges", "internal/bytealg.MaxLen"], plainKeys := false, apart := false, laid := [("unicode/utf8.acceptRanges", laid_unicode_utf8_acceptRanges), ("unicode/utf8.first", laid_unicode_utf8_first)] }
def PatternMeetsSaid : Prop := patternMeetsRow.holds Tryd.pinned (OpenSpec.ofChange patternMeetsSpec)

/-- ITS FALSE NEIGHBOUR: 'it returns false'. Refute it at one input. -/
def patternMeetsWrong : ChangeSpec := { name := "patternMeets", fn := fun _ => fun
  | [d1, d2, d3] => { results := [.lit (.bool false)], args := [d1, d2, d3] }
  | _ => none }
def PatternMeetsWrongFalsely : Prop := patternMeetsRow.holds Tryd.pinned (OpenSpec.ofChange patternMeetsWrong)

/- THE SECOND FORM. 'bulk': how many values and letters a reading holds, each counted each time it is reached (what is shared counts as often as it is met; a slice's spare places count too). A statement '..UptoSaid' is the law's where the arguments, and the package variables that the reading takes, are together of bulk at most 1048576: NARROWER than '..Said'. Prove '..Said' where nothing that the law and all that it calls make is longer than what came in: it says more and counts as full. Else prove '..UptoSaid'. A law counts once. -/
mutual
def uptoBulk {H : Type} : DataW H → Nat
  | .lit (.string bytes) => bytes.length + 1
  | .lit _ => 1
  | .nil => 1
  | .ptr d => uptoBulk d + 1
  | .slice elems spare => uptoBulkAll elems + uptoBulkAll spare + 1
  | .agg parts => uptoBulkAll parts + 1
  | .iface _ d => uptoBulk d + 1
  | .map entries => uptoBulkEntries entries + 1
  | .held _ => 1
def uptoBulkAll {H : Type} : List (DataW H) → Nat
  | [] => 0
  | d :: r => uptoBulk d + uptoBulkAll r
def uptoBulkEntries {H : Type} : List (Lit × DataW H) → Nat
  | [] => 0
  | x :: r => uptoBulkEntry x + uptoBulkEntries r
def uptoBulkEntry {H : Type} : Lit × DataW H → Nat
  | (.string bytes, d) => bytes.length + uptoBulk d + 1
  | (_, d) => uptoBulk d + 1
 end
def uptoSmall : (H : Type) → List (DataW H) → Bool := fun _ ds => decide (uptoBulkAll ds ≤ 1048576)
def OpenSpec.upto (s : _root_.Go.ChangeSpec) : _root_.Go.OpenSpec := { _root_.Go.OpenSpec.ofChange s with cond := some uptoSmall }

/-- 'admissionlaw04.SnapshotMakes', WHERE WHAT IT READS IS OF BULK AT MOST 1048576: true; the input reads as it did. -/
def snapshotMakesUptoRow : OpenClaim := { program := "ytkookkhlgllneaadoor", sum := "a236155dd2a23e168529a10adbe69c6e7745dd2f57586f76ed8d947d68e0bc42", func := "admission/admissionlaw04.SnapshotMakes", spec := "snapshotMakes", inPlace := ["internal/bytealg.IndexByteString", "internal/bytealg.IndexString", "internal/bytealg.abigen_runtime_cmpstring", "internal/bytealg.CountString"], unfollowed := true, recurses := true, named := ["unicode/utf8.first", "unicode/utf8.acceptRanges", "internal/bytealg.MaxLen"], plainKeys := false, apart := false, laid := [("unicode/utf8.acceptRanges", laid_unicode_utf8_acceptRanges), ("unicode/utf8.first", laid_unicode_utf8_first)], narrowed := true }
def SnapshotMakesUptoSaid : Prop := snapshotMakesUptoRow.holds Tryd.pinned (OpenSpec.upto snapshotMakesSpec)

/-- 'admissionlaw04.SnapshotInverse', WHERE WHAT IT READS IS OF BULK AT MOST 1048576: true; the input reads as it did. -/
def snapshotInverseUptoRow : OpenClaim := { program := "ytkookkhlgllneaadoor", sum := "a236155dd2a23e168529a10adbe69c6e7745dd2f57586f76ed8d947d68e0bc42", func := "admission/admissionlaw04.SnapshotInverse", spec := "snapshotInverse", inPlace := ["internal/bytealg.IndexByteString", "internal/bytealg.IndexString"], unfollowed := true, recurses := true, named := ["unicode/utf8.first", "unicode/utf8.acceptRanges", "internal/bytealg.MaxLen"], plainKeys := false, apart := false, laid := [("unicode/utf8.acceptRanges", laid_unicode_utf8_acceptRanges), ("unicode/utf8.first", laid_unicode_utf8_first)], narrowed := true }
def SnapshotInverseUptoSaid : Prop := snapshotInverseUptoRow.holds Tryd.pinned (OpenSpec.upto snapshotInverseSpec)

/-- 'admissionlaw04.SnapshotChain', WHERE WHAT IT READS IS OF BULK AT MOST 1048576: true; the input reads as it did. -/
def snapshotChainUptoRow : OpenClaim := { program := "ytkookkhlgllneaadoor", sum := "a236155dd2a23e168529a10adbe69c6e7745dd2f57586f76ed8d947d68e0bc42", func := "admission/admissionlaw04.SnapshotChain", spec := "snapshotChain", inPlace := ["internal/bytealg.IndexByteString", "internal/bytealg.IndexString"], unfollowed := true, recurses := true, named := ["unicode/utf8.first", "unicode/utf8.acceptRanges", "internal/bytealg.MaxLen"], plainKeys := false, apart := false, laid := [("unicode/utf8.acceptRanges", laid_unicode_utf8_acceptRanges), ("unicode/utf8.first", laid_unicode_utf8_first)], narrowed := true }
def SnapshotChainUptoSaid : Prop := snapshotChainUptoRow.holds Tryd.pinned (OpenSpec.upto snapshotChainSpec)

/-- 'admissionlaw04.SnapshotSelects', WHERE WHAT IT READS IS OF BULK AT MOST 1048576: true; the input reads as it did. -/
def snapshotSelectsUptoRow : OpenClaim := { program := "ytkookkhlgllneaadoor", sum := "a236155dd2a23e168529a10adbe69c6e7745dd2f57586f76ed8d947d68e0bc42", func := "admission/admissionlaw04.SnapshotSelects", spec := "snapshotSelects", inPlace := ["internal/bytealg.IndexByteString", "internal/bytealg.IndexString", "internal/bytealg.CountString"], unfollowed := true, recurses := true, named := ["unicode/utf8.first", "unicode/utf8.acceptRanges", "internal/bytealg.MaxLen"], plainKeys := false, apart := false, laid := [("unicode/utf8.acceptRanges", laid_unicode_utf8_acceptRanges), ("unicode/utf8.first", laid_unicode_utf8_first)], narrowed := true }
def SnapshotSelectsUptoSaid : Prop := snapshotSelectsUptoRow.holds Tryd.pinned (OpenSpec.upto snapshotSelectsSpec)

/-- 'admissionlaw04.SnapshotLines', WHERE WHAT IT READS IS OF BULK AT MOST 1048576: true; the input reads as it did. -/
def snapshotLinesUptoRow : OpenClaim := { program := "ytkookkhlgllneaadoor", sum := "a236155dd2a23e168529a10adbe69c6e7745dd2f57586f76ed8d947d68e0bc42", func := "admission/admissionlaw04.SnapshotLines", spec := "snapshotLines", inPlace := ["internal/bytealg.IndexByteString", "internal/bytealg.IndexString", "internal/bytealg.CountString"], unfollowed := true, recurses := true, named := ["unicode/utf8.first", "unicode/utf8.acceptRanges", "internal/bytealg.MaxLen"], plainKeys := false, apart := false, laid := [("unicode/utf8.acceptRanges", laid_unicode_utf8_acceptRanges), ("unicode/utf8.first", laid_unicode_utf8_first)], narrowed := true }
def SnapshotLinesUptoSaid : Prop := snapshotLinesUptoRow.holds Tryd.pinned (OpenSpec.upto snapshotLinesSpec)

/-- 'admissionlaw04.SnapshotRevisions', WHERE WHAT IT READS IS OF BULK AT MOST 1048576: true; the input reads as it did. -/
def snapshotRevisionsUptoRow : OpenClaim := { program := "ytkookkhlgllneaadoor", sum := "a236155dd2a23e168529a10adbe69c6e7745dd2f57586f76ed8d947d68e0bc42", func := "admission/admissionlaw04.SnapshotRevisions", spec := "snapshotRevisions", inPlace := ["internal/bytealg.IndexByteString", "internal/bytealg.IndexString", "internal/bytealg.CountString"], unfollowed := true, recurses := true, named := ["unicode/utf8.first", "unicode/utf8.acceptRanges", "internal/bytealg.MaxLen", "admission/digest.roundConstants"], plainKeys := false, apart := false, laid := [("unicode/utf8.acceptRanges", laid_unicode_utf8_acceptRanges), ("admission/digest.roundConstants", laid_admission_digest_roundConstants), ("unicode/utf8.first", laid_unicode_utf8_first)], narrowed := true }
def SnapshotRevisionsUptoSaid : Prop := snapshotRevisionsUptoRow.holds Tryd.pinned (OpenSpec.upto snapshotRevisionsSpec)

/-- 'admissionlaw03.PatternOverlaps', WHERE WHAT IT READS IS OF BULK AT MOST 1048576: true; the input reads as it did. -/
def patternOverlapsUptoRow : OpenClaim := { program := "ytkookkhlgllneaadoor", sum := "a236155dd2a23e168529a10adbe69c6e7745dd2f57586f76ed8d947d68e0bc42", func := "admission/admissionlaw03.PatternOverlaps", spec := "patternOverlaps", inPlace := ["internal/bytealg.IndexByteString", "internal/bytealg.IndexString", "internal/bytealg.CountString"], unfollowed := true, recurses := true, named := ["internal/bytealg.MaxLen", "unicode/utf8.first", "unicode/utf8.acceptRanges"], plainKeys := false, apart := false, laid := [("unicode/utf8.acceptRanges", laid_unicode_utf8_acceptRanges), ("unicode/utf8.first", laid_unicode_utf8_first)], narrowed := true }
def PatternOverlapsUptoSaid : Prop := patternOverlapsUptoRow.holds Tryd.pinned (OpenSpec.upto patternOverlapsSpec)

/-- 'admissionlaw03.PatternMeets', WHERE WHAT IT READS IS OF BULK AT MOST 1048576: true; the input reads as it did. -/
def patternMeetsUptoRow : OpenClaim := { program := "ytkookkhlgllneaadoor", sum := "a236155dd2a23e168529a10adbe69c6e7745dd2f57586f76ed8d947d68e0bc42", func := "admission/admissionlaw03.PatternMeets", spec := "patternMeets", inPlace := ["internal/bytealg.IndexByteString", "internal/bytealg.IndexString"], unfollowed := true, recurses := true, named := ["unicode/utf8.first", "unicode/utf8.acceptRanges", "internal/bytealg.MaxLen"], plainKeys := false, apart := false, laid := [("unicode/utf8.acceptRanges", laid_unicode_utf8_acceptRanges), ("unicode/utf8.first", laid_unicode_utf8_first)], narrowed := true }
def PatternMeetsUptoSaid : Prop := patternMeetsUptoRow.holds Tryd.pinned (OpenSpec.upto patternMeetsSpec)

end Rows
end Go.Proofs.YtkookkhlgllneaaDoor

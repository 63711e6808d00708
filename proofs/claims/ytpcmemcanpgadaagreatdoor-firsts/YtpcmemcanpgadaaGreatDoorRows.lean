/-
  NARROWER THAN 'FOR EVERY INPUT', by the rows' own cells (each row's printed sentence says how): Compiles: laid · Rules: laid · Firsts: laid · Follows: laid · Refuses: laid.
  DERIVED. THE GIVEN ROWS OF THIS SEAT. 5 by the template 'for every input the law returns true; each argument reads behind the call as it read before'; 0 by the template 'total and deterministic' (their statements: YtpcmemcanpgadaaGreatDoorTotals.lean).
  GIVEN WITH THE SEED: the statements are not yours to turn. If you find one false, say at which input.
  Laid BY PROGRAM, IN A SANDBOX (cutbox-rows.mjs): the forced cells as the released guide's own fill.sh prints them over the translation 65dd0b17109ed1aa… (all of the seat's roots in one cut). By AI agents, Wed Nov 11 2026. No macro, syntax, notation, axiom, sorry.
-/
import Derived.Test.YtpcmemcanpgadaaGreatDoorChecked
import GoSem.PinnedTables
import GoSem.Claim
import GoSem.ClaimJoined
import GoSem.ClaimMapViews
import Derived.JoinedTies
import Derived.KernelRfl
namespace Go.Proofs.YtpcmemcanpgadaaGreatDoor
/- THE CELL 'sum', in the pinned program and in every row, IS THE sha256 OF THE DUMP (.gsa) THAT YtpcmemcanpgadaaGreatDoorProg.lean LOADS. Nothing in Lean hashes anything: it is a label: what it is worth is what the hold of that sum in a sandbox is worth. -/
noncomputable def Tryz.pinned : Pinned := { name := "ytpcmemcanpgadaagreatdoor", sum := "65dd0b17109ed1aa29a6290b253cda39d46de0e6abad23c329834c8a9253ccf9", checked := Tryz.checked }
namespace Rows
def none {H : Type} : Left H := { results := [], args := [] }

/- WHAT THE LISTED PACKAGE-LEVEL VARIABLES READ AS WHEN THE CALL BEGINS. Each datum BY PROGRAM (the guide's laid-datum.mjs) off the statement by which the dump's own 'gosem.cut.vars' lays the variable. In a bare row this is a premise. The card (YtpcmemcanpgadaaGreatDoorCards.lean) ties it to the program's text. -/
def laid_unicode_utf8_acceptRanges {H : Type} : DataW H := .agg [.agg [.lit (.int .u8 128), .lit (.int .u8 191)], .agg [.lit (.int .u8 160), .lit (.int .u8 191)], .agg [.lit (.int .u8 128), .lit (.int .u8 159)], .agg [.lit (.int .u8 144), .lit (.int .u8 191)], .agg [.lit (.int .u8 128), .lit (.int .u8 143)], .agg [.lit (.int .u8 0), .lit (.int .u8 0)], .agg [.lit (.int .u8 0), .lit (.int .u8 0)], .agg [.lit (.int .u8 0), .lit (.int .u8 0)], .agg [.lit (.int .u8 0), .lit (.int .u8 0)], .agg [.lit (.int .u8 0), .lit (.int .u8 0)], .agg [.lit (.int .u8 0), .lit (.int .u8 0)], .agg [.lit (.int .u8 0), .lit (.int .u8 0)], .agg [.lit (.int .u8 0), .lit (.int .u8 0)], .agg [.lit (.int .u8 0), .lit (.int .u8 0)], .agg [.lit (.int .u8 0), .lit (.int .u8 0)], .agg [.lit (.int .u8 0), .lit (.int .u8 0)]]
def laid_errors_errorType {H : Type} : DataW H := .iface "internal/reflectlite.rtype" (.agg [.ptr (.lit (.string [101, 114, 114, 111, 114]))])
def laid_predict_api_ErrLong {H : Type} : DataW H := .iface "*errors.errorString" (.ptr (.agg [.lit (.string [116, 111, 111, 32, 108, 111, 110, 103])]))
def laid_predict_api_ErrEmpty {H : Type} : DataW H := .iface "*errors.errorString" (.ptr (.agg [.lit (.string [110, 111, 32, 114, 117, 108, 101])]))
def laid_predict_api_ErrMany {H : Type} : DataW H := .iface "*errors.errorString" (.ptr (.agg [.lit (.string [116, 111, 111, 32, 109, 97, 110, 121, 32, 114, 117, 108, 101, 115])]))
def laid_predict_api_ErrRule {H : Type} : DataW H := .iface "*errors.errorString" (.ptr (.agg [.lit (.string [110, 111, 32, 115, 117, 99, 104, 32, 114, 117, 108, 101])]))
def laid_predict_api_ErrEnd {H : Type} : DataW H := .iface "*errors.errorString" (.ptr (.agg [.lit (.string [116, 104, 101, 32, 105, 110, 112, 117, 116, 32, 101, 110, 100, 115, 32, 116, 111, 111, 32, 115, 111, 111, 110])]))
def laid_predict_api_ErrUnknown {H : Type} : DataW H := .iface "*errors.errorString" (.ptr (.agg [.lit (.string [97, 32, 119, 111, 114, 100, 32, 111, 102, 32, 110, 111, 32, 114, 117, 108, 101])]))
/-- One of Go's own tables, pinned by name: the form's constant. -/
def laid_unicode_utf8_first : DataW Unit := Go.Pinned.utf8First

/-- 'predictlaw.Compiles': WHATEVER THE INPUT: true; the input reads as it did. -/
def compilesSpec : ChangeSpec := { name := "compiles", fn := fun _ => fun
  | [d] => { results := [.lit (.bool true)], args := [d] }
  | _ => none }
def compilesRow : OpenClaim := { program := "ytpcmemcanpgadaagreatdoor", sum := "65dd0b17109ed1aa29a6290b253cda39d46de0e6abad23c329834c8a9253ccf9", func := "predict/predictlaw.Compiles", spec := "compiles", inPlace := ["internal/bytealg.IndexByteString", "internal/bytealg.IndexString", "internal/reflectlite.ValueOf", "(internal/reflectlite.Value).Type", "(internal/reflectlite.Value).IsNil", "internal/reflectlite.TypeOf", "(internal/reflectlite.Value).Elem", "(internal/reflectlite.Value).Set"], unfollowed := true, recurses := true, named := ["predict/api.ErrLong", "unicode/utf8.first", "unicode/utf8.acceptRanges", "predict/api.ErrEmpty", "predict/api.ErrMany", "predict/api.ErrEnd", "predict/api.ErrUnknown", "predict/api.ErrRule", "errors.errorType", "internal/bytealg.MaxLen"], apart := false, laid := [("unicode/utf8.acceptRanges", laid_unicode_utf8_acceptRanges), ("errors.errorType", laid_errors_errorType), ("predict/api.ErrLong", laid_predict_api_ErrLong), ("predict/api.ErrEmpty", laid_predict_api_ErrEmpty), ("predict/api.ErrMany", laid_predict_api_ErrMany), ("predict/api.ErrRule", laid_predict_api_ErrRule), ("predict/api.ErrEnd", laid_predict_api_ErrEnd), ("predict/api.ErrUnknown", laid_predict_api_ErrUnknown), ("unicode/utf8.first", laid_unicode_utf8_first)] }
def CompilesSaid : Prop := compilesRow.holds Tryz.pinned (OpenSpec.ofChange compilesSpec)

/-- ITS FALSE NEIGHBOUR: 'it returns false'. Refute it at one input. -/
def compilesWrong : ChangeSpec := { name := "compiles", fn := fun _ => fun
  | [d] => { results := [.lit (.bool false)], args := [d] }
  | _ => none }
def CompilesWrongFalsely : Prop := compilesRow.holds Tryz.pinned (OpenSpec.ofChange compilesWrong)

/-- 'predictlaw.Rules': WHATEVER THE INPUT: true; the input reads as it did. -/
def rulesSpec : ChangeSpec := { name := "rules", fn := fun _ => fun
  | [d1, d2] => { results := [.lit (.bool true)], args := [d1, d2] }
  | _ => none }
def rulesRow : OpenClaim := { program := "ytpcmemcanpgadaagreatdoor", sum := "65dd0b17109ed1aa29a6290b253cda39d46de0e6abad23c329834c8a9253ccf9", func := "predict/predictlaw.Rules", spec := "rules", inPlace := ["internal/bytealg.IndexByteString", "internal/bytealg.IndexString", "internal/reflectlite.ValueOf", "(internal/reflectlite.Value).Type", "(internal/reflectlite.Value).IsNil", "internal/reflectlite.TypeOf", "(internal/reflectlite.Value).Elem", "(internal/reflectlite.Value).Set"], unfollowed := true, recurses := true, named := ["predict/api.ErrLong", "unicode/utf8.first", "unicode/utf8.acceptRanges", "predict/api.ErrEmpty", "predict/api.ErrMany", "predict/api.ErrEnd", "predict/api.ErrUnknown", "predict/api.ErrRule", "errors.errorType", "internal/bytealg.MaxLen"], apart := false, laid := [("unicode/utf8.acceptRanges", laid_unicode_utf8_acceptRanges), ("errors.errorType", laid_errors_errorType), ("predict/api.ErrLong", laid_predict_api_ErrLong), ("predict/api.ErrEmpty", laid_predict_api_ErrEmpty), ("predict/api.ErrMany", laid_predict_api_ErrMany), ("predict/api.ErrRule", laid_predict_api_ErrRule), ("predict/api.ErrEnd", laid_predict_api_ErrEnd), ("predict/api.ErrUnknown", laid_predict_api_ErrUnknown), ("unicode/utf8.first", laid_unicode_utf8_first)] }
def RulesSaid : Prop := rulesRow.holds Tryz.pinned (OpenSpec.ofChange rulesSpec)

/-- ITS FALSE NEIGHBOUR: 'it returns false'. Refute it at one input. -/
def rulesWrong : ChangeSpec := { name := "rules", fn := fun _ => fun
  | [d1, d2] => { results := [.lit (.bool false)], args := [d1, d2] }
  | _ => none }
def RulesWrongFalsely : Prop := rulesRow.holds Tryz.pinned (OpenSpec.ofChange rulesWrong)

/-- 'predictlaw.Firsts': WHATEVER THE INPUT: true; the input reads as it did. -/
def firstsSpec : ChangeSpec := { name := "firsts", fn := fun _ => fun
  | [d1, d2] => { results := [.lit (.bool true)], args := [d1, d2] }
  | _ => none }
def firstsRow : OpenClaim := { program := "ytpcmemcanpgadaagreatdoor", sum := "65dd0b17109ed1aa29a6290b253cda39d46de0e6abad23c329834c8a9253ccf9", func := "predict/predictlaw.Firsts", spec := "firsts", inPlace := ["internal/bytealg.IndexByteString", "internal/bytealg.IndexString", "internal/reflectlite.ValueOf", "(internal/reflectlite.Value).Type", "(internal/reflectlite.Value).IsNil", "internal/reflectlite.TypeOf", "(internal/reflectlite.Value).Elem", "(internal/reflectlite.Value).Set", "maps.clone"], unfollowed := true, recurses := true, named := ["predict/api.ErrLong", "unicode/utf8.first", "unicode/utf8.acceptRanges", "predict/api.ErrEmpty", "predict/api.ErrMany", "predict/api.ErrEnd", "predict/api.ErrUnknown", "predict/api.ErrRule", "errors.errorType", "internal/bytealg.MaxLen"], apart := false, laid := [("unicode/utf8.acceptRanges", laid_unicode_utf8_acceptRanges), ("errors.errorType", laid_errors_errorType), ("predict/api.ErrLong", laid_predict_api_ErrLong), ("predict/api.ErrEmpty", laid_predict_api_ErrEmpty), ("predict/api.ErrMany", laid_predict_api_ErrMany), ("predict/api.ErrRule", laid_predict_api_ErrRule), ("predict/api.ErrEnd", laid_predict_api_ErrEnd), ("predict/api.ErrUnknown", laid_predict_api_ErrUnknown), ("unicode/utf8.first", laid_unicode_utf8_first)] }
def FirstsSaid : Prop := firstsRow.holds Tryz.pinned (OpenSpec.ofChange firstsSpec)

/-- ITS FALSE NEIGHBOUR: 'it returns false'. Refute it at one input. -/
def firstsWrong : ChangeSpec := { name := "firsts", fn := fun _ => fun
  | [d1, d2] => { results := [.lit (.bool false)], args := [d1, d2] }
  | _ => none }
def FirstsWrongFalsely : Prop := firstsRow.holds Tryz.pinned (OpenSpec.ofChange firstsWrong)

/-- 'predictlaw.Follows': WHATEVER THE INPUT: true; the input reads as it did. -/
def followsSpec : ChangeSpec := { name := "follows", fn := fun _ => fun
  | [d1, d2] => { results := [.lit (.bool true)], args := [d1, d2] }
  | _ => none }
def followsRow : OpenClaim := { program := "ytpcmemcanpgadaagreatdoor", sum := "65dd0b17109ed1aa29a6290b253cda39d46de0e6abad23c329834c8a9253ccf9", func := "predict/predictlaw.Follows", spec := "follows", inPlace := ["internal/bytealg.IndexByteString", "internal/bytealg.IndexString", "internal/reflectlite.ValueOf", "(internal/reflectlite.Value).Type", "(internal/reflectlite.Value).IsNil", "internal/reflectlite.TypeOf", "(internal/reflectlite.Value).Elem", "(internal/reflectlite.Value).Set", "maps.clone"], unfollowed := true, recurses := true, named := ["predict/api.ErrLong", "unicode/utf8.first", "unicode/utf8.acceptRanges", "predict/api.ErrEmpty", "predict/api.ErrMany", "predict/api.ErrEnd", "predict/api.ErrUnknown", "predict/api.ErrRule", "errors.errorType", "internal/bytealg.MaxLen"], apart := false, laid := [("unicode/utf8.acceptRanges", laid_unicode_utf8_acceptRanges), ("errors.errorType", laid_errors_errorType), ("predict/api.ErrLong", laid_predict_api_ErrLong), ("predict/api.ErrEmpty", laid_predict_api_ErrEmpty), ("predict/api.ErrMany", laid_predict_api_ErrMany), ("predict/api.ErrRule", laid_predict_api_ErrRule), ("predict/api.ErrEnd", laid_predict_api_ErrEnd), ("predict/api.ErrUnknown", laid_predict_api_ErrUnknown), ("unicode/utf8.first", laid_unicode_utf8_first)] }
def FollowsSaid : Prop := followsRow.holds Tryz.pinned (OpenSpec.ofChange followsSpec)

/-- ITS FALSE NEIGHBOUR: 'it returns false'. Refute it at one input. -/
def followsWrong : ChangeSpec := { name := "follows", fn := fun _ => fun
  | [d1, d2] => { results := [.lit (.bool false)], args := [d1, d2] }
  | _ => none }
def FollowsWrongFalsely : Prop := followsRow.holds Tryz.pinned (OpenSpec.ofChange followsWrong)

/-- 'predictkeep.Refuses': WHATEVER THE INPUT: true; the input reads as it did. -/
def refusesSpec : ChangeSpec := { name := "refuses", fn := fun _ => fun
  | [d] => { results := [.lit (.bool true)], args := [d] }
  | _ => none }
def refusesRow : OpenClaim := { program := "ytpcmemcanpgadaagreatdoor", sum := "65dd0b17109ed1aa29a6290b253cda39d46de0e6abad23c329834c8a9253ccf9", func := "predict/predictkeep.Refuses", spec := "refuses", inPlace := ["internal/bytealg.IndexByteString", "internal/bytealg.IndexString", "internal/reflectlite.ValueOf", "(internal/reflectlite.Value).Type", "(internal/reflectlite.Value).IsNil", "internal/reflectlite.TypeOf", "(internal/reflectlite.Value).Elem", "(internal/reflectlite.Value).Set"], unfollowed := true, recurses := true, named := ["predict/api.ErrLong", "unicode/utf8.first", "unicode/utf8.acceptRanges", "predict/api.ErrEmpty", "predict/api.ErrMany", "predict/api.ErrEnd", "predict/api.ErrUnknown", "predict/api.ErrRule", "errors.errorType", "internal/bytealg.MaxLen"], apart := false, laid := [("unicode/utf8.acceptRanges", laid_unicode_utf8_acceptRanges), ("errors.errorType", laid_errors_errorType), ("predict/api.ErrLong", laid_predict_api_ErrLong), ("predict/api.ErrEmpty", laid_predict_api_ErrEmpty), ("predict/api.ErrMany", laid_predict_api_ErrMany), ("predict/api.ErrRule", laid_predict_api_ErrRule), ("predict/api.ErrEnd", laid_predict_api_ErrEnd), ("predict/api.ErrUnknown", laid_predict_api_ErrUnknown), ("unicode/utf8.first", laid_unicode_utf8_first)] }
def RefusesSaid : Prop := refusesRow.holds Tryz.pinned (OpenSpec.ofChange refusesSpec)

/-- ITS FALSE NEIGHBOUR: 'it returns false'. Refute it at one input. -/
def refusesWrong : ChangeSpec := { name := "refuses", fn := fun _ => fun
  | [d] => { results := [.lit (.bool false)], args := [d] }
  | _ => none }
def RefusesWrongFalsely : Prop := refusesRow.holds Tryz.pinned (OpenSpec.ofChange refusesWrong)

/- THE SECOND FORM. 'bulk': how many values and letters a reading holds, each counted each time it is reached (what is shared counts as often as it is met; a slice's spare places count too). A statement '..UptoSaid' is the law's where the arguments, and the package variables that the reading takes, are together of bulk at most 1048576: NARROWER than '..Said'. Prove '..Said' where nothing that the law and all that it calls make is longer than what came in: it says more and counts as full. Else prove '..UptoSaid'. A law counts once. -/
mutual
def uptoBulk {H : Type} : DataW H → Nat
  | .lit (.string bytes) => bytes.length + 1
  | .lit _ => 1
  | .nil => 1
  | .ptr d => uptoBulk d + 1
  | .slice elems spare => uptoBulkAll elems + uptoBulkAll spare + 1
  | .agg parts => uptoBulkAll parts + 1
  | .iface _ d => uptoBulk d + 1
  | .map entries => uptoBulkEntries entries + 1
  | .held _ => 1
def uptoBulkAll {H : Type} : List (DataW H) → Nat
  | [] => 0
  | d :: r => uptoBulk d + uptoBulkAll r
def uptoBulkEntries {H : Type} : List (Lit × DataW H) → Nat
  | [] => 0
  | x :: r => uptoBulkEntry x + uptoBulkEntries r
def uptoBulkEntry {H : Type} : Lit × DataW H → Nat
  | (.string bytes, d) => bytes.length + uptoBulk d + 1
  | (_, d) => uptoBulk d + 1
 end
def uptoSmall : (H : Type) → List (DataW H) → Bool := fun _ ds => decide (uptoBulkAll ds ≤ 1048576)
def OpenSpec.upto (s : _root_.Go.ChangeSpec) : _root_.Go.OpenSpec := { _root_.Go.OpenSpec.ofChange s with cond := some uptoSmall }

/-- 'predictlaw.Compiles', WHERE WHAT IT READS IS OF BULK AT MOST 1048576: true; the input reads as it did. -/
def compilesUptoRow : OpenClaim := { program := "ytpcmemcanpgadaagreatdoor", sum := "65dd0b17109ed1aa29a6290b253cda39d46de0e6abad23c329834c8a9253ccf9", func := "predict/predictlaw.Compiles", spec := "compiles", inPlace := ["internal/bytealg.IndexByteString", "internal/bytealg.IndexString", "internal/reflectlite.ValueOf", "(internal/reflectlite.Value).Type", "(internal/reflectlite.Value).IsNil", "internal/reflectlite.TypeOf", "(internal/reflectlite.Value).Elem", "(internal/reflectlite.Value).Set"], unfollowed := true, recurses := true, named := ["predict/api.ErrLong", "unicode/utf8.first", "unicode/utf8.acceptRanges", "predict/api.ErrEmpty", "predict/api.ErrMany", "predict/api.ErrEnd", "predict/api.ErrUnknown", "predict/api.ErrRule", "errors.errorType", "internal/bytealg.MaxLen"], apart := false, laid := [("unicode/utf8.acceptRanges", laid_unicode_utf8_acceptRanges), ("errors.errorType", laid_errors_errorType), ("predict/api.ErrLong", laid_predict_api_ErrLong), ("predict/api.ErrEmpty", laid_predict_api_ErrEmpty), ("predict/api.ErrMany", laid_predict_api_ErrMany), ("predict/api.ErrRule", laid_predict_api_ErrRule), ("predict/api.ErrEnd", laid_predict_api_ErrEnd), ("predict/api.ErrUnknown", laid_predict_api_ErrUnknown), ("unicode/utf8.first", laid_unicode_utf8_first)], narrowed := true }
def CompilesUptoSaid : Prop := compilesUptoRow.holds Tryz.pinned (OpenSpec.upto compilesSpec)

/-- 'predictlaw.Rules', WHERE WHAT IT READS IS OF BULK AT MOST 1048576: true; the input reads as it did. -/
def rulesUptoRow : OpenClaim := { program := "ytpcmemcanpgadaagreatdoor", sum := "65dd0b17109ed1aa29a6290b253cda39d46de0e6abad23c329834c8a9253ccf9", func := "predict/predictlaw.Rules", spec := "rules", inPlace := ["internal/bytealg.IndexByteString", "internal/bytealg.IndexString", "internal/reflectlite.ValueOf", "(internal/reflectlite.Value).Type", "(internal/reflectlite.Value).IsNil", "internal/reflectlite.TypeOf", "(internal/reflectlite.Value).Elem", "(internal/reflectlite.Value).Set"], unfollowed := true, recurses := true, named := ["predict/api.ErrLong", "unicode/utf8.first", "unicode/utf8.acceptRanges", "predict/api.ErrEmpty", "predict/api.ErrMany", "predict/api.ErrEnd", "predict/api.ErrUnknown", "predict/api.ErrRule", "errors.errorType", "internal/bytealg.MaxLen"], apart := false, laid := [("unicode/utf8.acceptRanges", laid_unicode_utf8_acceptRanges), ("errors.errorType", laid_errors_errorType), ("predict/api.ErrLong", laid_predict_api_ErrLong), ("predict/api.ErrEmpty", laid_predict_api_ErrEmpty), ("predict/api.ErrMany", laid_predict_api_ErrMany), ("predict/api.ErrRule", laid_predict_api_ErrRule), ("predict/api.ErrEnd", laid_predict_api_ErrEnd), ("predict/api.ErrUnknown", laid_predict_api_ErrUnknown), ("unicode/utf8.first", laid_unicode_utf8_first)], narrowed := true }
def RulesUptoSaid : Prop := rulesUptoRow.holds Tryz.pinned (OpenSpec.upto rulesSpec)

/-- 'predictlaw.Firsts', WHERE WHAT IT READS IS OF BULK AT MOST 1048576: true; the input reads as it did. -/
def firstsUptoRow : OpenClaim := { program := "ytpcmemcanpgadaagreatdoor", sum := "65dd0b17109ed1aa29a6290b253cda39d46de0e6abad23c329834c8a9253ccf9", func := "predict/predictlaw.Firsts", spec := "firsts", inPlace := ["internal/bytealg.IndexByteString", "internal/bytealg.IndexString", "internal/reflectlite.ValueOf", "(internal/reflectlite.Value).Type", "(internal/reflectlite.Value).IsNil", "internal/reflectlite.TypeOf", "(internal/reflectlite.Value).Elem", "(internal/reflectlite.Value).Set", "maps.clone"], unfollowed := true, recurses := true, named := ["predict/api.ErrLong", "unicode/utf8.first", "unicode/utf8.acceptRanges", "predict/api.ErrEmpty", "predict/api.ErrMany", "predict/api.ErrEnd", "predict/api.ErrUnknown", "predict/api.ErrRule", "errors.errorType", "internal/bytealg.MaxLen"], apart := false, laid := [("unicode/utf8.acceptRanges", laid_unicode_utf8_acceptRanges), ("errors.errorType", laid_errors_errorType), ("predict/api.ErrLong", laid_predict_api_ErrLong), ("predict/api.ErrEmpty", laid_predict_api_ErrEmpty), ("predict/api.ErrMany", laid_predict_api_ErrMany), ("predict/api.ErrRule", laid_predict_api_ErrRule), ("predict/api.ErrEnd", laid_predict_api_ErrEnd), ("predict/api.ErrUnknown", laid_predict_api_ErrUnknown), ("unicode/utf8.first", laid_unicode_utf8_first)], narrowed := true }
def FirstsUptoSaid : Prop := firstsUptoRow.holds Tryz.pinned (OpenSpec.upto firstsSpec)

/-- 'predictlaw.Follows', WHERE WHAT IT READS IS OF BULK AT MOST 1048576: true; the input reads as it did. -/
def followsUptoRow : OpenClaim := { program := "ytpcmemcanpgadaagreatdoor", sum := "65dd0b17109ed1aa29a6290b253cda39d46de0e6abad23c329834c8a9253ccf9", func := "predict/predictlaw.Follows", spec := "follows", inPlace := ["internal/bytealg.IndexByteString", "internal/bytealg.IndexString", "internal/reflectlite.ValueOf", "(internal/reflectlite.Value).Type", "(internal/reflectlite.Value).IsNil", "internal/reflectlite.TypeOf", "(internal/reflectlite.Value).Elem", "(internal/reflectlite.Value).Set", "maps.clone"], unfollowed := true, recurses := true, named := ["predict/api.ErrLong", "unicode/utf8.first", "unicode/utf8.acceptRanges", "predict/api.ErrEmpty", "predict/api.ErrMany", "predict/api.ErrEnd", "predict/api.ErrUnknown", "predict/api.ErrRule", "errors.errorType", "internal/bytealg.MaxLen"], apart := false, laid := [("unicode/utf8.acceptRanges", laid_unicode_utf8_acceptRanges), ("errors.errorType", laid_errors_errorType), ("predict/api.ErrLong", laid_predict_api_ErrLong), ("predict/api.ErrEmpty", laid_predict_api_ErrEmpty), ("predict/api.ErrMany", laid_predict_api_ErrMany), ("predict/api.ErrRule", laid_predict_api_ErrRule), ("predict/api.ErrEnd", laid_predict_api_ErrEnd), ("predict/api.ErrUnknown", laid_predict_api_ErrUnknown), ("unicode/utf8.first", laid_unicode_utf8_first)], narrowed := true }
def FollowsUptoSaid : Prop := followsUptoRow.holds Tryz.pinned (OpenSpec.upto followsSpec)

/-- 'predictkeep.Refuses', WHERE WHAT IT READS IS OF BULK AT MOST 1048576: true; the input reads as it did. -/
def refusesUptoRow : OpenClaim := { program := "ytpcmemcanpgadaagreatdoor", sum := "65dd0b17109ed1aa29a6290b253cda39d46de0e6abad23c329834c8a9253ccf9", func := "predict/predictkeep.Refuses", spec := "refuses", inPlace := ["internal/bytealg.IndexByteString", "internal/bytealg.IndexString", "internal/reflectlite.ValueOf", "(internal/reflectlite.Value).Type", "(internal/reflectlite.Value).IsNil", "internal/reflectlite.TypeOf", "(internal/reflectlite.Value).Elem", "(internal/reflectlite.Value).Set"], unfollowed := true, recurses := true, named := ["predict/api.ErrLong", "unicode/utf8.first", "unicode/utf8.acceptRanges", "predict/api.ErrEmpty", "predict/api.ErrMany", "predict/api.ErrEnd", "predict/api.ErrUnknown", "predict/api.ErrRule", "errors.errorType", "internal/bytealg.MaxLen"], apart := false, laid := [("unicode/utf8.acceptRanges", laid_unicode_utf8_acceptRanges), ("errors.errorType", laid_errors_errorType), ("predict/api.ErrLong", laid_predict_api_ErrLong), ("predict/api.ErrEmpty", laid_predict_api_ErrEmpty), ("predict/api.ErrMany", laid_predict_api_ErrMany), ("predict/api.ErrRule", laid_predict_api_ErrRule), ("predict/api.ErrEnd", laid_predict_api_ErrEnd), ("predict/api.ErrUnknown", laid_predict_api_ErrUnknown), ("unicode/utf8.first", laid_unicode_utf8_first)], narrowed := true }
def RefusesUptoSaid : Prop := refusesUptoRow.holds Tryz.pinned (OpenSpec.upto refusesSpec)

end Rows
end Go.Proofs.YtpcmemcanpgadaaGreatDoor

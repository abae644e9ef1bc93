/-
  NARROWER THAN 'FOR EVERY INPUT', by the rows' own cells (each row's printed sentence says how): SealSums: laid · SealLong: laid · SealOpens: laid · SealTurned: laid · SealBack: laid.
  DERIVED. THE GIVEN ROWS OF THIS SEAT. 5 by the template 'for every input the law returns true; each argument reads behind the call as it read before'; 0 by the template 'total and deterministic' (their statements: YtmmgicomidpmhaaDoorTotals.lean).
  GIVEN WITH THE SEED: the statements are not yours to turn. If you find one false, say at which input.
  Laid BY PROGRAM, IN A SANDBOX (cutbox-rows.mjs): the forced cells as the released guide's own fill.sh prints them over the translation edd9771dedbfbc54… (all of the seat's roots in one cut). By AI agents, Wed Nov 11 2026. No macro, syntax, notation, axiom, sorry.
-/
import Derived.Test.YtmmgicomidpmhaaDoorChecked
import GoSem.Claim
import GoSem.ClaimJoined
import GoSem.ClaimMapViews
import Derived.JoinedTies
import Derived.KernelRfl
namespace Go.Proofs.YtmmgicomidpmhaaDoor
/- THE CELL 'sum', in the pinned program and in every row, IS THE sha256 OF THE DUMP (.gsa) THAT YtmmgicomidpmhaaDoorProg.lean LOADS. Nothing in Lean hashes anything: it is a label: what it is worth is what the hold of that sum in a sandbox is worth. -/
noncomputable def Tryd.pinned : Pinned := { name := "ytmmgicomidpmhaadoor", sum := "edd9771dedbfbc54e7c80dc5c418cb1d7fabbd1601cc209e78248674a0eb4043", checked := Tryd.checked }
namespace Rows
def none {H : Type} : Left H := { results := [], args := [] }

/- WHAT THE LISTED PACKAGE-LEVEL VARIABLES READ AS WHEN THE CALL BEGINS. Each datum BY PROGRAM (the guide's laid-datum.mjs) off the statement by which the dump's own 'gosem.cut.vars' lays the variable. In a bare row this is a premise. The card (YtmmgicomidpmhaaDoorCards.lean) ties it to the program's text. -/
def laid_afflux_seal_quarters {H : Type} : DataW H := .agg [.lit (.int .u64 0), .lit (.int .u64 9051005139383707209), .lit (.int .u64 18102010278767414418), .lit (.int .u64 9704381199536204507), .lit (.int .u64 7257036000092981153), .lit (.int .u64 1814259000023245288), .lit (.int .u64 11493583972846619443), .lit (.int .u64 16292555063049989498), .lit (.int .u64 14514072000185962306), .lit (.int .u64 13040162471224305931), .lit (.int .u64 3628518000046490576), .lit (.int .u64 5746791986423309721), .lit (.int .u64 12527462061959317731), .lit (.int .u64 15006518869663149738), .lit (.int .u64 6263731030979658865), .lit (.int .u64 3131865515489829432)]

/-- 'affluxlaw05.SealSums': WHATEVER THE INPUT: true; the input reads as it did. -/
def sealSumsSpec : ChangeSpec := { name := "sealSums", fn := fun _ => fun
  | [d] => { results := [.lit (.bool true)], args := [d] }
  | _ => none }
def sealSumsRow : OpenClaim := { program := "ytmmgicomidpmhaadoor", sum := "edd9771dedbfbc54e7c80dc5c418cb1d7fabbd1601cc209e78248674a0eb4043", func := "afflux/affluxlaw05.SealSums", spec := "sealSums", named := ["afflux/seal.quarters"], apart := false, laid := [("afflux/seal.quarters", laid_afflux_seal_quarters)] }
def SealSumsSaid : Prop := sealSumsRow.holds Tryd.pinned (OpenSpec.ofChange sealSumsSpec)

/-- ITS FALSE NEIGHBOUR: 'it returns false'. Refute it at one input. -/
def sealSumsWrong : ChangeSpec := { name := "sealSums", fn := fun _ => fun
  | [d] => { results := [.lit (.bool false)], args := [d] }
  | _ => none }
def SealSumsWrongFalsely : Prop := sealSumsRow.holds Tryd.pinned (OpenSpec.ofChange sealSumsWrong)

/-- 'affluxlaw05.SealLong': WHATEVER THE INPUT: true; the input reads as it did. -/
def sealLongSpec : ChangeSpec := { name := "sealLong", fn := fun _ => fun
  | [d] => { results := [.lit (.bool true)], args := [d] }
  | _ => none }
def sealLongRow : OpenClaim := { program := "ytmmgicomidpmhaadoor", sum := "edd9771dedbfbc54e7c80dc5c418cb1d7fabbd1601cc209e78248674a0eb4043", func := "afflux/affluxlaw05.SealLong", spec := "sealLong", named := ["afflux/seal.quarters"], apart := false, laid := [("afflux/seal.quarters", laid_afflux_seal_quarters)] }
def SealLongSaid : Prop := sealLongRow.holds Tryd.pinned (OpenSpec.ofChange sealLongSpec)

/-- ITS FALSE NEIGHBOUR: 'it returns false'. Refute it at one input. -/
def sealLongWrong : ChangeSpec := { name := "sealLong", fn := fun _ => fun
  | [d] => { results := [.lit (.bool false)], args := [d] }
  | _ => none }
def SealLongWrongFalsely : Prop := sealLongRow.holds Tryd.pinned (OpenSpec.ofChange sealLongWrong)

/-- 'affluxlaw05.SealOpens': WHATEVER THE INPUT: true; the input reads as it did. -/
def sealOpensSpec : ChangeSpec := { name := "sealOpens", fn := fun _ => fun
  | [d] => { results := [.lit (.bool true)], args := [d] }
  | _ => none }
def sealOpensRow : OpenClaim := { program := "ytmmgicomidpmhaadoor", sum := "edd9771dedbfbc54e7c80dc5c418cb1d7fabbd1601cc209e78248674a0eb4043", func := "afflux/affluxlaw05.SealOpens", spec := "sealOpens", named := ["afflux/seal.quarters"], apart := false, laid := [("afflux/seal.quarters", laid_afflux_seal_quarters)] }
def SealOpensSaid : Prop := sealOpensRow.holds Tryd.pinned (OpenSpec.ofChange sealOpensSpec)

/-- ITS FALSE NEIGHBOUR: 'it returns false'. Refute it at one input. -/
def sealOpensWrong : ChangeSpec := { name := "sealOpens", fn := fun _ => fun
  | [d] => { results := [.lit (.bool false)], args := [d] }
  | _ => none }
def SealOpensWrongFalsely : Prop := sealOpensRow.holds Tryd.pinned (OpenSpec.ofChange sealOpensWrong)

/-- 'affluxlaw05.SealTurned': WHATEVER THE INPUT: true; the input reads as it did. -/
def sealTurnedSpec : ChangeSpec := { name := "sealTurned", fn := fun _ => fun
  | [d1, d2, d3] => { results := [.lit (.bool true)], args := [d1, d2, d3] }
  | _ => none }
def sealTurnedRow : OpenClaim := { program := "ytmmgicomidpmhaadoor", sum := "edd9771dedbfbc54e7c80dc5c418cb1d7fabbd1601cc209e78248674a0eb4043", func := "afflux/affluxlaw05.SealTurned", spec := "sealTurned", named := ["afflux/seal.quarters"], apart := false, laid := [("afflux/seal.quarters", laid_afflux_seal_quarters)] }
def SealTurnedSaid : Prop := sealTurnedRow.holds Tryd.pinned (OpenSpec.ofChange sealTurnedSpec)

/-- ITS FALSE NEIGHBOUR: 'it returns false'. Refute it at one input. -/
def sealTurnedWrong : ChangeSpec := { name := "sealTurned", fn := fun _ => fun
  | [d1, d2, d3] => { results := [.lit (.bool false)], args := [d1, d2, d3] }
  | _ => none }
def SealTurnedWrongFalsely : Prop := sealTurnedRow.holds Tryd.pinned (OpenSpec.ofChange sealTurnedWrong)

/-- 'affluxlaw05.SealBack': WHATEVER THE INPUT: true; the input reads as it did. -/
def sealBackSpec : ChangeSpec := { name := "sealBack", fn := fun _ => fun
  | [d1, d2] => { results := [.lit (.bool true)], args := [d1, d2] }
  | _ => none }
def sealBackRow : OpenClaim := { program := "ytmmgicomidpmhaadoor", sum := "edd9771dedbfbc54e7c80dc5c418cb1d7fabbd1601cc209e78248674a0eb4043", func := "afflux/affluxlaw05.SealBack", spec := "sealBack", named := ["afflux/seal.quarters"], apart := false, laid := [("afflux/seal.quarters", laid_afflux_seal_quarters)] }
def SealBackSaid : Prop := sealBackRow.holds Tryd.pinned (OpenSpec.ofChange sealBackSpec)

/-- ITS FALSE NEIGHBOUR: 'it returns false'. Refute it at one input. -/
def sealBackWrong : ChangeSpec := { name := "sealBack", fn := fun _ => fun
  | [d1, d2] => { results := [.lit (.bool false)], args := [d1, d2] }
  | _ => none }
def SealBackWrongFalsely : Prop := sealBackRow.holds Tryd.pinned (OpenSpec.ofChange sealBackWrong)

/- THE SECOND FORM. 'bulk': how many values and letters a reading holds, each counted each time it is reached (what is shared counts as often as it is met; a slice's spare places count too). A statement '..UptoSaid' is the law's where the arguments, and the package variables that the reading takes, are together of bulk at most 1048576: NARROWER than '..Said'. Prove '..Said' where nothing that the law and all that it calls make is longer than what came in: it says more and counts as full. Else prove '..UptoSaid'. A law counts once. -/
mutual
def uptoBulk {H : Type} : DataW H → Nat
  | .lit (.string bytes) => bytes.length + 1
  | .lit _ => 1
  | .nil => 1
  | .ptr d => uptoBulk d + 1
  | .slice elems spare => uptoBulkAll elems + uptoBulkAll spare + 1
  | .agg parts => uptoBulkAll parts + 1
  | .iface _ d => uptoBulk d + 1
  | .map entries => uptoBulkEntries entries + 1
  | .held _ => 1
def uptoBulkAll {H : Type} : List (DataW H) → Nat
  | [] => 0
  | d :: r => uptoBulk d + uptoBulkAll r
def uptoBulkEntries {H : Type} : List (Lit × DataW H) → Nat
  | [] => 0
  | x :: r => uptoBulkEntry x + uptoBulkEntries r
def uptoBulkEntry {H : Type} : Lit × DataW H → Nat
  | (.string bytes, d) => bytes.length + uptoBulk d + 1
  | (_, d) => uptoBulk d + 1
 end
def uptoSmall : (H : Type) → List (DataW H) → Bool := fun _ ds => decide (uptoBulkAll ds ≤ 1048576)
def OpenSpec.upto (s : _root_.Go.ChangeSpec) : _root_.Go.OpenSpec := { _root_.Go.OpenSpec.ofChange s with cond := some uptoSmall }

/-- 'affluxlaw05.SealSums', WHERE WHAT IT READS IS OF BULK AT MOST 1048576: true; the input reads as it did. -/
def sealSumsUptoRow : OpenClaim := { program := "ytmmgicomidpmhaadoor", sum := "edd9771dedbfbc54e7c80dc5c418cb1d7fabbd1601cc209e78248674a0eb4043", func := "afflux/affluxlaw05.SealSums", spec := "sealSums", named := ["afflux/seal.quarters"], apart := false, laid := [("afflux/seal.quarters", laid_afflux_seal_quarters)], narrowed := true }
def SealSumsUptoSaid : Prop := sealSumsUptoRow.holds Tryd.pinned (OpenSpec.upto sealSumsSpec)

/-- 'affluxlaw05.SealLong', WHERE WHAT IT READS IS OF BULK AT MOST 1048576: true; the input reads as it did. -/
def sealLongUptoRow : OpenClaim := { program := "ytmmgicomidpmhaadoor", sum := "edd9771dedbfbc54e7c80dc5c418cb1d7fabbd1601cc209e78248674a0eb4043", func := "afflux/affluxlaw05.SealLong", spec := "sealLong", named := ["afflux/seal.quarters"], apart := false, laid := [("afflux/seal.quarters", laid_afflux_seal_quarters)], narrowed := true }
def SealLongUptoSaid : Prop := sealLongUptoRow.holds Tryd.pinned (OpenSpec.upto sealLongSpec)

/-- 'affluxlaw05.SealOpens', WHERE WHAT IT READS IS OF BULK AT MOST 1048576: true; the input reads as it did. -/
def sealOpensUptoRow : OpenClaim := { program := "ytmmgicomidpmhaadoor", sum := "edd9771dedbfbc54e7c80dc5c418cb1d7fabbd1601cc209e78248674a0eb4043", func := "afflux/affluxlaw05.SealOpens", spec := "sealOpens", named := ["afflux/seal.quarters"], apart := false, laid := [("afflux/seal.quarters", laid_afflux_seal_quarters)], narrowed := true }
def SealOpensUptoSaid : Prop := sealOpensUptoRow.holds Tryd.pinned (OpenSpec.upto sealOpensSpec)

/-- 'affluxlaw05.SealTurned', WHERE WHAT IT READS IS OF BULK AT MOST 1048576: true; the input reads as it did. -/
def sealTurnedUptoRow : OpenClaim := { program := "ytmmgicomidpmhaadoor", sum := "edd9771dedbfbc54e7c80dc5c418cb1d7fabbd1601cc209e78248674a0eb4043", func := "afflux/affluxlaw05.SealTurned", spec := "sealTurned", named := ["afflux/seal.quarters"], apart := false, laid := [("afflux/seal.quarters", laid_afflux_seal_quarters)], narrowed := true }
def SealTurnedUptoSaid : Prop := sealTurnedUptoRow.holds Tryd.pinned (OpenSpec.upto sealTurnedSpec)

/-- 'affluxlaw05.SealBack', WHERE WHAT IT READS IS OF BULK AT MOST 1048576: true; the input reads as it did. -/
def sealBackUptoRow : OpenClaim := { program := "ytmmgicomidpmhaadoor", sum := "edd9771dedbfbc54e7c80dc5c418cb1d7fabbd1601cc209e78248674a0eb4043", func := "afflux/affluxlaw05.SealBack", spec := "sealBack", named := ["afflux/seal.quarters"], apart := false, laid := [("afflux/seal.quarters", laid_afflux_seal_quarters)], narrowed := true }
def SealBackUptoSaid : Prop := sealBackUptoRow.holds Tryd.pinned (OpenSpec.upto sealBackSpec)

end Rows
end Go.Proofs.YtmmgicomidpmhaaDoor

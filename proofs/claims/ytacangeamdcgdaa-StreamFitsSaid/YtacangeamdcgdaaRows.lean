/-
  No cell of these rows narrows 'for every input' (looked for: loops, veiled, ifaces, maps, wideKeys, modest, calm, conditions, laid).
  DERIVED. THE GIVEN ROWS OF THIS SEAT. 6 by the template 'for every input the law returns true; each argument reads behind the call as it read before'; 0 by the template 'total and deterministic' (their statements: YtacangeamdcgdaaTotals.lean).
  GIVEN WITH THE SEED: the statements are not yours to turn. If you find one false, say at which input.
  Laid BY PROGRAM, IN A SANDBOX (cutbox-rows.mjs): the forced cells as the released guide's own fill.sh prints them over the translation 8c3777f24e38b1a6… (all of the seat's roots in one cut). By AI agents, Wed Nov 11 2026. No macro, syntax, notation, axiom, sorry.
-/
import Derived.Test.YtacangeamdcgdaaChecked
import GoSem.Claim
import GoSem.ClaimJoined
import GoSem.ClaimMapViews
import Derived.JoinedTies
import Derived.KernelRfl
namespace Go.Proofs.Ytacangeamdcgdaa
/- THE CELL 'sum', in the pinned program and in every row, IS THE sha256 OF THE DUMP (.gsa) THAT YtacangeamdcgdaaProg.lean LOADS. Nothing in Lean hashes anything: it is a label: what it is worth is what the hold of that sum in a sandbox is worth. -/
noncomputable def Try.pinned : Pinned := { name := "ytacangeamdcgdaa", sum := "8c3777f24e38b1a656caa59102c62d79a489b4e92d5a4f9032dc7a59ea45f194", checked := Try.checked }
namespace Rows
def none {H : Type} : Left H := { results := [], args := [] }

/-- 'affluxlaw18.StreamBorders': WHATEVER THE INPUT: true; the input reads as it did. -/
def streamBordersSpec : ChangeSpec := { name := "streamBorders", fn := fun _ => fun
  | [d1, d2, d3] => { results := [.lit (.bool true)], args := [d1, d2, d3] }
  | _ => none }
def streamBordersRow : OpenClaim := { program := "ytacangeamdcgdaa", sum := "8c3777f24e38b1a656caa59102c62d79a489b4e92d5a4f9032dc7a59ea45f194", func := "afflux/affluxlaw18.StreamBorders", spec := "streamBorders", unfollowed := true, recurses := true, apart := false }
def StreamBordersSaid : Prop := streamBordersRow.holds Try.pinned (OpenSpec.ofChange streamBordersSpec)

/-- ITS FALSE NEIGHBOUR: 'it returns false'. Refute it at one input. -/
def streamBordersWrong : ChangeSpec := { name := "streamBorders", fn := fun _ => fun
  | [d1, d2, d3] => { results := [.lit (.bool false)], args := [d1, d2, d3] }
  | _ => none }
def StreamBordersWrongFalsely : Prop := streamBordersRow.holds Try.pinned (OpenSpec.ofChange streamBordersWrong)

/-- 'affluxlaw18.StreamLines': WHATEVER THE INPUT: true; the input reads as it did. -/
def streamLinesSpec : ChangeSpec := { name := "streamLines", fn := fun _ => fun
  | [d1, d2, d3, d4] => { results := [.lit (.bool true)], args := [d1, d2, d3, d4] }
  | _ => none }
def streamLinesRow : OpenClaim := { program := "ytacangeamdcgdaa", sum := "8c3777f24e38b1a656caa59102c62d79a489b4e92d5a4f9032dc7a59ea45f194", func := "afflux/affluxlaw18.StreamLines", spec := "streamLines", unfollowed := true, recurses := true, apart := false }
def StreamLinesSaid : Prop := streamLinesRow.holds Try.pinned (OpenSpec.ofChange streamLinesSpec)

/-- ITS FALSE NEIGHBOUR: 'it returns false'. Refute it at one input. -/
def streamLinesWrong : ChangeSpec := { name := "streamLines", fn := fun _ => fun
  | [d1, d2, d3, d4] => { results := [.lit (.bool false)], args := [d1, d2, d3, d4] }
  | _ => none }
def StreamLinesWrongFalsely : Prop := streamLinesRow.holds Try.pinned (OpenSpec.ofChange streamLinesWrong)

/-- 'affluxlaw18.StreamFits': WHATEVER THE INPUT: true; the input reads as it did. -/
def streamFitsSpec : ChangeSpec := { name := "streamFits", fn := fun _ => fun
  | [d1, d2] => { results := [.lit (.bool true)], args := [d1, d2] }
  | _ => none }
def streamFitsRow : OpenClaim := { program := "ytacangeamdcgdaa", sum := "8c3777f24e38b1a656caa59102c62d79a489b4e92d5a4f9032dc7a59ea45f194", func := "afflux/affluxlaw18.StreamFits", spec := "streamFits", unfollowed := true, recurses := true, apart := false }
def StreamFitsSaid : Prop := streamFitsRow.holds Try.pinned (OpenSpec.ofChange streamFitsSpec)

/-- ITS FALSE NEIGHBOUR: 'it returns false'. Refute it at one input. -/
def streamFitsWrong : ChangeSpec := { name := "streamFits", fn := fun _ => fun
  | [d1, d2] => { results := [.lit (.bool false)], args := [d1, d2] }
  | _ => none }
def StreamFitsWrongFalsely : Prop := streamFitsRow.holds Try.pinned (OpenSpec.ofChange streamFitsWrong)

/-- 'affluxlaw18.StreamBytes': WHATEVER THE INPUT: true; the input reads as it did. -/
def streamBytesSpec : ChangeSpec := { name := "streamBytes", fn := fun _ => fun
  | [d1, d2, d3] => { results := [.lit (.bool true)], args := [d1, d2, d3] }
  | _ => none }
def streamBytesRow : OpenClaim := { program := "ytacangeamdcgdaa", sum := "8c3777f24e38b1a656caa59102c62d79a489b4e92d5a4f9032dc7a59ea45f194", func := "afflux/affluxlaw18.StreamBytes", spec := "streamBytes", unfollowed := true, recurses := true, apart := false }
def StreamBytesSaid : Prop := streamBytesRow.holds Try.pinned (OpenSpec.ofChange streamBytesSpec)

/-- ITS FALSE NEIGHBOUR: 'it returns false'. Refute it at one input. -/
def streamBytesWrong : ChangeSpec := { name := "streamBytes", fn := fun _ => fun
  | [d1, d2, d3] => { results := [.lit (.bool false)], args := [d1, d2, d3] }
  | _ => none }
def StreamBytesWrongFalsely : Prop := streamBytesRow.holds Try.pinned (OpenSpec.ofChange streamBytesWrong)

/-- 'affluxlaw18.StreamBack': WHATEVER THE INPUT: true; the input reads as it did. -/
def streamBackSpec : ChangeSpec := { name := "streamBack", fn := fun _ => fun
  | [d1, d2, d3] => { results := [.lit (.bool true)], args := [d1, d2, d3] }
  | _ => none }
def streamBackRow : OpenClaim := { program := "ytacangeamdcgdaa", sum := "8c3777f24e38b1a656caa59102c62d79a489b4e92d5a4f9032dc7a59ea45f194", func := "afflux/affluxlaw18.StreamBack", spec := "streamBack", unfollowed := true, recurses := true, apart := false }
def StreamBackSaid : Prop := streamBackRow.holds Try.pinned (OpenSpec.ofChange streamBackSpec)

/-- ITS FALSE NEIGHBOUR: 'it returns false'. Refute it at one input. -/
def streamBackWrong : ChangeSpec := { name := "streamBack", fn := fun _ => fun
  | [d1, d2, d3] => { results := [.lit (.bool false)], args := [d1, d2, d3] }
  | _ => none }
def StreamBackWrongFalsely : Prop := streamBackRow.holds Try.pinned (OpenSpec.ofChange streamBackWrong)

/-- 'affluxlaw18.StreamNone': WHATEVER THE INPUT: true; the input reads as it did. -/
def streamNoneSpec : ChangeSpec := { name := "streamNone", fn := fun _ => fun
  | [d1, d2] => { results := [.lit (.bool true)], args := [d1, d2] }
  | _ => none }
def streamNoneRow : OpenClaim := { program := "ytacangeamdcgdaa", sum := "8c3777f24e38b1a656caa59102c62d79a489b4e92d5a4f9032dc7a59ea45f194", func := "afflux/affluxlaw18.StreamNone", spec := "streamNone", unfollowed := true, recurses := true, apart := false }
def StreamNoneSaid : Prop := streamNoneRow.holds Try.pinned (OpenSpec.ofChange streamNoneSpec)

/-- ITS FALSE NEIGHBOUR: 'it returns false'. Refute it at one input. -/
def streamNoneWrong : ChangeSpec := { name := "streamNone", fn := fun _ => fun
  | [d1, d2] => { results := [.lit (.bool false)], args := [d1, d2] }
  | _ => none }
def StreamNoneWrongFalsely : Prop := streamNoneRow.holds Try.pinned (OpenSpec.ofChange streamNoneWrong)

/- THE SECOND FORM. 'bulk': how many values and letters a reading holds, each counted each time it is reached (what is shared counts as often as it is met; a slice's spare places count too). A statement '..UptoSaid' is the law's where the arguments, and the package variables that the reading takes, are together of bulk at most 1048576: NARROWER than '..Said'. Prove '..Said' where nothing that the law and all that it calls make is longer than what came in: it says more and counts as full. Else prove '..UptoSaid'. A law counts once. -/
mutual
def uptoBulk {H : Type} : DataW H → Nat
  | .lit (.string bytes) => bytes.length + 1
  | .lit _ => 1
  | .nil => 1
  | .ptr d => uptoBulk d + 1
  | .slice elems spare => uptoBulkAll elems + uptoBulkAll spare + 1
  | .agg parts => uptoBulkAll parts + 1
  | .iface _ d => uptoBulk d + 1
  | .map entries => uptoBulkEntries entries + 1
  | .held _ => 1
def uptoBulkAll {H : Type} : List (DataW H) → Nat
  | [] => 0
  | d :: r => uptoBulk d + uptoBulkAll r
def uptoBulkEntries {H : Type} : List (Lit × DataW H) → Nat
  | [] => 0
  | x :: r => uptoBulkEntry x + uptoBulkEntries r
def uptoBulkEntry {H : Type} : Lit × DataW H → Nat
  | (.string bytes, d) => bytes.length + uptoBulk d + 1
  | (_, d) => uptoBulk d + 1
 end
def uptoSmall : (H : Type) → List (DataW H) → Bool := fun _ ds => decide (uptoBulkAll ds ≤ 1048576)
def OpenSpec.upto (s : _root_.Go.ChangeSpec) : _root_.Go.OpenSpec := { _root_.Go.OpenSpec.ofChange s with cond := some uptoSmall }

/-- 'affluxlaw18.StreamBorders', WHERE WHAT IT READS IS OF BULK AT MOST 1048576: true; the input reads as it did. -/
def streamBordersUptoRow : OpenClaim := { program := "ytacangeamdcgdaa", sum := "8c3777f24e38b1a656caa59102c62d79a489b4e92d5a4f9032dc7a59ea45f194", func := "afflux/affluxlaw18.StreamBorders", spec := "streamBorders", unfollowed := true, recurses := true, apart := false, narrowed := true }
def StreamBordersUptoSaid : Prop := streamBordersUptoRow.holds Try.pinned (OpenSpec.upto streamBordersSpec)

/-- 'affluxlaw18.StreamLines', WHERE WHAT IT READS IS OF BULK AT MOST 1048576: true; the input reads as it did. -/
def streamLinesUptoRow : OpenClaim := { program := "ytacangeamdcgdaa", sum := "8c3777f24e38b1a656caa59102c62d79a489b4e92d5a4f9032dc7a59ea45f194", func := "afflux/affluxlaw18.StreamLines", spec := "streamLines", unfollowed := true, recurses := true, apart := false, narrowed := true }
def StreamLinesUptoSaid : Prop := streamLinesUptoRow.holds Try.pinned (OpenSpec.upto streamLinesSpec)

/-- 'affluxlaw18.StreamFits', WHERE WHAT IT READS IS OF BULK AT MOST 1048576: true; the input reads as it did. -/
def streamFitsUptoRow : OpenClaim := { program := "ytacangeamdcgdaa", sum := "8c3777f24e38b1a656caa59102c62d79a489b4e92d5a4f9032dc7a59ea45f194", func := "afflux/affluxlaw18.StreamFits", spec := "streamFits", unfollowed := true, recurses := true, apart := false, narrowed := true }
def StreamFitsUptoSaid : Prop := streamFitsUptoRow.holds Try.pinned (OpenSpec.upto streamFitsSpec)

/-- 'affluxlaw18.StreamBytes', WHERE WHAT IT READS IS OF BULK AT MOST 1048576: true; the input reads as it did. -/
def streamBytesUptoRow : OpenClaim := { program := "ytacangeamdcgdaa", sum := "8c3777f24e38b1a656caa59102c62d79a489b4e92d5a4f9032dc7a59ea45f194", func := "afflux/affluxlaw18.StreamBytes", spec := "streamBytes", unfollowed := true, recurses := true, apart := false, narrowed := true }
def StreamBytesUptoSaid : Prop := streamBytesUptoRow.holds Try.pinned (OpenSpec.upto streamBytesSpec)

/-- 'affluxlaw18.StreamBack', WHERE WHAT IT READS IS OF BULK AT MOST 1048576: true; the input reads as it did. -/
def streamBackUptoRow : OpenClaim := { program := "ytacangeamdcgdaa", sum := "8c3777f24e38b1a656caa59102c62d79a489b4e92d5a4f9032dc7a59ea45f194", func := "afflux/affluxlaw18.StreamBack", spec := "streamBack", unfollowed := true, recurses := true, apart := false, narrowed := true }
def StreamBackUptoSaid : Prop := streamBackUptoRow.holds Try.pinned (OpenSpec.upto streamBackSpec)

/-- 'affluxlaw18.StreamNone', WHERE WHAT IT READS IS OF BULK AT MOST 1048576: true; the input reads as it did. -/
def streamNoneUptoRow : OpenClaim := { program := "ytacangeamdcgdaa", sum := "8c3777f24e38b1a656caa59102c62d79a489b4e92d5a4f9032dc7a59ea45f194", func := "afflux/affluxlaw18.StreamNone", spec := "streamNone", unfollowed := true, recurses := true, apart := false, narrowed := true }
def StreamNoneUptoSaid : Prop := streamNoneUptoRow.holds Try.pinned (OpenSpec.upto streamNoneSpec)

end Rows
end Go.Proofs.Ytacangeamdcgdaa

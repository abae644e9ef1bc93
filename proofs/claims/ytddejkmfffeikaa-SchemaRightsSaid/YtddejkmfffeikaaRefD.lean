/- Contracts of the reference for package calc (affluxref01): the opposite; as an int64. -/
import Derived.Test.YtddejkmfffeikaaRefC
namespace Go.Proofs.Ytddejkmfffeikaa
open Go.ChangeShapes Go.WideShapes Go.ChangeAt Go.RowKit
open Ar (val Dig Canon)
def inR (v : Int) : Bool := decide (-9223372036854775808 ≤ v ∧ v ≤ 9223372036854775807)
theorem of_max (w : World) : Calls Try.prog 48 #[.int .i64 9223372036854775807] w fun e w' => ∃ v, e = .returned v ∧ Num w' v 9223372036854775807 20 w.heap.size ∧ Below w.heap.size w w' := of_any _ w (by omega) (by omega)
theorem of_min (w : World) : Calls Try.prog 48 #[.int .i64 (-9223372036854775808)] w fun e w' => ∃ v, e = .returned v ∧ Num w' v (-9223372036854775808) 20 w.heap.size ∧ Below w.heap.size w w' := of_any _ w (by omega) (by omega)

/-- Numbers' sum, as the reference has it. -/
def sgn (m : Bool) (s : Int) : Int := if m = true then -s else s
end Go.Proofs.Ytddejkmfffeikaa

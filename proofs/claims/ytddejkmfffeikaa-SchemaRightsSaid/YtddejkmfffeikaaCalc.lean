/- Contracts of package calc: what each of its functions returns, in plain integers. -/
import Derived.Test.YtddejkmfffeikaaKit
import Derived.Laws.Externs
import Derived.Shelf.Spec.BitsCarry
namespace Go.Proofs.Ytddejkmfffeikaa
open Go.ChangeShapes Go.WideShapes Go.ChangeAt Go.RowKit

def narV (v : Int) : Int := if -9223372036854775808 ≤ v ∧ v ≤ 9223372036854775807 then v else 0
def narE (v : Int) : Int := if -9223372036854775808 ≤ v ∧ v ≤ 9223372036854775807 then 0 else 2

end Go.Proofs.Ytddejkmfffeikaa

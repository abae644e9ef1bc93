/- Contracts of the reference for package calc (affluxref01): numbers' sums, opposites and products. -/
import Derived.Test.YtgdfjcmjhagmoaaRefB
import Derived.Deep.RegionHeld3
namespace Go.Proofs.Ytgdfjcmjhagmoaa
open Go.ChangeShapes Go.WideShapes Go.ChangeAt Go.RowKit
open Ar (val Dig Canon)
end Go.Proofs.Ytgdfjcmjhagmoaa

/- Contracts of package calc: what each of its functions returns, in plain integers. -/
import Derived.Test.YtgdfjcmjhagmoaaKit
import Derived.Laws.Externs
import Derived.Shelf.Spec.BitsCarry
namespace Go.Proofs.Ytgdfjcmjhagmoaa
open Go.ChangeShapes Go.WideShapes Go.ChangeAt Go.RowKit

def narV (v : Int) : Int := if -9223372036854775808 ≤ v ∧ v ≤ 9223372036854775807 then v else 0
def narE (v : Int) : Int := if -9223372036854775808 ≤ v ∧ v ≤ 9223372036854775807 then 0 else 2

theorem signed_any (n : Int) (b : Bool) (w : World) (h1 : 0 ≤ n) (h2 : n ≤ 18446744073709551615) :
    Calls Try.prog 52 #[.int .u64 n, .bool b] w fun e w' => e = .returned (.tuple #[.int .i64 (narV (if b = true then -n else n)), .int .i64 (narE (if b = true then -n else n))]) ∧ w = w' := by
  cases b
  · go_enter Try.func52, Try.ntmps52
    go_wp2
    all_goals (go_ret2; refine ⟨ret_two ?_ ?_, rfl⟩ <;> simp only [wrap64, narV, narE, Bool.false_eq_true, if_false] <;> omega)
  · go_enter Try.func52, Try.ntmps52
    go_wp2
    all_goals (go_ret2; refine ⟨ret_two ?_ ?_, rfl⟩ <;> (try simp only [IntKind.wrap_u64, wrap64]) <;> simp only [narV, narE, if_true] <;> omega)

theorem add64 (x y : Int) (hx : 0 ≤ x) (hy : 0 ≤ y) (w : World) :
    (callFunc 51 #[.int .u64 x, .int .u64 y, .int .u64 0]).run Try.prog w =
      .ok (.value (.tuple #[.int .u64 ((x + y) % 18446744073709551616), .int .u64 ((x + y) / 18446744073709551616)])) w := by
  rw [run_callFunc_extern Try.func51 (by kernel_rfl) (by kernel_rfl) (by kernel_rfl) (e := add64Entry) (by kernel_rfl), run_add64 x y 0 hx hy (by omega) (by omega)]
  simp only [Result.andThen, Int.add_zero]
end Go.Proofs.Ytgdfjcmjhagmoaa

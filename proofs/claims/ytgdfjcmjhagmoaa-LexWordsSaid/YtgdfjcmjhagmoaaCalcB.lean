import Derived.Test.YtgdfjcmjhagmoaaCalc
import Derived.Test.YtgdfjcmjhagmoaaMath
import Derived.Test.YtgdfjcmjhagmoaaShelf
import Derived.Laws.StructEq
import Derived.RegionTactic
import Derived.ChangeAlike
import Derived.Deep.RegionWith
namespace Go.Proofs.Ytgdfjcmjhagmoaa
open Go.ChangeShapes Go.WideShapes Go.ChangeAt Go.RowKit
theorem mul64_small (x y : Nat) (w : World) (hx : x < 18446744073709551616) (hy : y < 18446744073709551616) (h : x * y < 18446744073709551616) :
    Calls Try.prog 50 #[.int .u64 x, .int .u64 y] w fun e w' => e = .returned (.tuple #[.int .u64 0, .int .u64 ((x * y : Nat) : Int)]) ∧ w = w' :=
  (Try.bits_Mul64 x y hx hy w).mono fun e w' ⟨h1, h2⟩ => ⟨by rw [h1, Nat.div_eq_of_lt h, Nat.mod_eq_of_lt h]; rfl, h2.symm⟩
theorem mul64_big (x y : Nat) (w : World) (hx : x < 18446744073709551616) (hy : y < 18446744073709551616) (h : 18446744073709551616 ≤ x * y) :
    Calls Try.prog 50 #[.int .u64 x, .int .u64 y] w fun e w' => ∃ hi lo : Nat, 1 ≤ hi ∧ e = .returned (.tuple #[.int .u64 hi, .int .u64 lo]) ∧ w = w' :=
  (Try.bits_Mul64 x y hx hy w).mono fun e w' ⟨h1, h2⟩ => ⟨_, _, by omega, h1, h2.symm⟩

def lo (a : Int) (xs : List Int) : Int := xs.foldl (fun p x => if x < p then x else p) a
def hi (a : Int) (xs : List Int) : Int := xs.foldl (fun p x => if p < x then x else p) a
theorem lo_take (a : Int) (xs : List Int) (i : Nat) (h : i < xs.length) : lo a (xs.take (i + 1)) = if xs.getD i 0 < lo a (xs.take i) then xs.getD i 0 else lo a (xs.take i) := by
  have hg : xs.getD i 0 = xs[i] := by simp [List.getD, h]
  rw [hg, lo, List.take_succ_eq_append_getElem h, List.foldl_append]; rfl
theorem hi_take (a : Int) (xs : List Int) (i : Nat) (h : i < xs.length) : hi a (xs.take (i + 1)) = if hi a (xs.take i) < xs.getD i 0 then xs.getD i 0 else hi a (xs.take i) := by
  have hg : xs.getD i 0 = xs[i] := by simp [List.getD, h]
  rw [hg, hi, List.take_succ_eq_append_getElem h, List.foldl_append]; rfl
end Go.Proofs.Ytgdfjcmjhagmoaa

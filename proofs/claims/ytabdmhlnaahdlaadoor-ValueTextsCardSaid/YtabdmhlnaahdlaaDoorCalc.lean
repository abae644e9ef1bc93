/- Contracts of package calc: what each of its functions returns, in plain integers. -/
import Derived.Test.YtabdmhlnaahdlaaDoorKit
import Derived.Laws.Externs
import Derived.Shelf.Spec.BitsCarry
namespace Go.Proofs.YtabdmhlnaahdlaaDoor
open Go.ChangeShapes Go.WideShapes Go.ChangeAt Go.RowKit

def narV (v : Int) : Int := if -9223372036854775808 ≤ v ∧ v ≤ 9223372036854775807 then v else 0
def narE (v : Int) : Int := if -9223372036854775808 ≤ v ∧ v ≤ 9223372036854775807 then 0 else 2

theorem widen_any (n : Int) (w : World) (h1 : -9223372036854775808 ≤ n) (h2 : n ≤ 9223372036854775807)  :
    Calls Tryd.prog 80 #[.int .i64 n] w fun e w' => e = .returned (.agg #[.int .i64 (n / 18446744073709551616), .int .u64 (n % 18446744073709551616)]) ∧ Below w.heap.size w w' := by
  go_enter Tryd.func80, Tryd.ntmps80
  go_wp2
  refine bodyPost_ret (v := .agg #[.int .i64 (n / 9223372036854775808), .int .u64 (IntKind.u64.wrap n)]) (by simp [results, Tryd.results80, go_sem]) rfl ⟨?_, ?_⟩
  · rw [IntKind.wrap_u64, show n / 9223372036854775808 = n / 18446744073709551616 from by omega]
  · exact (Below.refl _ _).alloc (Nat.le_refl _) _

theorem signed_any (n : Int) (b : Bool) (w : World) (h1 : 0 ≤ n) (h2 : n ≤ 18446744073709551615) :
    Calls Tryd.prog 46 #[.int .u64 n, .bool b] w fun e w' => e = .returned (.tuple #[.int .i64 (narV (if b = true then -n else n)), .int .i64 (narE (if b = true then -n else n))]) ∧ w = w' := by
  cases b
  · go_enter Tryd.func46, Tryd.ntmps46
    go_wp2
    all_goals (go_ret2; refine ⟨ret_two ?_ ?_, rfl⟩ <;> simp only [wrap64, narV, narE, Bool.false_eq_true, if_false] <;> omega)
  · go_enter Tryd.func46, Tryd.ntmps46
    go_wp2
    all_goals (go_ret2; refine ⟨ret_two ?_ ?_, rfl⟩ <;> (try simp only [IntKind.wrap_u64, wrap64]) <;> simp only [narV, narE, if_true] <;> omega)

theorem add64 (x y : Int) (hx : 0 ≤ x) (hy : 0 ≤ y) (w : World) :
    (callFunc 45 #[.int .u64 x, .int .u64 y, .int .u64 0]).run Tryd.prog w =
      .ok (.value (.tuple #[.int .u64 ((x + y) % 18446744073709551616), .int .u64 ((x + y) / 18446744073709551616)])) w := by
  rw [run_callFunc_extern Tryd.func45 (by kernel_rfl) (by kernel_rfl) (by kernel_rfl) (e := add64Entry) (by kernel_rfl), run_add64 x y 0 hx hy (by omega) (by omega)]
  simp only [Result.andThen, Int.add_zero]
theorem plus_any (v n : Int) (w : World) (h1 : -9223372036854775808 ≤ n) (h2 : n ≤ 9223372036854775807) (h3 : -85070591730234615865843651857942052864 ≤ v) (h4 : v ≤ 85070591730234615865843651857942052864) :
    Calls Tryd.prog 67 #[.agg #[.int .i64 (v / 18446744073709551616), .int .u64 (v % 18446744073709551616)], .int .i64 n] w fun e w' => e = .returned (.agg #[.int .i64 ((v + n) / 18446744073709551616), .int .u64 ((v + n) % 18446744073709551616)]) ∧ Below w.heap.size w w' := by
  have hadd := add64 (v % 18446744073709551616) (n % 18446744073709551616) (by omega) (by omega)
  have b1 : -4611686018427387904 ≤ v / 18446744073709551616 := by omega
  have b2 : v / 18446744073709551616 ≤ 4611686018427387904 := by omega
  have b3 : -1 ≤ n / 18446744073709551616 := by omega
  have b4 : n / 18446744073709551616 ≤ 0 := by omega
  have b5 : 0 ≤ (v % 18446744073709551616 + n % 18446744073709551616) / 18446744073709551616 := by omega
  have b6 : (v % 18446744073709551616 + n % 18446744073709551616) / 18446744073709551616 ≤ 1 := by omega
  have r1 : v / 18446744073709551616 + n / 18446744073709551616 + (v % 18446744073709551616 + n % 18446744073709551616) / 18446744073709551616 = (v + n) / 18446744073709551616 := by omega
  have r2 : (v % 18446744073709551616 + n % 18446744073709551616) % 18446744073709551616 = (v + n) % 18446744073709551616 := by omega
  have R1 := Lib.hid r1
  have R2 := Lib.hid r2
  clear r1 r2
  go_enter Tryd.func67, Tryd.ntmps67
  go_wp2_with (go_at_call 80; refine (widen_any n _ h1 h2).mono ?_; rintro e w' ⟨rfl, hb⟩; obtain ⟨hc, hf⟩ := bcell hb; obtain ⟨hz, hz'⟩ := two_new hb)
  refine bodyPost_ret (v := .agg #[.int .i64 (v / 18446744073709551616 + n / 18446744073709551616 + (v % 18446744073709551616 + n % 18446744073709551616) / 18446744073709551616), .int .u64 ((v + n) % 18446744073709551616)]) (by simp [results, Tryd.results67, go_sem, hc, hz']) rfl ⟨?_, ?_⟩
  · rw [R1.out]
  · exact ((((((Below.refl _ _).alloc (Nat.le_refl _) _).alloc (by simp) _).trans (hb.mono (by simp; omega))).setCell (by simp) _).setCell (by simp) _).alloc (by simp; omega) _

end Go.Proofs.YtabdmhlnaahdlaaDoor

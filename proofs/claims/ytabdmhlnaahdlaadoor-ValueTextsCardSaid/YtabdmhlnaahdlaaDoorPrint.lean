/- Contracts of package calc: Print; and what a row's list of tables gives. -/
import Derived.Test.YtabdmhlnaahdlaaDoorTextC
import Derived.Test.YtabdmhlnaahdlaaDoorShelf
import Derived.Lib.AppendIntMem
import Derived.Lib.LaidTab
import Derived.Stop.LaidErr
namespace Go.Proofs.YtabdmhlnaahdlaaDoor
open Go.ChangeShapes Go.WideShapes Go.ChangeAt Go.RowKit
theorem format_any (n : Int) (w : World) (h0 : -9223372036854775808 ≤ n) (h1 : n ≤ 9223372036854775807) (htab : Lib.TabIs Tryd.prog w "internal/strconv.uint64pow10" .u64 Lib.pow10Tab) :
    Calls Tryd.prog 49 #[.int .i64 n, .int .i64 10] w fun e w' => e = .returned (.string ⟨(Lib.itoa n).toArray⟩) ∧ Below w.heap.size w w' := by
  have F := (Tryd.internal_strconv_FormatInt_10 n h0 h1 w htab).mono (R' := fun e w' => e = Ending.returned (.string ⟨(Lib.itoa n).toArray⟩) ∧ Below w.heap.size w w') (fun e w' ⟨he, k, os, hw⟩ => ⟨he, by rw [hw]; exact Lib.below_grow _ w (Nat.le_refl _) k os⟩)
  go_enter Tryd.func49, Tryd.ntmps49
  go_wp2_with (go_at_call 71; refine F.mono ?_; rintro e w1 ⟨rfl, hb⟩)
  go_ret
  exact ⟨rfl, hb⟩
theorem print_any (n : Int) (w : World) (h0 : -9223372036854775808 ≤ n) (h1 : n ≤ 9223372036854775807) (htab : Lib.TabIs Tryd.prog w "internal/strconv.uint64pow10" .u64 Lib.pow10Tab) :
    Calls Tryd.prog 14 #[.int .i64 n] w fun e w' => e = .returned (.string ⟨(Lib.itoa n).toArray⟩) ∧ Below w.heap.size w w' := by
  have F := format_any n w h0 h1 htab
  go_enter Tryd.func14, Tryd.ntmps14
  go_wp2_with (go_at_call 49; refine F.mono ?_; rintro e w1 ⟨rfl, hb⟩)
  go_ret
  exact ⟨rfl, hb⟩
theorem parse_itoa (n : Int) (w : World) (h0 : -9223372036854775808 ≤ n) (h1 : n ≤ 9223372036854775807) :
    Calls Tryd.prog 12 #[.string ⟨(Lib.itoa n).toArray⟩] w fun e w' => e = .returned (.tuple #[.int .i64 n, .int .i64 0]) ∧ w = w' := by
  have hl := Ar.itoa_len n h0 h1
  obtain ⟨hg, hz⟩ := Ar.itoa_good n
  refine (parse_any _ w (by simp [ByteArray.size]; omega)).mono fun e w' ⟨he, hw⟩ => ⟨?_, hw⟩
  rw [he, parseV, parseE]
  rw [if_pos hg, if_pos hg, hz, narV, narE, if_pos ⟨h0, h1⟩, if_pos ⟨h0, h1⟩]
theorem gPow : Tryd.prog.globalNamed "internal/strconv.uint64pow10" = some 1 := by kernel_rfl
/-- A list of integers in a datum, as a block's cells. -/
def cellsOfData (d : DataW Unit) : Array Value := match d with
  | .agg l => (l.map fun | .lit (.int k z) => Value.int k z | _ => Value.int .u8 0).toArray
  | _ => #[]
def putCells (o : Obj) (cs : Array Value) : Obj := match o with
  | .cells _ t frozen => .cells cs t frozen
  | o => o
end Go.Proofs.YtabdmhlnaahdlaaDoor

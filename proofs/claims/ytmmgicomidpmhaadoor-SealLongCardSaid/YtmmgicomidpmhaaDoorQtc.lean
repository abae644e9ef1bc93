/- What a row's list of the table of sixteen numbers gives; a world that meets it. -/
import Derived.Test.YtmmgicomidpmhaaDoorCards
import Derived.Test.YtmmgicomidpmhaaDoorTie
import Derived.Test.YtmmgicomidpmhaaDoorSeb
import Derived.ProofKit
import Derived.OpenShut
import Derived.ChangeOld
import Derived.Deep.DeepHandedRow
import Derived.Lib.LaidTab
import Derived.Stop.LaidErr
namespace Go.Proofs.YtmmgicomidpmhaaDoor
open Go.ChangeShapes Go.WideShapes Go.ChangeAt Go.RowKit
theorem gQ : Tryd.prog.globalNamed "afflux/seal.quarters" = some 0 := by kernel_rfl
theorem gQType : (Tryd.prog.globals[0]?).map (·.type) = some 49 := by kernel_rfl
theorem cells16 : Tryd.prog.cellsOf 49 = 16 := by kernel_rfl
theorem cells64 : Tryd.prog.cellsOf 27 = 1 := by kernel_rfl
def Qint : List Int := Crc.Q.map fun x : Nat => (Int.ofNat x)
theorem Qint_eq : ∀ k, k < 16 → Qint.getD k 0 = ((Crc.Q.getD k 0 : Nat) : Int) := by decide
theorem quarters_data : Rows.laid_afflux_seal_quarters (H := Unit) = Lib.tabData .u64 Qint := by kernel_rfl
theorem table {W : World} (h : laidMetH Tryd.prog [("afflux/seal.quarters", Rows.laid_afflux_seal_quarters)] W) : QT W := by
  have h2 : laidMet Tryd.prog [("afflux/seal.quarters", Rows.laid_afflux_seal_quarters)] W := h
  rw [quarters_data] at h2
  have h3 := Lib.tabIs_of_head (rest := []) gQ gQType Tryd.underlying49 Tryd.underlying27 cells64 cells16 h2
  refine ⟨World.block_lt_of_cell? W ⟨0, 0, none⟩ (h3.cell gQ 0 (by decide)), fun k hk => ?_⟩
  rw [h3.cell gQ k (by rw [show Qint.length = 16 from rfl]; exact hk), Qint_eq k hk]
/-- A list of integers in a datum, as a block's cells. -/
def cellsOfTab (d : DataW Unit) : Array Value := match d with
  | .agg l => (l.map fun | .lit (.int k z) => Value.int k z | _ => Value.int .u8 0).toArray
  | _ => #[]
def layCells (o : Obj) (cs : Array Value) : Obj := match o with
  | .cells _ t frozen => .cells cs t frozen
  | o => o
noncomputable def laidWorld (os : Os) : World :=
  { World.holding Tryd.prog os ⟨#[], #[], []⟩ with heap := (World.holding Tryd.prog os ⟨#[], #[], []⟩).heap.modify 0 fun o => layCells o (cellsOfTab Rows.laid_afflux_seal_quarters) }
end Go.Proofs.YtmmgicomidpmhaaDoor

/- Batches, as arguments. -/
import Derived.Test.YtacangeamdcgdaaStb
namespace Go.Proofs.Ytacangeamdcgdaa
open Go.ChangeShapes Go.WideShapes Go.ChangeAt Go.RowKit Go.Deep
theorem rows_is {H : Type} {enc : TypeId × Value → H} {W : World} {fuel : Nat} {v : Value} {x : DataW H × List MemPlace} (h : DataW.trod enc Try.prog W 0 (fun _ => true) true fuel 36 [v] = some x) : ∃ A n c, v = .slice A n c := by
  rcases open_slice Try.underlying36/-t-/ h with ⟨h1, _⟩ | ⟨ad, l, c, m, n, D, Pl, h1, _⟩
  · exact ⟨_, _, _, by simpa using h1⟩
  · exact ⟨_, _, _, by simpa using h1⟩
set_option maxRecDepth 100000 in
theorem open_bat {H : Type} {enc : TypeId × Value → H} {W : World} {b : Nat} {v : Value} {d : DataW H} {p : List MemPlace} (hv : Value.okWide Try.prog W .any b 38 v) (h : DataW.Trod enc Try.prog W 0 (fun _ => true) true 38 v d p) :
    ∃ (i : Int) (A : Option Addr) (c : Nat) (rs : List (List Val)), v = .agg #[.int .i64 i, .slice A rs.length c] ∧ Rowz W A rs ∧ (-9223372036854775808 ≤ i ∧ i ≤ 9223372036854775807) ∧ rs.length ≤ 9223372036854775807 ∧ ∀ r ∈ rs, r.length ≤ 9223372036854775807 ∧ ∀ x ∈ r, FitV x := by
  obtain ⟨c0, c1, y0, y1, m, rfl, _, _, h0, h1⟩ := Go.Joins.open_agg2 Try.underlying38/-t-/ (by kernel_rfl) (by kernel_rfl) hv h
  obtain ⟨a0, e0, _, w0⟩ := DataW.trod_int Try.underlying3/-t-/ h0
  simp only [List.cons.injEq, and_true] at e0
  subst e0
  obtain ⟨A, n, c, rfl⟩ := rows_is h1
  obtain ⟨h2, rs, h3, h4, h5⟩ := rows_open h1
  subst h3
  exact ⟨a0, A, c, rs, rfl, h4, bounds_i64 w0, h2, h5⟩
end Go.Proofs.Ytacangeamdcgdaa

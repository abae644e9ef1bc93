/- Columns, and lists of batches, as arguments. -/
import Derived.Test.YtacangeamdcgdaaStq
namespace Go.Proofs.Ytacangeamdcgdaa
open Go.ChangeShapes Go.WideShapes Go.ChangeAt Go.RowKit Go.Deep
set_option maxRecDepth 100000 in
theorem open_cols {H : Type} {enc : TypeId × Value → H} {W : World} {fuel : Nat} {x : DataW H × List MemPlace} {a : Option Addr} {len cap : Nat}
    (h : DataW.trod enc Try.prog W 0 (fun _ => true) true fuel 22 [.slice a len cap] = some x) :
    len ≤ 9223372036854775807 ∧ len ≤ cap ∧ ∃ vs : List Col, vs.length = len ∧ Cols W a vs ∧ ∀ x ∈ vs, FitC x := by
  obtain ⟨h1, h2, h3, h4⟩ := open_elems (k := 2) Try.underlying22/-t-/ (by kernel_rfl) (by omega) h
  refine ⟨by omega, h1, ?_⟩
  have key : ∀ i, i < len → ∃ v : Col, At W a 2 i [.string v.nm, .int .i64 v.kd] ∧ FitC v := by
    intro i hi
    obtain ⟨cs, n, y, hl, hat, ht⟩ := h4 i hi
    obtain ⟨y0, y1, k, _, _, g0, g1⟩ := trod_struct2 Try.underlying78/-t-/ ht
    match cs, hl, hat, g0, g1 with
    | [u, v], _, hat, g0, g1 =>
      have c3 : Try.prog.cellsOf 3 = 1 := by kernel_rfl
      have c9 : Try.prog.cellsOf 9 = 1 := by kernel_rfl
      have g0' : DataW.trod enc Try.prog W 0 (fun _ => true) true k 9 [u] = some y0 := by simpa [c9] using g0
      have g1' : DataW.trod enc Try.prog W 0 (fun _ => true) true k 3 [v] = some y1 := by simpa [c9, c3] using g1
      obtain ⟨a0, e0, _, w0⟩ := DataW.trod_string Try.underlying9/-t-/ g0'
      obtain ⟨a1, e1, _, w1⟩ := DataW.trod_int Try.underlying3/-t-/ g1'
      simp only [List.cons.injEq, and_true] at e0 e1
      subst e0 e1
      exact ⟨⟨a0, a1⟩, hat, ⟨by unfold maxLen at w0; exact w0, bounds_i64 w1⟩⟩
  obtain ⟨f, hf⟩ := choose_lt key
  refine ⟨(List.range len).map f, by simp, ?_, fun x hx => ?_⟩
  · rcases Nat.eq_zero_or_pos len with h0 | h0
    · exact .inl (by subst h0; rfl)
    · obtain ⟨b, off, rfl, hb, _⟩ := (hf 0 h0).1
      refine .inr ⟨b, off, rfl, hb, fun i hi => ?_⟩
      have hi2 : i < len := by simpa using hi
      have hg : ((List.range len).map f).getD i default = f i := by simp [List.getD, hi2]
      obtain ⟨b', off', e, _, hc⟩ := (hf i hi2).1
      cases Option.some.inj e
      rw [hg]
      exact ⟨hc 0 (by omega), hc 1 (by omega)⟩
  · obtain ⟨i, hi, rfl⟩ := List.mem_map.1 hx
    exact (hf i (by simpa using hi)).2
set_option maxRecDepth 100000 in
theorem open_bats {H : Type} {enc : TypeId × Value → H} {W : World} {fuel : Nat} {x : DataW H × List MemPlace} {a : Option Addr} {len cap : Nat}
    (h : DataW.trod enc Try.prog W 0 (fun _ => true) true fuel 25 [.slice a len cap] = some x) :
    len ≤ 9223372036854775807 ∧ ∃ bs : List Bat, bs.length = len ∧ Bats W a bs ∧ ∀ x ∈ bs, FitB x := by
  obtain ⟨h1, h2, h3, h4⟩ := open_elems (k := 2) Try.underlying25/-t-/ (by kernel_rfl) (by omega) h
  refine ⟨by omega, ?_⟩
  have key : ∀ i, i < len → ∃ v : Bat, (∃ Ai ci, At W a 2 i [.int .i64 v.id, .slice Ai v.rows.length ci] ∧ Rowz W Ai v.rows) ∧ FitB v := by
    intro i hi
    obtain ⟨cs, n, y, hl, hat, ht⟩ := h4 i hi
    obtain ⟨y0, y1, k, _, _, g0, g1⟩ := trod_struct2 Try.underlying38/-t-/ ht
    match cs, hl, hat, g0, g1 with
    | [u, v], _, hat, g0, g1 =>
      have c3 : Try.prog.cellsOf 3 = 1 := by kernel_rfl
      have c36 : Try.prog.cellsOf 36 = 1 := by kernel_rfl
      have g0' : DataW.trod enc Try.prog W 0 (fun _ => true) true k 3 [u] = some y0 := by simpa [c3] using g0
      have g1' : DataW.trod enc Try.prog W 0 (fun _ => true) true k 36 [v] = some y1 := by simpa [c36] using g1
      obtain ⟨a0, e0, _, w0⟩ := DataW.trod_int Try.underlying3/-t-/ g0'
      obtain ⟨Ai, li, ci, rfl⟩ := rows_is g1'
      obtain ⟨q1, rs, q2, q3, q4⟩ := rows_open g1'
      subst q2
      simp only [List.cons.injEq, and_true] at e0
      subst e0
      exact ⟨⟨a0, rs⟩, ⟨Ai, ci, hat, q3⟩, ⟨bounds_i64 w0, q1, q4⟩⟩
  obtain ⟨f, hf⟩ := choose_lt key
  refine ⟨(List.range len).map f, by simp, ?_, fun x hx => ?_⟩
  · rcases Nat.eq_zero_or_pos len with h0 | h0
    · exact .inl (by subst h0; rfl)
    · obtain ⟨Ai, ci, ⟨b, off, rfl, hb, _⟩, _⟩ := (hf 0 h0).1
      refine .inr ⟨b, off, rfl, hb, fun i hi => ?_⟩
      have hi2 : i < len := by simpa using hi
      have hg : ((List.range len).map f).getD i default = f i := by simp [List.getD, hi2]
      obtain ⟨Ai, ci, ⟨b', off', e, _, hc⟩, hv⟩ := (hf i hi2).1
      cases Option.some.inj e
      rw [hg]
      exact ⟨Ai, ci, hc 0 (by omega), hc 1 (by omega), hv⟩
  · obtain ⟨i, hi, rfl⟩ := List.mem_map.1 hx
    exact (hf i (by simpa using hi)).2
end Go.Proofs.Ytacangeamdcgdaa

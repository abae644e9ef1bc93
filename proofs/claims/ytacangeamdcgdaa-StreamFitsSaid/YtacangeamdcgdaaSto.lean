/- Rows of values, as they read; what arguments give. -/
import Derived.Test.YtacangeamdcgdaaVlc
import Derived.Test.YtacangeamdcgdaaOpen
import Derived.ProofKit
import Derived.Lib.SmallJoins
import Derived.OpenShut
import Derived.ChangeOld
import Derived.Deep.Slices
import Derived.Deep.Strs
namespace Go.Proofs.Ytacangeamdcgdaa
open Go.ChangeShapes Go.WideShapes Go.ChangeAt Go.RowKit Go.Deep
/-- A slice of rows, as it reads. -/
def Rowz (w : World) (A : Option Addr) (rs : List (List Val)) : Prop :=
  rs = [] ∨ ∃ b off, A = some ⟨b, off, none⟩ ∧ b < w.heap.size ∧ ∀ i, i < rs.length → ∃ Ai ci, w.cell? ⟨b, off + i, none⟩ = some (.slice Ai (rs.getD i []).length ci) ∧ Vals w Ai (rs.getD i [])
theorem Rowz.below {w w' : World} {A : Option Addr} {rs : List (List Val)} (h : Rowz w A rs) (hb : Below w.heap.size w w') : Rowz w' A rs := by
  rcases h with h | ⟨b, off, hA, hbw, hcell⟩
  · exact .inl h
  · refine .inr ⟨b, off, hA, Nat.lt_of_lt_of_le hbw hb.size, fun i hi => ?_⟩
    obtain ⟨Ai, ci, h1, h2⟩ := hcell i hi
    exact ⟨Ai, ci, (hb.cell (p := ⟨b, off + i, none⟩) hbw).trans h1, h2.keep hb⟩
set_option maxRecDepth 100000 in
theorem open_val {H : Type} {enc : TypeId × Value → H} {W : World} {b : Nat} {v : Value} {d : DataW H} {p : List MemPlace} (hv : Value.okWide Try.prog W .any b 93 v) (h : DataW.Trod enc Try.prog W 0 (fun _ => true) true 93 v d p) :
    ∃ x : Val, v = .agg #[.int .i64 x.k, .int .i64 x.n, .string x.s] ∧ FitV x := by
  obtain ⟨c0, c1, c2, y0, y1, y2, m, rfl, _, _, h0, h1, h2⟩ := Go.Joins.open_agg3 Try.underlying93/-t-/ (by kernel_rfl) (by kernel_rfl) hv h
  obtain ⟨a0, e0, _, w0⟩ := DataW.trod_int Try.underlying3/-t-/ h0
  obtain ⟨a1, e1, _, w1⟩ := DataW.trod_int Try.underlying2/-t-/ h1
  obtain ⟨a2, e2, _, w2⟩ := DataW.trod_string Try.underlying9/-t-/ h2
  simp only [List.cons.injEq, and_true] at e0 e1 e2
  subst e0 e1 e2
  exact ⟨⟨a0, a1, a2⟩, rfl, bounds_i64 w0, bounds_i64 w1, by unfold maxLen at w2; exact w2⟩
set_option maxRecDepth 100000 in
theorem open_vals {H : Type} {enc : TypeId × Value → H} {W : World} {fuel : Nat} {x : DataW H × List MemPlace} {a : Option Addr} {len cap : Nat}
    (h : DataW.trod enc Try.prog W 0 (fun _ => true) true fuel 76 [.slice a len cap] = some x) :
    len ≤ 9223372036854775807 ∧ len ≤ cap ∧ ∃ vs : List Val, vs.length = len ∧ Vals W a vs ∧ ∀ x ∈ vs, FitV x := by
  obtain ⟨h1, h2, h3, h4⟩ := open_elems (k := 3) Try.underlying76/-t-/ (by kernel_rfl) (by omega) h
  refine ⟨by omega, h1, ?_⟩
  have key : ∀ i, i < len → ∃ v : Val, At W a 3 i [.int .i64 v.k, .int .i64 v.n, .string v.s] ∧ FitV v := by
    intro i hi
    obtain ⟨cs, n, y, hl, hat, ht⟩ := h4 i hi
    obtain ⟨y0, y1, y2, k, _, _, g0, g1, g2⟩ := trod_struct3 Try.underlying93/-t-/ ht
    match cs, hl, hat, g0, g1, g2 with
    | [u, v, z], _, hat, g0, g1, g2 =>
      have c3 : Try.prog.cellsOf 3 = 1 := by kernel_rfl
      have c2 : Try.prog.cellsOf 2 = 1 := by kernel_rfl
      have c9 : Try.prog.cellsOf 9 = 1 := by kernel_rfl
      have g0' : DataW.trod enc Try.prog W 0 (fun _ => true) true k 3 [u] = some y0 := by simpa [c3] using g0
      have g1' : DataW.trod enc Try.prog W 0 (fun _ => true) true k 2 [v] = some y1 := by simpa [c3, c2] using g1
      have g2' : DataW.trod enc Try.prog W 0 (fun _ => true) true k 9 [z] = some y2 := by simpa [c3, c2, c9] using g2
      obtain ⟨a0, e0, _, w0⟩ := DataW.trod_int Try.underlying3/-t-/ g0'
      obtain ⟨a1, e1, _, w1⟩ := DataW.trod_int Try.underlying2/-t-/ g1'
      obtain ⟨a2, e2, _, w2⟩ := DataW.trod_string Try.underlying9/-t-/ g2'
      simp only [List.cons.injEq, and_true] at e0 e1 e2
      subst e0 e1 e2
      exact ⟨⟨a0, a1, a2⟩, hat, bounds_i64 w0, bounds_i64 w1, by unfold maxLen at w2; exact w2⟩
  obtain ⟨f, hf⟩ := choose_lt key
  refine ⟨(List.range len).map f, by simp, ?_, fun x hx => ?_⟩
  · rcases Nat.eq_zero_or_pos len with h0 | h0
    · exact .inl (by subst h0; rfl)
    · obtain ⟨b, off, rfl, hb, _⟩ := (hf 0 h0).1
      refine .inr ⟨b, off, rfl, hb, fun i hi => ?_⟩
      have hi2 : i < len := by simpa using hi
      have hg : ((List.range len).map f).getD i default = f i := by simp [List.getD, hi2]
      obtain ⟨b', off', e, _, hc⟩ := (hf i hi2).1
      cases Option.some.inj e
      rw [hg]
      exact ⟨hc 0 (by omega), hc 1 (by omega), hc 2 (by omega)⟩
  · obtain ⟨i, hi, rfl⟩ := List.mem_map.1 hx
    exact (hf i (by simpa using hi)).2
theorem rows_open {H : Type} {enc : TypeId × Value → H} {W : World} {fuel : Nat} {x : DataW H × List MemPlace} {a : Option Addr} {len cap : Nat}
    (h : DataW.trod enc Try.prog W 0 (fun _ => true) true fuel 36 [.slice a len cap] = some x) :
    len ≤ 9223372036854775807 ∧ ∃ rs : List (List Val), rs.length = len ∧ Rowz W a rs ∧ ∀ r ∈ rs, r.length ≤ 9223372036854775807 ∧ ∀ x ∈ r, FitV x := by
  obtain ⟨h1, h2, h3, h4⟩ := open_elems (k := 1) Try.underlying36/-t-/ (by kernel_rfl) (by omega) h
  refine ⟨by omega, ?_⟩
  have key : ∀ i, i < len → ∃ r : List Val, (∃ Ai ci, At W a 1 i [.slice Ai r.length ci] ∧ Vals W Ai r) ∧ r.length ≤ 9223372036854775807 ∧ ∀ x ∈ r, FitV x := by
    intro i hi
    obtain ⟨cs, n, y, hl, hat, ht⟩ := h4 i hi
    have hsl : ∃ Ai li ci, cs = [.slice Ai li ci] := by
      rcases open_slice Try.underlying76/-t-/ ht with ⟨h1, _⟩ | ⟨ad, l, c, m, n, D, Pl, h1, _⟩
      · exact ⟨_, _, _, h1⟩
      · exact ⟨_, _, _, h1⟩
    obtain ⟨Ai, li, ci, rfl⟩ := hsl
    obtain ⟨g1, g2, vs, hvl, hv, hf⟩ := open_vals ht
    subst hvl
    exact ⟨vs, ⟨Ai, ci, hat, hv⟩, g1, hf⟩
  obtain ⟨f, hf⟩ := choose_lt key
  refine ⟨(List.range len).map f, by simp, ?_, fun r hr => ?_⟩
  · rcases Nat.eq_zero_or_pos len with h0 | h0
    · exact .inl (by subst h0; rfl)
    · obtain ⟨Ai, ci, ⟨b, off, rfl, hb, _⟩, _⟩ := (hf 0 h0).1
      refine .inr ⟨b, off, rfl, hb, fun i hi => ?_⟩
      have hi2 : i < len := by simpa using hi
      have hg : ((List.range len).map f).getD i [] = f i := by simp [List.getD, hi2]
      obtain ⟨Ai, ci, ⟨b', off', e, _, hc⟩, hv⟩ := (hf i hi2).1
      cases Option.some.inj e
      rw [hg]
      have h0 := hc 0 (by omega)
      simp at h0
      exact ⟨Ai, ci, h0, hv⟩
  · obtain ⟨i, hi, rfl⟩ := List.mem_map.1 hr
    exact (hf i (by simpa using hi)).2
end Go.Proofs.Ytacangeamdcgdaa

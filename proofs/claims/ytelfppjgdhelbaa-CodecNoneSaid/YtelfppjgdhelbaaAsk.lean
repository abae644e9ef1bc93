/- What is taken next: in memory, as an argument. -/
import Derived.Test.YtelfppjgdhelbaaSme
import Derived.Test.YtelfppjgdhelbaaOpw
namespace Go.Proofs.Ytelfppjgdhelbaa
open Go.ChangeShapes Go.WideShapes Go.ChangeAt Go.RowKit Go.Deep
structure Ask where
  k : Int
  n : Int
  m : Int
instance : Inhabited Ask := ⟨⟨0, 0, 0⟩⟩
structure FitA (x : Ask) : Prop where
  k : -9223372036854775808 ≤ x.k ∧ x.k ≤ 9223372036854775807
  n : -9223372036854775808 ≤ x.n ∧ x.n ≤ 9223372036854775807
  m : -9223372036854775808 ≤ x.m ∧ x.m ≤ 9223372036854775807
def Asks (w : World) (A : Option Addr) (xs : List Ask) : Prop :=
  xs = [] ∨ ∃ b off, A = some ⟨b, off, none⟩ ∧ b < w.heap.size ∧ ∀ i, i < xs.length → w.cell? ⟨b, off + i * 3, none⟩ = some (.int .i64 (xs.getD i default).k) ∧ w.cell? ⟨b, off + i * 3 + 1, none⟩ = some (.int .i64 (xs.getD i default).n) ∧ w.cell? ⟨b, off + i * 3 + 2, none⟩ = some (.int .i64 (xs.getD i default).m)
set_option maxRecDepth 100000 in
theorem open_asks {H : Type} {enc : TypeId × Value → H} {W : World} {fuel : Nat} {x : DataW H × List MemPlace} {a : Option Addr} {len cap : Nat}
    (h : DataW.trod enc Try.prog W 0 (fun _ => true) true fuel 53/-t-/ [.slice a len cap] = some x) :
    len ≤ 9223372036854775807 ∧ len ≤ cap ∧ ∃ vs : List Ask, vs.length = len ∧ Asks W a vs ∧ ∀ x ∈ vs, FitA x := by
  obtain ⟨h1, h2, h3, h4⟩ := open_elems (k := 3) Try.underlying53/-t-/ (by kernel_rfl) (by omega) h
  refine ⟨by omega, h1, ?_⟩
  have key : ∀ i, i < len → ∃ v : Ask, At W a 3 i [.int .i64 v.k, .int .i64 v.n, .int .i64 v.m] ∧ FitA v := by
    intro i hi
    obtain ⟨cs, n, y, hl, hat, ht⟩ := h4 i hi
    obtain ⟨y0, y1, y2, k, _, _, g0, g1, g2⟩ := trod_struct3 Try.underlying61/-t-/ ht
    match cs, hl, hat, g0, g1, g2 with
    | [u, v, z], _, hat, g0, g1, g2 =>
      have c3 : Try.prog.cellsOf 3/-t-/ = 1 := by kernel_rfl
      have g0' : DataW.trod enc Try.prog W 0 (fun _ => true) true k 3/-t-/ [u] = some y0 := by simpa [c3] using g0
      have g1' : DataW.trod enc Try.prog W 0 (fun _ => true) true k 3/-t-/ [v] = some y1 := by simpa [c3] using g1
      have g2' : DataW.trod enc Try.prog W 0 (fun _ => true) true k 3/-t-/ [z] = some y2 := by simpa [c3] using g2
      obtain ⟨a0, e0, _, w0⟩ := DataW.trod_int Try.underlying3/-t-/ g0'
      obtain ⟨a1, e1, _, w1⟩ := DataW.trod_int Try.underlying3/-t-/ g1'
      obtain ⟨a2, e2, _, w2⟩ := DataW.trod_int Try.underlying3/-t-/ g2'
      simp only [List.cons.injEq, and_true] at e0 e1 e2
      subst e0 e1 e2
      exact ⟨⟨a0, a1, a2⟩, hat, bounds_i64 w0, bounds_i64 w1, bounds_i64 w2⟩
  obtain ⟨f, hf⟩ := choose_lt key
  refine ⟨(List.range len).map f, by simp, ?_, fun x hx => ?_⟩
  · rcases Nat.eq_zero_or_pos len with h0 | h0
    · exact .inl (by subst h0; rfl)
    · obtain ⟨b, off, rfl, hb, _⟩ := (hf 0 h0).1
      refine .inr ⟨b, off, rfl, hb, fun i hi => ?_⟩
      have hi2 : i < len := by simpa using hi
      have hg : ((List.range len).map f).getD i default = f i := by simp [List.getD, hi2]
      obtain ⟨b', off', e, _, hc⟩ := (hf i hi2).1
      cases Option.some.inj e
      rw [hg]
      exact ⟨hc 0 (by omega), hc 1 (by omega), hc 2 (by omega)⟩
  · obtain ⟨i, hi, rfl⟩ := List.mem_map.1 hx
    exact (hf i (by simpa using hi)).2
theorem array3 {α : Type} {c : Array α} (h : c.size = 3) : ∃ a b d, c = #[a, b, d] := by
  obtain ⟨l⟩ := c
  match l, h with
  | [a, b, d], _ => exact ⟨a, b, d, rfl⟩
set_option maxRecDepth 100000 in
theorem open_ask {H : Type} {enc : TypeId × Value → H} {W : World} {b : Nat} {v : Value} {d : DataW H} {p : List MemPlace} (hv : Value.okWide Try.prog W .any b 61/-t-/ v) (h : DataW.Trod enc Try.prog W 0 (fun _ => true) true 61/-t-/ v d p) :
    ∃ x : Ask, v = .agg #[.int .i64 x.k, .int .i64 x.n, .int .i64 x.m] ∧ FitA x := by
  obtain ⟨cs, rfl, hsz⟩ := okWide_struct Try.underlying61/-t-/ hv
  have hC : Try.prog.cellsOf 61/-t-/ = 3 := by kernel_rfl
  obtain ⟨c0, c1, c2, rfl⟩ := array3 (hsz.trans hC)
  obtain ⟨fuel, hf⟩ := h
  obtain ⟨xs, n, _, hx, hl, hlen, hg⟩ := DataW.trod_struct Try.underlying61/-t-/ hf
  have k3 : Try.prog.cellsOf 3/-t-/ = 1 := by kernel_rfl
  match xs, hlen with
  | [y0, y1, y2], _ =>
    have g0 : DataW.trod enc Try.prog W 0 (fun _ => true) true n 3/-t-/ [c0] = some y0 := by simpa [Value.cells, k3] using hg 0 _ rfl
    have g1 : DataW.trod enc Try.prog W 0 (fun _ => true) true n 3/-t-/ [c1] = some y1 := by simpa [Value.cells, k3] using hg 1 _ rfl
    have g2 : DataW.trod enc Try.prog W 0 (fun _ => true) true n 3/-t-/ [c2] = some y2 := by simpa [Value.cells, k3] using hg 2 _ rfl
    obtain ⟨a0, e0, _, w0⟩ := DataW.trod_int Try.underlying3/-t-/ g0
    obtain ⟨a1, e1, _, w1⟩ := DataW.trod_int Try.underlying3/-t-/ g1
    obtain ⟨a2, e2, _, w2⟩ := DataW.trod_int Try.underlying3/-t-/ g2
    simp only [List.cons.injEq, and_true] at e0 e1 e2
    subst e0 e1 e2
    exact ⟨⟨a0, a1, a2⟩, rfl, bounds_i64 w0, bounds_i64 w1, bounds_i64 w2⟩
end Go.Proofs.Ytelfppjgdhelbaa

/- What arguments give: values, rows of values, texts, numbers. -/
import Derived.Test.YtddejkmfffeikaaSak
import Derived.Test.YtddejkmfffeikaaOpen
import Derived.ProofKit
import Derived.Lib.SmallJoins
import Derived.OpenShut
import Derived.ChangeOld
import Derived.Deep.Slices
import Derived.Deep.Strs
namespace Go.Proofs.Ytddejkmfffeikaa
open Go.ChangeShapes Go.WideShapes Go.ChangeAt Go.RowKit Go.Deep
set_option maxRecDepth 100000 in
theorem open_val {H : Type} {enc : TypeId × Value → H} {W : World} {b : Nat} {v : Value} {d : DataW H} {p : List MemPlace} (hv : Value.okWide Try.prog W .any b 55 v) (h : DataW.Trod enc Try.prog W 0 (fun _ => true) true 55 v d p) :
    ∃ x : Val, v = .agg #[.int .i64 x.k, .int .i64 x.n, .string x.s] ∧ FitV x := by
  obtain ⟨c0, c1, c2, y0, y1, y2, m, rfl, _, _, h0, h1, h2⟩ := Go.Joins.open_agg3 Try.underlying55/-t-/ (by kernel_rfl) (by kernel_rfl) hv h
  obtain ⟨a0, e0, _, w0⟩ := DataW.trod_int Try.underlying3/-t-/ h0
  obtain ⟨a1, e1, _, w1⟩ := DataW.trod_int Try.underlying2/-t-/ h1
  obtain ⟨a2, e2, _, w2⟩ := DataW.trod_string Try.underlying9/-t-/ h2
  simp only [List.cons.injEq, and_true] at e0 e1 e2
  subst e0 e1 e2
  exact ⟨⟨a0, a1, a2⟩, rfl, bounds_i64 w0, bounds_i64 w1, by unfold maxLen at w2; exact w2⟩
set_option maxRecDepth 100000 in
theorem open_vals {H : Type} {enc : TypeId × Value → H} {W : World} {fuel : Nat} {x : DataW H × List MemPlace} {a : Option Addr} {len cap : Nat}
    (h : DataW.trod enc Try.prog W 0 (fun _ => true) true fuel 35 [.slice a len cap] = some x) :
    len ≤ 9223372036854775807 ∧ len ≤ cap ∧ ∃ vs : List Val, vs.length = len ∧ Vals W a vs ∧ ∀ x ∈ vs, FitV x := by
  obtain ⟨h1, h2, h3, h4⟩ := open_elems (k := 3) Try.underlying35/-t-/ (by kernel_rfl) (by omega) h
  refine ⟨by omega, h1, ?_⟩
  have key : ∀ i, i < len → ∃ v : Val, At W a 3 i [.int .i64 v.k, .int .i64 v.n, .string v.s] ∧ FitV v := by
    intro i hi
    obtain ⟨cs, n, y, hl, hat, ht⟩ := h4 i hi
    obtain ⟨y0, y1, y2, k, _, _, g0, g1, g2⟩ := trod_struct3 Try.underlying55/-t-/ ht
    match cs, hl, hat, g0, g1, g2 with
    | [u, v, z], _, hat, g0, g1, g2 =>
      have c3 : Try.prog.cellsOf 3 = 1 := by kernel_rfl
      have c2 : Try.prog.cellsOf 2 = 1 := by kernel_rfl
      have c9 : Try.prog.cellsOf 9 = 1 := by kernel_rfl
      have g0' : DataW.trod enc Try.prog W 0 (fun _ => true) true k 3 [u] = some y0 := by simpa [c3] using g0
      have g1' : DataW.trod enc Try.prog W 0 (fun _ => true) true k 2 [v] = some y1 := by simpa [c3, c2] using g1
      have g2' : DataW.trod enc Try.prog W 0 (fun _ => true) true k 9 [z] = some y2 := by simpa [c3, c2, c9] using g2
      obtain ⟨a0, e0, _, w0⟩ := DataW.trod_int Try.underlying3/-t-/ g0'
      obtain ⟨a1, e1, _, w1⟩ := DataW.trod_int Try.underlying2/-t-/ g1'
      obtain ⟨a2, e2, _, w2⟩ := DataW.trod_string Try.underlying9/-t-/ g2'
      simp only [List.cons.injEq, and_true] at e0 e1 e2
      subst e0 e1 e2
      exact ⟨⟨a0, a1, a2⟩, hat, bounds_i64 w0, bounds_i64 w1, by unfold maxLen at w2; exact w2⟩
  obtain ⟨f, hf⟩ := choose_lt key
  refine ⟨(List.range len).map f, by simp, ?_, fun x hx => ?_⟩
  · rcases Nat.eq_zero_or_pos len with h0 | h0
    · exact .inl (by subst h0; rfl)
    · obtain ⟨b, off, rfl, hb, _⟩ := (hf 0 h0).1
      refine .inr ⟨b, off, rfl, hb, fun i hi => ?_⟩
      have hi2 : i < len := by simpa using hi
      have hg : ((List.range len).map f).getD i default = f i := by simp [List.getD, hi2]
      obtain ⟨b', off', e, _, hc⟩ := (hf i hi2).1
      cases Option.some.inj e
      rw [hg]
      exact ⟨hc 0 (by omega), hc 1 (by omega), hc 2 (by omega)⟩
  · obtain ⟨i, hi, rfl⟩ := List.mem_map.1 hx
    exact (hf i (by simpa using hi)).2
theorem own : ownKnob Try.prog.godebug = none := by kernel_rfl
theorem laidOut : laidOutB Try.prog = true := by kernel_rfl
theorem ints_open {H : Type} {enc : TypeId × Value → H} {W : World} {t e : TypeId} {k : IntKind} (ht : Try.prog.underlying t = some (.slice e)) (he : Try.prog.underlying e = some (.int k)) (hc : Try.prog.cellsOf e = 1) {fuel : Nat} {x : DataW H × List MemPlace} {a : Option Addr} {len cap : Nat}
    (h : DataW.trod enc Try.prog W 0 (fun _ => true) true fuel t [.slice a len cap] = some x) : len ≤ 9223372036854775807 ∧ ∃ xs : List Int, xs.length = len ∧ Ints W k a xs ∧ ∀ n ∈ xs, (Lit.int k n).wf = true := by
  obtain ⟨A, c, xs, hv, hI, h1, h2, hw⟩ := open_ints_in ht he hc h
  cases hv
  exact ⟨by omega, xs, rfl, hI, hw⟩
set_option maxRecDepth 100000 in
theorem open_cols {H : Type} {enc : TypeId × Value → H} {W : World} {fuel : Nat} {x : DataW H × List MemPlace} {a : Option Addr} {len cap : Nat}
    (h : DataW.trod enc Try.prog W 0 (fun _ => true) true fuel 22 [.slice a len cap] = some x) :
    len ≤ 9223372036854775807 ∧ len ≤ cap ∧ ∃ vs : List Col, vs.length = len ∧ Cols W a vs ∧ ∀ x ∈ vs, FitC x := by
  obtain ⟨h1, h2, h3, h4⟩ := open_elems (k := 2) Try.underlying22/-t-/ (by kernel_rfl) (by omega) h
  refine ⟨by omega, h1, ?_⟩
  have key : ∀ i, i < len → ∃ v : Col, At W a 2 i [.string v.nm, .int .i64 v.kd] ∧ FitC v := by
    intro i hi
    obtain ⟨cs, n, y, hl, hat, ht⟩ := h4 i hi
    obtain ⟨y0, y1, k, _, _, g0, g1⟩ := trod_struct2 Try.underlying29/-t-/ ht
    match cs, hl, hat, g0, g1 with
    | [u, v], _, hat, g0, g1 =>
      have c3 : Try.prog.cellsOf 3 = 1 := by kernel_rfl
      have c9 : Try.prog.cellsOf 9 = 1 := by kernel_rfl
      have g0' : DataW.trod enc Try.prog W 0 (fun _ => true) true k 9 [u] = some y0 := by simpa [c9] using g0
      have g1' : DataW.trod enc Try.prog W 0 (fun _ => true) true k 3 [v] = some y1 := by simpa [c9, c3] using g1
      obtain ⟨a0, e0, _, w0⟩ := DataW.trod_string Try.underlying9/-t-/ g0'
      obtain ⟨a1, e1, _, w1⟩ := DataW.trod_int Try.underlying3/-t-/ g1'
      simp only [List.cons.injEq, and_true] at e0 e1
      subst e0 e1
      exact ⟨⟨a0, a1⟩, hat, ⟨by unfold maxLen at w0; exact w0, bounds_i64 w1⟩⟩
  obtain ⟨f, hf⟩ := choose_lt key
  refine ⟨(List.range len).map f, by simp, ?_, fun x hx => ?_⟩
  · rcases Nat.eq_zero_or_pos len with h0 | h0
    · exact .inl (by subst h0; rfl)
    · obtain ⟨b, off, rfl, hb, _⟩ := (hf 0 h0).1
      refine .inr ⟨b, off, rfl, hb, fun i hi => ?_⟩
      have hi2 : i < len := by simpa using hi
      have hg : ((List.range len).map f).getD i default = f i := by simp [List.getD, hi2]
      obtain ⟨b', off', e, _, hc⟩ := (hf i hi2).1
      cases Option.some.inj e
      rw [hg]
      exact ⟨hc 0 (by omega), hc 1 (by omega)⟩
  · obtain ⟨i, hi, rfl⟩ := List.mem_map.1 hx
    exact (hf i (by simpa using hi)).2
set_option maxRecDepth 100000 in
theorem open_inds {H : Type} {enc : TypeId × Value → H} {W : World} {fuel : Nat} {x : DataW H × List MemPlace} {a : Option Addr} {len cap : Nat}
    (h : DataW.trod enc Try.prog W 0 (fun _ => true) true fuel 23 [.slice a len cap] = some x) :
    len ≤ 9223372036854775807 ∧ len ≤ cap ∧ ∃ vs : List Ind, vs.length = len ∧ Inds W a vs ∧ ∀ x ∈ vs, FitI x := by
  obtain ⟨h1, h2, h3, h4⟩ := open_elems (k := 2) Try.underlying23/-t-/ (by kernel_rfl) (by omega) h
  refine ⟨by omega, h1, ?_⟩
  have key : ∀ i, i < len → ∃ v : Ind, (∃ Aj cj, At W a 2 i [.slice Aj v.cols.length cj, .bool v.uq] ∧ Ints W .i64 Aj v.cols ∧ v.cols.length ≤ cj) ∧ FitI v := by
    intro i hi
    obtain ⟨cs, n, y, hl, hat, ht⟩ := h4 i hi
    obtain ⟨y0, y1, k, _, _, g0, g1⟩ := trod_struct2 Try.underlying34/-t-/ ht
    match cs, hl, hat, g0, g1 with
    | [u, v], _, hat, g0, g1 =>
      have c3 : Try.prog.cellsOf 3 = 1 := by kernel_rfl
      have c4 : Try.prog.cellsOf 4 = 1 := by kernel_rfl
      have c32 : Try.prog.cellsOf 32 = 1 := by kernel_rfl
      have g0' : DataW.trod enc Try.prog W 0 (fun _ => true) true k 32 [u] = some y0 := by simpa [c32] using g0
      have g1' : DataW.trod enc Try.prog W 0 (fun _ => true) true k 4 [v] = some y1 := by simpa [c32, c4] using g1
      obtain ⟨Aj, cj, xs, rfl, hI, hc1, hc2, hw⟩ := open_ints_in Try.underlying32/-t-/ Try.underlying3/-t-/ c3 g0'
      obtain ⟨b1, e1, _⟩ := DataW.trod_bool Try.underlying4/-t-/ g1'
      simp only [List.cons.injEq, and_true] at e1
      subst e1
      exact ⟨⟨xs, b1⟩, ⟨Aj, cj, hat, hI, hc1⟩, ⟨by show xs.length ≤ _; omega, fun x hx => bounds_i64 (hw x hx)⟩⟩
  obtain ⟨f, hf⟩ := choose_lt key
  refine ⟨(List.range len).map f, by simp, ?_, fun x hx => ?_⟩
  · rcases Nat.eq_zero_or_pos len with h0 | h0
    · exact .inl (by subst h0; rfl)
    · obtain ⟨Aj, cj, ⟨b, off, rfl, hb, _⟩, _⟩ := (hf 0 h0).1
      refine .inr ⟨b, off, rfl, hb, fun i hi => ?_⟩
      have hi2 : i < len := by simpa using hi
      have hg : ((List.range len).map f).getD i default = f i := by simp [List.getD, hi2]
      obtain ⟨Aj, cj, ⟨b', off', e, _, hc⟩, hI, hc1⟩ := (hf i hi2).1
      cases Option.some.inj e
      rw [hg]
      exact ⟨Aj, cj, hc 0 (by omega), hc 1 (by omega), hI, hc1⟩
  · obtain ⟨i, hi, rfl⟩ := List.mem_map.1 hx
    exact (hf i (by simpa using hi)).2
theorem array6 {α : Type} {cs : Array α} (h : cs.size = 6) : ∃ c0 c1 c2 c3 c4 c5, cs = #[c0, c1, c2, c3, c4, c5] := by
  obtain ⟨l⟩ := cs
  match l, h with
  | [c0, c1, c2, c3, c4, c5], _ => exact ⟨c0, c1, c2, c3, c4, c5, rfl⟩
theorem slice_is {H : Type} {enc : TypeId × Value → H} {W : World} {t e : TypeId} {fuel : Nat} {v : Value} {x : DataW H × List MemPlace} (ht : Try.prog.underlying t = some (.slice e)) (h : DataW.trod enc Try.prog W 0 (fun _ => true) true fuel t [v] = some x) : ∃ A n c, v = .slice A n c := by
  rcases open_slice ht h with ⟨h1, _⟩ | ⟨ad, l, c, m, n, D, Pl, h1, _⟩
  · simp at h1; exact ⟨_, _, _, h1⟩
  · simp at h1; exact ⟨_, _, _, h1⟩
set_option maxRecDepth 100000 in
theorem open_sch {H : Type} {enc : TypeId × Value → H} {W : World} {b : Nat} {v : Value} {d : DataW H} {p : List MemPlace} (hv : Value.okWide Try.prog W .any b 25 v) (h : DataW.Trod enc Try.prog W 0 (fun _ => true) true 25 v d p) :
    ∃ s : Sch, SchV W v s ∧ FitS s := by
  obtain ⟨cs, rfl, hsz⟩ := okWide_struct Try.underlying25/-t-/ hv
  have hC : Try.prog.cellsOf 25 = 6 := by kernel_rfl
  obtain ⟨c0, c1, c2, c3, c4, c5, rfl⟩ := array6 (hsz.trans hC)
  obtain ⟨fuel, hf⟩ := h
  obtain ⟨xs, n, _, hx, hl, hlen, hg⟩ := DataW.trod_struct Try.underlying25/-t-/ hf
  have k3 : Try.prog.cellsOf 3 = 1 := by kernel_rfl
  have k9 : Try.prog.cellsOf 9 = 1 := by kernel_rfl
  have c22 : Try.prog.cellsOf 22 = 1 := by kernel_rfl
  have c23 : Try.prog.cellsOf 23 = 1 := by kernel_rfl
  match xs, hlen with
  | [y0, y1, y2, y3, y4, y5], _ =>
    have g0 : DataW.trod enc Try.prog W 0 (fun _ => true) true n 9 [c0] = some y0 := by simpa [Value.cells, k9] using hg 0 _ rfl
    have g1 : DataW.trod enc Try.prog W 0 (fun _ => true) true n 22 [c1] = some y1 := by simpa [Value.cells, c22] using hg 1 _ rfl
    have g2 : DataW.trod enc Try.prog W 0 (fun _ => true) true n 23 [c2] = some y2 := by simpa [Value.cells, c23] using hg 2 _ rfl
    have g3 : DataW.trod enc Try.prog W 0 (fun _ => true) true n 3 [c3] = some y3 := by simpa [Value.cells, k3] using hg 3 _ rfl
    have g4 : DataW.trod enc Try.prog W 0 (fun _ => true) true n 3 [c4] = some y4 := by simpa [Value.cells, k3] using hg 4 _ rfl
    have g5 : DataW.trod enc Try.prog W 0 (fun _ => true) true n 3 [c5] = some y5 := by simpa [Value.cells, k3] using hg 5 _ rfl
    obtain ⟨s0, e0, _, z0⟩ := DataW.trod_string Try.underlying9/-t-/ g0
    obtain ⟨A1, n1, k1, e1⟩ := slice_is Try.underlying22/-t-/ g1
    obtain ⟨A2, n2, k2, e2⟩ := slice_is Try.underlying23/-t-/ g2
    obtain ⟨a3, e3, _, w3⟩ := DataW.trod_int Try.underlying3/-t-/ g3
    obtain ⟨a4, e4, _, w4⟩ := DataW.trod_int Try.underlying3/-t-/ g4
    obtain ⟨a5, e5, _, w5⟩ := DataW.trod_int Try.underlying3/-t-/ g5
    simp only [List.cons.injEq, and_true] at e0 e3 e4 e5
    subst e0 e1 e2 e3 e4 e5
    obtain ⟨l1, m1, cols, hc, hC1, hF1⟩ := open_cols g1
    obtain ⟨l2, m2, is, hi, hI2, hF2⟩ := open_inds g2
    subst hc hi
    exact ⟨⟨s0, cols, is, a3, a4, a5⟩, ⟨_, _, _, _, rfl, hC1, hI2, m1, m2⟩, ⟨by unfold maxLen at z0; exact z0, l1, l2, hF1, hF2, bounds_i64 w3, bounds_i64 w4, bounds_i64 w5⟩⟩
end Go.Proofs.Ytddejkmfffeikaa

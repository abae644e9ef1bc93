/- What an argument that is a value, or a slice of values, gives; the tables; a world that meets them. -/
import Derived.Test.YtabdmhlnaahdlaaDoorKpr
import Derived.Test.YtabdmhlnaahdlaaDoorOpen
import Derived.Test.YtabdmhlnaahdlaaDoorCards
import Derived.Test.YtabdmhlnaahdlaaDoorTie
import Derived.Lib.SmallJoins
import Derived.ProofKit
import Derived.OpenShut
import Derived.ChangeOld
import Derived.Deep.DeepHandedRow
namespace Go.Proofs.YtabdmhlnaahdlaaDoor
open Go.ChangeShapes Go.WideShapes Go.ChangeAt Go.RowKit Go.Deep
set_option maxRecDepth 100000 in
theorem open_val {H : Type} {enc : TypeId × Value → H} {W : World} {b : Nat} {v : Value} {d : DataW H} {p : List MemPlace} (hv : Value.okWide Tryd.prog W .any b 35/-t-/ v) (h : DataW.Trod enc Tryd.prog W 0 (fun _ => true) true 35/-t-/ v d p) :
    ∃ x : Val, v = .agg #[.int .i64 x.k, .int .i64 x.n, .string x.s] ∧ FitV x := by
  obtain ⟨c0, c1, c2, y0, y1, y2, m, rfl, _, _, h0, h1, h2⟩ := Go.Joins.open_agg3 Tryd.underlying35/-t-/ (by kernel_rfl) (by kernel_rfl) hv h
  obtain ⟨a0, e0, _, w0⟩ := DataW.trod_int Tryd.underlying3/-t-/ h0
  obtain ⟨a1, e1, _, w1⟩ := DataW.trod_int Tryd.underlying2/-t-/ h1
  obtain ⟨a2, e2, _, w2⟩ := DataW.trod_string Tryd.underlying9/-t-/ h2
  simp only [List.cons.injEq, and_true] at e0 e1 e2
  subst e0 e1 e2
  exact ⟨⟨a0, a1, a2⟩, rfl, bounds_i64 w0, bounds_i64 w1, by unfold maxLen at w2; exact w2⟩
set_option maxRecDepth 100000 in
theorem open_vals {H : Type} {enc : TypeId × Value → H} {W : World} {fuel : Nat} {x : DataW H × List MemPlace} {a : Option Addr} {len cap : Nat}
    (h : DataW.trod enc Tryd.prog W 0 (fun _ => true) true fuel 31/-t-/ [.slice a len cap] = some x) :
    len ≤ 9223372036854775807 ∧ len ≤ cap ∧ ∃ vs : List Val, vs.length = len ∧ Vals W a vs ∧ ∀ x ∈ vs, FitV x := by
  obtain ⟨h1, h2, h3, h4⟩ := open_elems (k := 3) Tryd.underlying31/-t-/ (by kernel_rfl) (by omega) h
  refine ⟨by omega, h1, ?_⟩
  have key : ∀ i, i < len → ∃ v : Val, At W a 3 i [.int .i64 v.k, .int .i64 v.n, .string v.s] ∧ FitV v := by
    intro i hi
    obtain ⟨cs, n, y, hl, hat, ht⟩ := h4 i hi
    obtain ⟨y0, y1, y2, k, _, _, g0, g1, g2⟩ := trod_struct3 Tryd.underlying35/-t-/ ht
    match cs, hl, hat, g0, g1, g2 with
    | [u, v, z], _, hat, g0, g1, g2 =>
      have c3 : Tryd.prog.cellsOf 3/-t-/ = 1 := by kernel_rfl
      have c2 : Tryd.prog.cellsOf 2/-t-/ = 1 := by kernel_rfl
      have c9 : Tryd.prog.cellsOf 9/-t-/ = 1 := by kernel_rfl
      have g0' : DataW.trod enc Tryd.prog W 0 (fun _ => true) true k 3/-t-/ [u] = some y0 := by simpa [c3] using g0
      have g1' : DataW.trod enc Tryd.prog W 0 (fun _ => true) true k 2/-t-/ [v] = some y1 := by simpa [c3, c2] using g1
      have g2' : DataW.trod enc Tryd.prog W 0 (fun _ => true) true k 9/-t-/ [z] = some y2 := by simpa [c3, c2, c9] using g2
      obtain ⟨a0, e0, _, w0⟩ := DataW.trod_int Tryd.underlying3/-t-/ g0'
      obtain ⟨a1, e1, _, w1⟩ := DataW.trod_int Tryd.underlying2/-t-/ g1'
      obtain ⟨a2, e2, _, w2⟩ := DataW.trod_string Tryd.underlying9/-t-/ g2'
      simp only [List.cons.injEq, and_true] at e0 e1 e2
      subst e0 e1 e2
      exact ⟨⟨a0, a1, a2⟩, hat, bounds_i64 w0, bounds_i64 w1, by unfold maxLen at w2; exact w2⟩
  obtain ⟨f, hf⟩ := choose_lt key
  refine ⟨(List.range len).map f, by simp, ?_, fun x hx => ?_⟩
  · rcases Nat.eq_zero_or_pos len with h0 | h0
    · exact .inl (by subst h0; rfl)
    · obtain ⟨b, off, rfl, hb, _⟩ := (hf 0 h0).1
      refine .inr ⟨b, off, rfl, hb, fun i hi => ?_⟩
      have hi2 : i < len := by simpa using hi
      have hg : ((List.range len).map f).getD i default = f i := by simp [List.getD, hi2]
      obtain ⟨b', off', e, _, hc⟩ := (hf i hi2).1
      cases Option.some.inj e
      rw [hg]
      exact ⟨hc 0 (by omega), hc 1 (by omega), hc 2 (by omega)⟩
  · obtain ⟨i, hi, rfl⟩ := List.mem_map.1 hx
    exact (hf i (by simpa using hi)).2
theorem own : ownKnob Tryd.prog.godebug = none := by kernel_rfl
theorem laidOut : laidOutB Tryd.prog = true := by kernel_rfl
theorem gPowType : (Tryd.prog.globals[1/-g-/]?).map (·.type) = some 119/-t-/ := by kernel_rfl
theorem cells20 : Tryd.prog.cellsOf 119/-t-/ = 20 := by kernel_rfl
theorem cells1 : Tryd.prog.cellsOf 59/-t-/ = 1 := by kernel_rfl
theorem pow10_data : Rows.laid_internal_strconv_uint64pow10 (H := Unit) = Lib.tabData .u64 Lib.pow10Tab := by kernel_rfl
theorem table {W : World} (h : laidMetH Tryd.prog Rows.valueBackRow.laid W) (hS : W.ShapedOpen Tryd.prog) : PT W := by
  have h2 : laidMet Tryd.prog [("math/bits.deBruijn32tab", Rows.laid_math_bits_deBruijn32tab), ("math/bits.deBruijn64tab", Rows.laid_math_bits_deBruijn64tab), ("internal/strconv.uint64pow10", Rows.laid_internal_strconv_uint64pow10), ("unicode/utf8.acceptRanges", Rows.laid_unicode_utf8_acceptRanges), ("unicode/utf8.first", Rows.laid_unicode_utf8_first)] W := h
  have h3 := h2.tail.tail
  rw [pow10_data] at h3
  have h4 := Lib.tabIs_of_head (rest := [("unicode/utf8.acceptRanges", Rows.laid_unicode_utf8_acceptRanges), ("unicode/utf8.first", Rows.laid_unicode_utf8_first)]) gPow gPowType Tryd.underlying119/-t-/ Tryd.underlying59/-t-/ cells1 cells20 h3
  exact ⟨h4, Tryd.laysM155.s1_3 W hS, World.block_lt_of_cell? W ⟨1/-g-/, 0, none⟩ (h4.cell gPow 0 (by decide))⟩
/-- A datum of integers, or of structs of integers, as a block's cells. -/
def cellsFlat (d : DataW Unit) : Array Value := match d with
  | .agg l => (l.flatMap fun | .lit (.int k z) => [Value.int k z] | .agg m => (m.map fun | .lit (.int k z) => Value.int k z | _ => Value.int .u8 0) | _ => []).toArray
  | _ => #[]
noncomputable def laidWorld (os : Os) : World :=
  { World.holding Tryd.prog os ⟨#[], #[], []⟩ with heap := (((((World.holding Tryd.prog os ⟨#[], #[], []⟩).heap.modify 4/-g-/ fun o => putCells o (cellsFlat Rows.laid_math_bits_deBruijn32tab)).modify 5/-g-/ fun o => putCells o (cellsFlat Rows.laid_math_bits_deBruijn64tab)).modify 1/-g-/ fun o => putCells o (cellsFlat Rows.laid_internal_strconv_uint64pow10)).modify 3/-g-/ fun o => putCells o (cellsFlat Rows.laid_unicode_utf8_acceptRanges)).modify 2/-g-/ fun o => putCells o (cellsFlat Rows.laid_unicode_utf8_first) }
end Go.Proofs.YtabdmhlnaahdlaaDoor

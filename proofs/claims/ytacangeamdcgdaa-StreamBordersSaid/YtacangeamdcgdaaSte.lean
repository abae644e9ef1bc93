/- Contracts of the statements of package stream: whether a stream is right. -/
import Derived.Test.YtacangeamdcgdaaStd
import Derived.Test.YtacangeamdcgdaaRri
namespace Go.Proofs.Ytacangeamdcgdaa
open Go.ChangeShapes Go.WideShapes Go.ChangeAt Go.RowKit Go.Deep
set_option maxRecDepth 100000 in
set_option maxHeartbeats 4000000 in
theorem lright_any (nm : ByteArray) (A : Option Addr) (c : Nat) (cs : List Col) (w : World) (hnm : nm.size ≤ 9223372036854775807) (hC : Cols w A cs) (hcl : cs.length ≤ 9223372036854775807) (hcc : cs.length ≤ c) (hcf : ∀ x ∈ cs, FitC x) :
    Calls Try.prog 12/-f-/ #[.agg #[.string nm, .slice A cs.length c]] w fun e w' => e = .returned (.bool (schB (strS nm cs))) ∧ Below w.heap.size w w' := by
  have X := rW_is w nm A c cs hC hcc
  have RS := Lib.hid (refright_sch _ (strS nm cs) (rW w nm A cs.length c) X.1 (str_fit nm cs hnm hcl hcf))
  have HB := Lib.hid X.2
  generalize schB (strS nm cs) = q at *
  clear X hC hcf
  unfold rW at RS HB
  go_enter Try.func12, Try.ntmps12
  go_wp2_with (go_at_call 40/-f-/; (with_reducible refine RS.out.mono ?_); rintro e w2 ⟨rfl, hb2⟩; have HB2 := Lib.hid (HB.out.trans (hb2.mono HB.out.size)); clear hb2)
  go_ret
  exact ⟨rfl, HB2.out⟩
set_option maxRecDepth 100000 in
theorem open_stream {H : Type} {enc : TypeId × Value → H} {W : World} {b : Nat} {v : Value} {d : DataW H} {p : List MemPlace} (hv : Value.okWide Try.prog W .any b 24 v) (h : DataW.Trod enc Try.prog W 0 (fun _ => true) true 24 v d p) :
    ∃ (nm : ByteArray) (A : Option Addr) (c : Nat) (cs : List Col), v = .agg #[.string nm, .slice A cs.length c] ∧ Cols W A cs ∧ nm.size ≤ 9223372036854775807 ∧ cs.length ≤ 9223372036854775807 ∧ cs.length ≤ c ∧ ∀ x ∈ cs, FitC x := by
  obtain ⟨c0, c1, y0, y1, m, rfl, _, _, h0, h1⟩ := Go.Joins.open_agg2 Try.underlying24/-t-/ (by kernel_rfl) (by kernel_rfl) hv h
  obtain ⟨a0, e0, _, w0⟩ := DataW.trod_string Try.underlying9/-t-/ h0
  simp only [List.cons.injEq, and_true] at e0
  subst e0
  have hsl : ∃ A n c, c1 = .slice A n c := by
    rcases open_slice Try.underlying22/-t-/ h1 with ⟨h1, _⟩ | ⟨ad, l, c, m, n, D, Pl, h1, _⟩
    · exact ⟨_, _, _, by simpa using h1⟩
    · exact ⟨_, _, _, by simpa using h1⟩
  obtain ⟨A, n, c, rfl⟩ := hsl
  obtain ⟨h2, h3, cs, h4, h5, h6⟩ := open_cols h1
  subst h4
  exact ⟨a0, A, c, cs, rfl, h5, by unfold maxLen at w0; exact w0, h2, h3, h6⟩
end Go.Proofs.Ytacangeamdcgdaa

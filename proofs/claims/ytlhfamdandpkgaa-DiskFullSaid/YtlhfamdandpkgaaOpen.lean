/- What an argument that is a slice gives: its elements, one by one, with their cells. -/
import Derived.Test.YtlhfamdandpkgaaKit
import Derived.OpenShut
import Derived.ChangeOld
import Derived.Deep.Slices
import Derived.Deep.Strs
namespace Go.Proofs.Ytlhfamdandpkgaa
open Go.ChangeShapes Go.WideShapes Go.ChangeAt Go.RowKit Go.Deep
theorem addr_off (b off i : Nat) : (⟨b, off, none⟩ : Addr).add i = ⟨b, off + i, none⟩ := by cases i <;> simp [Addr.add]
/-- Element i of a slice at A lies in these cells. -/
def At (w : World) (A : Option Addr) (k i : Nat) (cs : List Value) : Prop :=
  ∃ b off, A = some ⟨b, off, none⟩ ∧ b < w.heap.size ∧ ∀ j, j < k → w.cell? ⟨b, off + i * k + j, none⟩ = cs[j]?
theorem At.below {w w' : World} {A : Option Addr} {k i : Nat} {cs : List Value} (h : At w A k i cs) (hb : Below w.heap.size w w') : At w' A k i cs := by
  obtain ⟨b, off, h1, h2, h3⟩ := h
  exact ⟨b, off, h1, Nat.lt_of_lt_of_le h2 hb.size, fun j hj => (hb.cell (p := ⟨b, off + i * k + j, none⟩) h2).trans (h3 j hj)⟩
theorem open_elems {H : Type} {enc : TypeId × Value → H} {W : World} {t e : TypeId} {k : Nat} (ht : Try.prog.underlying t = some (.slice e)) (hk : Try.prog.cellsOf e = k) (hk0 : 0 < k) {fuel : Nat} {x : DataW H × List MemPlace} {a : Option Addr} {len cap : Nat}
    (h : DataW.trod enc Try.prog W 0 (fun _ => true) true fuel t [.slice a len cap] = some x) :
    len ≤ cap ∧ cap ≤ 9223372036854775807 ∧ (a = none → len = 0 ∧ cap = 0) ∧ ∀ i, i < len → ∃ cs n y, cs.length = k ∧ At W a k i cs ∧ DataW.trod enc Try.prog W 0 (fun _ => true) true n e cs = some y := by
  subst hk
  rcases open_slice ht h with ⟨h1, _⟩ | ⟨ad, l, c, m, n, D, Pl, h1, _, hl, hm, hmm, _, hel⟩
  · simp at h1
    obtain ⟨rfl, rfl, rfl⟩ := h1
    exact ⟨Nat.le_refl _, by omega, fun _ => ⟨rfl, rfl⟩, fun i hi => by omega⟩
  · simp at h1
    obtain ⟨rfl, rfl, rfl⟩ := h1
    refine ⟨hl, by unfold maxLen at hm; omega, (fun h => by simp at h), fun i hi => ?_⟩
    obtain ⟨cs', hc, ht'⟩ := hel i (by simp at hmm; omega)
    obtain ⟨_, hlen, hcell⟩ := World.cells?_some hc
    obtain ⟨b, off, spot⟩ := ad
    have hc0 := hcell 0 hk0
    have hspot : spot = none := by
      obtain ⟨cs0, hcs0, _⟩ := hel 0 (by simp at hmm; omega)
      obtain ⟨_, hlen0, hcell0⟩ := World.cells?_some hcs0
      have h00 := hcell0 0 hk0
      rw [List.getElem?_eq_getElem (by omega)] at h00
      simpa [Addr.add] using World.cell?_spot h00
    subst hspot
    refine ⟨cs', n, _, hlen, ⟨b, off, rfl, ?_, fun j hj => ?_⟩, ht'⟩
    · rw [addr_off, addr_off, List.getElem?_eq_getElem (by omega)] at hc0
      exact World.block_lt_of_cell? _ _ hc0
    · have := hcell j hj
      rw [addr_off, addr_off] at this
      exact this
/-- A slice of integers among an element's cells. -/
theorem open_ints_in {H : Type} {enc : TypeId × Value → H} {W : World} {t e : TypeId} {k : IntKind} (ht : Try.prog.underlying t = some (.slice e)) (he : Try.prog.underlying e = some (.int k)) (hc : Try.prog.cellsOf e = 1) {fuel : Nat} {x : DataW H × List MemPlace} {v : Value}
    (h : DataW.trod enc Try.prog W 0 (fun _ => true) true fuel t [v] = some x) : ∃ A c xs, v = .slice A xs.length c ∧ Ints W k A xs ∧ xs.length ≤ c ∧ c ≤ 9223372036854775807 ∧ ∀ n ∈ xs, (Lit.int k n).wf = true := by
  rcases open_ints ht he hc h with ⟨hv, _⟩ | ⟨ax, ll, cc, zs, hv, _, hl', hm', hz, _, hcl, hwz⟩
  · simp only [List.cons.injEq, and_true] at hv
    subst hv
    exact ⟨none, 0, [], rfl, .inl rfl, by simp, by omega, fun n hn => by simp at hn⟩
  · simp only [List.cons.injEq, and_true] at hv
    subst hv
    obtain ⟨i1, i2⟩ := ints_of_open hl' (by simpa using hz) hcl
    exact ⟨some ax, cc, zs.take ll, by rw [i2], i1, by rw [i2]; exact hl', by unfold maxLen at hm'; exact hm', fun n hn => hwz n (List.mem_of_mem_take hn)⟩
end Go.Proofs.Ytlhfamdandpkgaa

/- Contracts of package schema: no two of a list are the same (columns, numbers). -/
import Derived.Test.YtacangeamdcgdaaNan
import Derived.Laws.DeepStrings4
namespace Go.Proofs.Ytacangeamdcgdaa
open Go.ChangeShapes Go.WideShapes Go.ChangeAt Go.RowKit
/-- A column. -/
structure Col where
  nm : ByteArray
  kd : Int
instance : Inhabited Col := ⟨⟨⟨#[]⟩, 0⟩⟩
/-- A slice reads as columns. -/
def Cols (w : World) (A : Option Addr) (cs : List Col) : Prop :=
  cs = [] ∨ ∃ b off, A = some ⟨b, off, none⟩ ∧ b < w.heap.size ∧ ∀ i, i < cs.length → w.cell? ⟨b, off + i * 2, none⟩ = some (.string (cs.getD i default).nm) ∧ w.cell? ⟨b, off + i * 2 + 1, none⟩ = some (.int .i64 (cs.getD i default).kd)
theorem Cols.keep {w w' : World} {A : Option Addr} {cs : List Col} (h : Cols w A cs) (hb : Below w.heap.size w w') : Cols w' A cs := by
  rcases h with h | ⟨b, off, h1, h2, h3⟩
  · exact .inl h
  · exact .inr ⟨b, off, h1, Nat.lt_of_lt_of_le h2 hb.size, fun i hi => ⟨(hb.cell (p := ⟨b, off + i * 2, none⟩) h2).trans (h3 i hi).1, (hb.cell (p := ⟨b, off + i * 2 + 1, none⟩) h2).trans (h3 i hi).2⟩⟩
structure FitC (c : Col) : Prop where
  nm : c.nm.size ≤ 9223372036854775807
  kd : -9223372036854775808 ≤ c.kd ∧ c.kd ≤ 9223372036854775807
/-- The first n of a list are unlike, two by two. -/
def Unl {α : Type} [Inhabited α] (f : α → α → Bool) (l : List α) (n : Nat) : Prop := ∀ i, i < n → ∀ j, j < i → f (l.getD i default) (l.getD j default) = false
def unlB {α : Type} [Inhabited α] (f : α → α → Bool) (l : List α) : Bool := (List.range l.length).all fun i => (List.range i).all fun j => !(f (l.getD i default) (l.getD j default))
theorem unlB_yes {α : Type} [Inhabited α] (f : α → α → Bool) (l : List α) (h : Unl f l l.length) : unlB f l = true := by
  unfold unlB
  rw [List.all_eq_true]
  intro i hi
  rw [List.all_eq_true]
  intro j hj
  rw [h i (by simpa using hi) j (by simpa using hj)]; rfl
theorem unlB_no {α : Type} [Inhabited α] (f : α → α → Bool) (l : List α) (i j : Nat) (hi : i < l.length) (hj : j < i) (h : f (l.getD i default) (l.getD j default) = true) : unlB f l = false := by
  unfold unlB
  rw [List.all_eq_false]
  refine ⟨i, by simpa using hi, ?_⟩
  rw [Bool.not_eq_true, List.all_eq_false]
  exact ⟨j, by simpa using hj, by rw [h]; simp⟩
theorem unlB_unl {α : Type} [Inhabited α] (f : α → α → Bool) (l : List α) (h : unlB f l = true) : Unl f l l.length := by
  intro i hi j hj
  by_cases hf : f (l.getD i default) (l.getD j default) = true
  · rw [unlB_no f l i j hi hj hf] at h; cases h
  · simpa using hf
theorem Unl.succ {α : Type} [Inhabited α] {f : α → α → Bool} {l : List α} {n : Nat} (h : Unl f l n) (k : ∀ j, j < n → f (l.getD n default) (l.getD j default) = false) : Unl f l (n + 1) := by
  intro i hi j hj
  by_cases h1 : i < n
  · exact h i h1 j hj
  · obtain rfl : i = n := by omega
    exact k j hj
def sameNm (a b : Col) : Bool := decide (a.nm = b.nm)
theorem str_eq_dec (a b : ByteArray) : (a.toList == b.toList) = decide (a = b) := by
  by_cases h : a = b
  · subst h; simp
  · rw [decide_eq_false h]
    exact beq_eq_false_iff_ne.2 (fun h2 => h (by rw [ByteArray.toList_eq, ByteArray.toList_eq] at h2; exact ByteArray.ext (Array.toList_inj.1 h2)))
set_option maxRecDepth 100000 in
theorem clo_col (a b : Col) (w : World) : Calls Try.prog 100/-f-/ #[.agg #[.string a.nm, .int .i64 a.kd], .agg #[.string b.nm, .int .i64 b.kd]] w fun e w' => e = .returned (.bool (sameNm a b)) ∧ Below w.heap.size w w' := by
  have HE := Lib.hid (str_eq_dec a.nm b.nm)
  go_enter Try.func100, Try.ntmps100
  go_wp2
  go_ret
  exact ⟨ret_bool (by first | exact HE.out | (unfold sameNm; simp [HE.out])), ((Below.refl _ _).alloc (Nat.le_refl _) _).alloc (by simp) _⟩
end Go.Proofs.Ytacangeamdcgdaa

/- Contracts of package value: whether values are right; and the document's answer. -/
import Derived.Test.YtacangeamdcgdaaVal
import Derived.Test.YtacangeamdcgdaaOff
import Derived.Deep.RegionWith
import Derived.Deep.RegionHeld3
namespace Go.Proofs.Ytacangeamdcgdaa
open Go.ChangeShapes Go.WideShapes Go.ChangeAt Go.RowKit
/-- A value. -/
structure Val where
  k : Int
  n : Int
  s : ByteArray
instance : Inhabited Val := ⟨⟨0, 0, ⟨#[]⟩⟩⟩
/-- A slice reads as a list of values. -/
def Vals (w : World) (A : Option Addr) (vs : List Val) : Prop :=
  vs = [] ∨ ∃ b off, A = some ⟨b, off, none⟩ ∧ b < w.heap.size ∧ ∀ i, i < vs.length → w.cell? ⟨b, off + i * 3, none⟩ = some (.int .i64 (vs.getD i default).k) ∧ w.cell? ⟨b, off + i * 3 + 1, none⟩ = some (.int .i64 (vs.getD i default).n) ∧ w.cell? ⟨b, off + i * 3 + 2, none⟩ = some (.string (vs.getD i default).s)
theorem Vals.keep {w w' : World} {A : Option Addr} {vs : List Val} (h : Vals w A vs) (hb : Below w.heap.size w w') : Vals w' A vs := by
  rcases h with h | ⟨b, off, h1, h2, h3⟩
  · exact .inl h
  · exact .inr ⟨b, off, h1, Nat.lt_of_lt_of_le h2 hb.size, fun i hi => ⟨(hb.cell (p := ⟨b, off + i * 3, none⟩) h2).trans (h3 i hi).1, (hb.cell (p := ⟨b, off + i * 3 + 1, none⟩) h2).trans (h3 i hi).2.1, (hb.cell (p := ⟨b, off + i * 3 + 2, none⟩) h2).trans (h3 i hi).2.2⟩⟩
/-- A value's numbers fit, its text is one. -/
structure FitV (x : Val) : Prop where
  k : -9223372036854775808 ≤ x.k ∧ x.k ≤ 9223372036854775807
  n : -9223372036854775808 ≤ x.n ∧ x.n ≤ 9223372036854775807
  s : x.s.size ≤ 9223372036854775807
/-- Whether a value is right. -/
def rightB (k n : Int) (s : ByteArray) : Bool := (k == 1 && decide (s = ⟨#[]⟩)) || (k == 2 && n == 0 && decide (s.size ≤ 200)) || (k == 3 && (n == 0 || n == 1) && decide (s = ⟨#[]⟩))
theorem rightB_1 (n : Int) (s : ByteArray) : rightB 1 n s = decide (s = ⟨#[]⟩) := by simp [rightB]
theorem rightB_2 (n : Int) (s : ByteArray) : rightB 2 n s = (n == 0 && decide (s.size ≤ 200)) := by simp [rightB]
theorem rightB_3 (n : Int) (s : ByteArray) : rightB 3 n s = ((n == 0 || n == 1) && decide (s = ⟨#[]⟩)) := by simp [rightB]
theorem rightB_no (k n : Int) (s : ByteArray) (h1 : k ≠ 1) (h2 : k ≠ 2) (h3 : k ≠ 3) : rightB k n s = false := by simp [rightB, h1, h2, h3]
set_option maxHeartbeats 4000000 in
theorem right_any (k n : Int) (s : ByteArray) (w : World) (hs : s.size ≤ 9223372036854775807) :
    Calls Try.prog 71/-f-/ #[.agg #[.int .i64 k, .int .i64 n, .string s]] w fun e w' => e = .returned (.bool (rightB k n s)) ∧ Below w.heap.size w w' := by
  have E := fun (a b a' b' : Int) (c c' : ByteArray) (W : World) => eqVal a b a' b' c c' W
  have hg := guardVal
  by_cases h1 : k = 1
  · subst h1
    rw [rightB_1]
    go_enter Try.func71/-f-/, Try.ntmps71/-f-/
    go_upto_region 3 with fail
    go_region_with (go_at_call 86/-f-/; refine (int_any _ _).mono ?_; rintro e w1 ⟨rfl, hb1⟩; have hq := hb1.cell (p := ⟨w.heap.size, 0, none⟩) (by simp); have hq1 := hb1.cell (p := ⟨w.heap.size, 1, none⟩) (by simp); have hq2 := hb1.cell (p := ⟨w.heap.size, 2, none⟩) (by simp))
    all_goals go_wp2
    all_goals
      go_ret
      exact ⟨ret_bool (by simp), ((Below.refl _ _).alloc (Nat.le_refl _) _).drew.trans (hb1.mono (by simp))⟩
  by_cases h2 : k = 2
  · subst h2
    rw [rightB_2]
    clear h1
    by_cases hn : n = 0
    · subst hn
      have E2 : ∀ W, (Op.equalIn 10000 93 (.agg #[.int .i64 2, .int .i64 0, .string s]) (.agg #[.int .i64 2, .int .i64 0, .string s])).run Try.prog W = .ok true W := fun W => by rw [E]; simp
      clear E
      by_cases hz : s.size ≤ 200
      all_goals
        go_enter Try.func71/-f-/, Try.ntmps71/-f-/
        go_upto_region 5 with fail
        first | go_region_with (go_at_call 87/-f-/; refine (text_any _ _).mono ?_; rintro e w1 ⟨rfl, hb1⟩; have hq := hb1.cell (p := ⟨w.heap.size, 0, none⟩) (by simp); have hq1 := hb1.cell (p := ⟨w.heap.size, 1, none⟩) (by simp); have hq2 := hb1.cell (p := ⟨w.heap.size, 2, none⟩) (by simp)) | fail
        all_goals go_wp2
        all_goals
          go_ret
          exact ⟨ret_bool (by simp [hz]; try omega), ((Below.refl _ _).alloc (Nat.le_refl _) _).drew.trans (hb1.mono (by simp))⟩
    · have hn0 : (n == 0) = false := beq_eq_false_iff_ne.2 hn
      have E2 : ∀ W, (Op.equalIn 10000 93 (.agg #[.int .i64 2, .int .i64 n, .string s]) (.agg #[.int .i64 2, .int .i64 0, .string s])).run Try.prog W = .ok false W := fun W => by rw [E, hn0]; simp
      clear hn E
      go_enter Try.func71/-f-/, Try.ntmps71/-f-/
      go_upto_region 5 with fail
      first | go_region_with (go_at_call 87/-f-/; refine (text_any _ _).mono ?_; rintro e w1 ⟨rfl, hb1⟩; have hq := hb1.cell (p := ⟨w.heap.size, 0, none⟩) (by simp); have hq1 := hb1.cell (p := ⟨w.heap.size, 1, none⟩) (by simp); have hq2 := hb1.cell (p := ⟨w.heap.size, 2, none⟩) (by simp)) | fail
      all_goals go_wp2
      all_goals
        go_ret
        exact ⟨ret_bool (by simp [hn0]), ((Below.refl _ _).alloc (Nat.le_refl _) _).drew.trans (hb1.mono (by simp))⟩
  by_cases h3 : k = 3
  · subst h3
    rw [rightB_3]
    clear h1 h2
    by_cases hn : n = 1
    · subst hn
      go_enter Try.func71/-f-/, Try.ntmps71/-f-/
      go_upto_region 7 with fail
      go_region_with (go_at_call 88/-f-/; refine (bool_any _ _).mono ?_; rintro e w1 ⟨rfl, hb1⟩; have hq := hb1.cell (p := ⟨w.heap.size, 0, none⟩) (by simp); have hq1 := hb1.cell (p := ⟨w.heap.size, 1, none⟩) (by simp); have hq2 := hb1.cell (p := ⟨w.heap.size, 2, none⟩) (by simp))
      all_goals go_wp2
      all_goals
        go_ret
        exact ⟨ret_bool (by simp), ((Below.refl _ _).alloc (Nat.le_refl _) _).drew.trans (hb1.mono (by simp))⟩
    · have hn0 : (n == 1) = false := beq_eq_false_iff_ne.2 hn
      clear hn
      go_enter Try.func71/-f-/, Try.ntmps71/-f-/
      go_upto_region 7 with fail
      go_region_with (go_at_call 88/-f-/; refine (bool_any _ _).mono ?_; rintro e w1 ⟨rfl, hb1⟩; have hq := hb1.cell (p := ⟨w.heap.size, 0, none⟩) (by simp); have hq1 := hb1.cell (p := ⟨w.heap.size, 1, none⟩) (by simp); have hq2 := hb1.cell (p := ⟨w.heap.size, 2, none⟩) (by simp))
      all_goals go_wp2
      all_goals
        go_ret
        exact ⟨ret_bool (by simp [hn0]), ((Below.refl _ _).alloc (Nat.le_refl _) _).drew.trans (hb1.mono (by simp))⟩
  rw [rightB_no k n s h1 h2 h3]
  have hk1 : (k == 1) = false := beq_eq_false_iff_ne.2 h1
  have hk2 : (k == 2) = false := beq_eq_false_iff_ne.2 h2
  have hk3 : (k == 3) = false := beq_eq_false_iff_ne.2 h3
  clear h1 h2 h3 E hg
  go_enter Try.func71/-f-/, Try.ntmps71/-f-/
  go_wp2
  go_ret
  exact ⟨rfl, ((Below.refl _ _).alloc (Nat.le_refl _) _)⟩
end Go.Proofs.Ytacangeamdcgdaa

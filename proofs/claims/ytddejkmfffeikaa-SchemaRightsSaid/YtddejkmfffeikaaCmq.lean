/- Contracts of package value: which stands first; and the document's answer. -/
import Derived.Test.YtddejkmfffeikaaSak
import Derived.Lib.Bytealg
import Derived.Lib.Small
import Derived.WalkLawsBesides
import Derived.StillTailTactics
namespace Go.Proofs.Ytddejkmfffeikaa
open Go.ChangeShapes Go.WideShapes Go.ChangeAt Go.RowKit
/-- The first that isn't nought. -/
def or3 (a b c : Int) : Int := if a ≠ 0 then a else if b ≠ 0 then b else c
def valCmp (a b : Val) : Int := or3 (Lib.compareInt a.k b.k) (Lib.compareInt a.n b.n) (Lib.compareBytes a.s.data.toList b.s.data.toList)
/-- Whether a value stands ahead of another one. -/
def lessB (a b : Val) : Bool := if a.k ≠ b.k then decide (a.k < b.k) else if a.n ≠ b.n then decide (a.n < b.n) else Op.bytesLess a.s.toList b.s.toList
theorem refless_any (a b : Val) (w : World) : Calls Try.prog 68/-f-/ #[.agg #[.int .i64 a.k, .int .i64 a.n, .string a.s], .agg #[.int .i64 b.k, .int .i64 b.n, .string b.s]] w fun e w' => e = .returned (.bool (lessB a b)) ∧ Below w.heap.size w w' := by
  by_cases h1 : a.k = b.k
  · have q1 : (a.k == b.k) = true := by rw [h1]; exact beq_self_eq_true _
    by_cases h2 : a.n = b.n
    · have q2 : (a.n == b.n) = true := by rw [h2]; exact beq_self_eq_true _
      rw [show lessB a b = Op.bytesLess a.s.toList b.s.toList from by simp [lessB, h1, h2]]
      clear h1 h2
      go_enter Try.func68/-f-/, Try.ntmps68/-f-/
      go_wp2
      go_ret
      exact ⟨rfl, ((Below.refl _ _).alloc (Nat.le_refl _) _).alloc (by simp) _⟩
    · have q2 : (a.n == b.n) = false := beq_eq_false_iff_ne.2 h2
      rw [show lessB a b = decide (a.n < b.n) from by simp [lessB, h1, h2]]
      clear h1 h2
      go_enter Try.func68/-f-/, Try.ntmps68/-f-/
      go_wp2
      go_ret
      exact ⟨rfl, ((Below.refl _ _).alloc (Nat.le_refl _) _).alloc (by simp) _⟩
  · have q1 : (a.k == b.k) = false := beq_eq_false_iff_ne.2 h1
    rw [show lessB a b = decide (a.k < b.k) from by simp [lessB, h1]]
    clear h1
    go_enter Try.func68/-f-/, Try.ntmps68/-f-/
    go_wp2
    go_ret
    exact ⟨rfl, ((Below.refl _ _).alloc (Nat.le_refl _) _).alloc (by simp) _⟩
theorem less_cmp : ∀ x y : List UInt8, Op.bytesLess x y = decide (Lib.compareBytes x y < 0)
  | [], [] => by simp [Op.bytesLess, Lib.compareBytes]
  | [], _ :: _ => by simp [Op.bytesLess, Lib.compareBytes]
  | _ :: _, [] => by simp [Op.bytesLess, Lib.compareBytes]
  | a :: x, b :: y => by
    rw [Op.bytesLess, Lib.compareBytes, less_cmp x y]
    by_cases h1 : a < b
    · simp [h1]
    · by_cases h2 : b < a
      · have h3 : ¬ a = b := fun e => by subst e; exact h1 h2
        simp [h1, h2, h3]
      · have h3 : a = b := UInt8.le_antisymm (UInt8.not_lt.1 h2) (UInt8.not_lt.1 h1)
        subst h3
        simp [h1]
theorem cmp_anti : ∀ x y : List UInt8, Lib.compareBytes y x = - Lib.compareBytes x y
  | [], [] => by simp [Lib.compareBytes]
  | [], _ :: _ => by simp [Lib.compareBytes]
  | _ :: _, [] => by simp [Lib.compareBytes]
  | a :: x, b :: y => by
    rw [Lib.compareBytes, Lib.compareBytes, cmp_anti x y]
    by_cases h1 : a < b
    · have h2 : ¬ b < a := fun h => UInt8.lt_irrefl _ (UInt8.lt_trans h1 h)
      simp [h1, h2]
    · by_cases h2 : b < a
      · simp [h1, h2]
      · simp [h1, h2]
theorem cmp_range : ∀ x y : List UInt8, Lib.compareBytes x y = -1 ∨ Lib.compareBytes x y = 0 ∨ Lib.compareBytes x y = 1
  | [], [] => by simp [Lib.compareBytes]
  | [], _ :: _ => by simp [Lib.compareBytes]
  | _ :: _, [] => by simp [Lib.compareBytes]
  | a :: x, b :: y => by
    rw [Lib.compareBytes]
    split
    · simp
    · split
      · simp
      · exact cmp_range x y
theorem valCmp_less (a b : Val) : valCmp a b = if lessB a b = true then -1 else if lessB b a = true then 1 else 0 := by
  unfold valCmp lessB or3 Lib.compareInt
  by_cases h1 : a.k = b.k
  · by_cases h2 : a.n = b.n
    · rw [h1, h2, ByteArray.toList_eq, ByteArray.toList_eq, less_cmp, less_cmp, cmp_anti a.s.data.toList b.s.data.toList]
      simp only [ne_eq, not_true_eq_false, if_false, Int.lt_irrefl, gt_iff_lt]
      rcases cmp_range a.s.data.toList b.s.data.toList with h | h | h <;> rw [h] <;> simp
    · have h3 : ¬ b.n = a.n := fun e => h2 e.symm
      rw [h1]
      simp only [ne_eq, not_true_eq_false, if_false, Int.lt_irrefl, gt_iff_lt, h2, h3, not_false_eq_true, if_true, decide_eq_true_eq]
      by_cases h4 : a.n < b.n
      · simp [h4]
      · have h5 : b.n < a.n := by omega
        simp [h4, h5]
  · have h3 : ¬ b.k = a.k := fun e => h1 e.symm
    simp only [ne_eq, gt_iff_lt, h1, h3, not_false_eq_true, if_true, decide_eq_true_eq]
    by_cases h4 : a.k < b.k
    · simp [h4]
    · have h5 : b.k < a.k := by omega
      simp [h4, h5]
set_option maxRecDepth 100000 in
set_option maxHeartbeats 4000000 in
theorem refcmp_any (a b : Val) (w : World) : Calls Try.prog 50/-f-/ #[.agg #[.int .i64 a.k, .int .i64 a.n, .string a.s], .agg #[.int .i64 b.k, .int .i64 b.n, .string b.s]] w fun e w' => e = .returned (.int .i64 (valCmp a b)) ∧ Below w.heap.size w w' := by
  rw [valCmp_less a b]
  have hbx : Below w.heap.size w ((w.alloc (.cells #[.int .i64 a.k, .int .i64 a.n, .string a.s] 55)).alloc (.cells #[.int .i64 b.k, .int .i64 b.n, .string b.s] 55)) := ((Below.refl _ _).alloc (Nat.le_refl _) _).alloc (by simp) _
  have HBX := Lib.hid hbx
  have L1 := Lib.hid (fun W => refless_any a b W)
  have L2 := Lib.hid (fun W => refless_any b a W)
  clear hbx
  generalize lessB a b = c1 at *
  generalize lessB b a = c2 at *
  cases c1
  · cases c2
    · rw [if_neg (by simp), if_neg (by simp)]
      go_enter Try.func50/-f-/, Try.ntmps50/-f-/
      go_wp2_with (first
        | (go_at_call 68/-f-/; (with_reducible refine (L1.out _).mono ?_); rintro e w1 ⟨rfl, hb1⟩; have q0 := hb1.cell (p := ⟨w.heap.size, 0, none⟩) (by simp; omega); have q1 := hb1.cell (p := ⟨w.heap.size, 1, none⟩) (by simp; omega); have q2 := hb1.cell (p := ⟨w.heap.size, 2, none⟩) (by simp; omega); have p0 := hb1.cell (p := ⟨w.heap.size + 1, 0, none⟩) (by simp); have p1 := hb1.cell (p := ⟨w.heap.size + 1, 1, none⟩) (by simp); have p2 := hb1.cell (p := ⟨w.heap.size + 1, 2, none⟩) (by simp); have HB1 := Lib.hid (HBX.out.trans (hb1.mono HBX.out.size)); have hz1 := hb1.size; simp at hz1; simp at q0 q1 q2 p0 p1 p2; clear hb1)
        | (go_at_call 68/-f-/; (with_reducible refine (L2.out _).mono ?_); rintro e w2 ⟨rfl, hb2⟩))
      go_ret
      exact ⟨rfl, HB1.out.trans (hb2.mono (by omega))⟩
    · rw [if_neg (by simp), if_pos rfl]
      go_enter Try.func50/-f-/, Try.ntmps50/-f-/
      go_wp2_with (first
        | (go_at_call 68/-f-/; (with_reducible refine (L1.out _).mono ?_); rintro e w1 ⟨rfl, hb1⟩; have q0 := hb1.cell (p := ⟨w.heap.size, 0, none⟩) (by simp; omega); have q1 := hb1.cell (p := ⟨w.heap.size, 1, none⟩) (by simp; omega); have q2 := hb1.cell (p := ⟨w.heap.size, 2, none⟩) (by simp; omega); have p0 := hb1.cell (p := ⟨w.heap.size + 1, 0, none⟩) (by simp); have p1 := hb1.cell (p := ⟨w.heap.size + 1, 1, none⟩) (by simp); have p2 := hb1.cell (p := ⟨w.heap.size + 1, 2, none⟩) (by simp); have HB1 := Lib.hid (HBX.out.trans (hb1.mono HBX.out.size)); have hz1 := hb1.size; simp at hz1; simp at q0 q1 q2 p0 p1 p2; clear hb1)
        | (go_at_call 68/-f-/; (with_reducible refine (L2.out _).mono ?_); rintro e w2 ⟨rfl, hb2⟩))
      go_ret
      exact ⟨rfl, HB1.out.trans (hb2.mono (by omega))⟩
  · rw [if_pos rfl]
    go_enter Try.func50/-f-/, Try.ntmps50/-f-/
    go_wp2_with (go_at_call 68/-f-/; (with_reducible refine (L1.out _).mono ?_); rintro e w1 ⟨rfl, hb1⟩)
    go_ret
    exact ⟨rfl, HBX.out.trans (hb1.mono HBX.out.size)⟩
end Go.Proofs.Ytddejkmfffeikaa

/- Contracts of package lex: cursors. -/
import Derived.Test.YtgdfjcmjhagmoaaLxk
namespace Go.Proofs.Ytgdfjcmjhagmoaa
open Go.ChangeShapes Go.WideShapes Go.ChangeAt Go.RowKit
/-- Whether a word is a sign or a name with a text. -/
def saysB (x : Wd) (t : ByteArray) : Bool := (x.kd == 0 || x.kd == 3) && (x.tx.toList == t.toList)
set_option maxRecDepth 100000 in
set_option maxHeartbeats 4000000 in
theorem says_any (x : Wd) (t : ByteArray) (w : World) :
    Calls Try.prog 29/-f-/ #[wdV x, .string t] w fun e w' => e = .returned (.bool (saysB x t)) ∧ Below w.heap.size w w' := by
  obtain ⟨kd, tx, n, a⟩ := x
  show Calls Try.prog 29/-f-/ #[.agg #[.int .i64 kd, .string tx, .int .i64 n, .int .i64 a], .string t] w _
  obtain ⟨q, hq⟩ : ∃ q, q = (tx.toList == t.toList) := ⟨_, rfl⟩
  have e : saysB ⟨kd, tx, n, a⟩ t = ((kd == 0 || kd == 3) && q) := by rw [hq]; rfl
  rw [e]
  clear e
  have hq2 := hq.symm
  clear hq
  by_cases h0 : kd = 0
  · subst h0
    go_enter Try.func29, Try.ntmps29
    go_wp2
    go_ret
    exact ⟨ret_bool (by simp), (Below.refl _ _).alloc (Nat.le_refl _) _⟩
  · have e0 : (kd == 0) = false := beq_eq_false_iff_ne.2 h0
    by_cases h3 : kd = 3
    · subst h3
      go_enter Try.func29, Try.ntmps29
      go_wp2
      go_ret
      exact ⟨ret_bool (by simp), (Below.refl _ _).alloc (Nat.le_refl _) _⟩
    · have e3 : (kd == 3) = false := beq_eq_false_iff_ne.2 h3
      clear h0 h3
      go_enter Try.func29, Try.ntmps29
      go_wp2
      go_ret
      exact ⟨ret_bool (by simp [e0, e3]), (Below.refl _ _).alloc (Nat.le_refl _) _⟩
set_option maxRecDepth 100000 in
theorem left_nil (w : World) : Calls Try.prog 19/-f-/ #[.pointer none] w fun e w' => e = .returned (.int .i64 0) ∧ w' = w := by
  go_enter Try.func19, Try.ntmps19
  go_wp2
  go_ret
  exact ⟨rfl, rfl⟩
set_option maxRecDepth 100000 in
theorem ahead_nil (w : World) (k : Int) : Calls Try.prog 27/-f-/ #[.pointer none, .int .i64 k] w fun e w' => e = .returned (wdV ⟨4, ⟨#[]⟩, 0, 0⟩) ∧ Below w.heap.size w w' := by
  go_enter Try.func27, Try.ntmps27
  go_wp2
  exact bodyPost_ret (v := .agg #[.int .i64 4, .string ⟨#[]⟩, .int .i64 0, .int .i64 0]) (by simp [results, Try.results27, go_sem]) rfl ⟨rfl, by first | exact (Below.refl _ _).alloc (Nat.le_refl _) _ | exact ((Below.refl _ _).alloc (Nat.le_refl _) _).setCell (Nat.le_refl _) _⟩
set_option maxRecDepth 100000 in
theorem word_nil (w : World) : Calls Try.prog 15/-f-/ #[.pointer none] w fun e w' => e = .returned (wdV ⟨4, ⟨#[]⟩, 0, 0⟩) ∧ Below w.heap.size w w' := by
  have A := Lib.hid (show ∀ W, Calls Try.prog 27/-f-/ #[.pointer none, .int .i64 0] W fun e w' => e = .returned (.agg #[.int .i64 4, .string ⟨#[]⟩, .int .i64 0, .int .i64 0]) ∧ Below W.heap.size W w' from fun W => ahead_nil W 0)
  have BK := Lib.hid (fun (wr : World) (h : Below (w4 w).heap.size (w4 w) wr) => (show Blk wr w.heap.size 35 #[.int .i64 0, .string ⟨#[]⟩, .int .i64 0, .int .i64 0] from Blk.below (w := w4 w) (Blk.new w 35 _) h (by rw [w4_size]; omega)))
  have BEL := Lib.hid (fun (wr : World) (h : Below (w4 w).heap.size (w4 w) wr) => (show Below w.heap.size w wr from ((Below.refl _ _).alloc (Nat.le_refl _) _).trans (h.mono (by rw [w4_size]; omega))))
  go_enter Try.func15, Try.ntmps15
  go_wp2_with (go_at_call 27/-f-/; (with_reducible refine (A.out _).mono ?_); rintro e w2 ⟨rfl, hb2⟩; have HB2 := Lib.hid hb2; clear hb2; obtain ⟨c0, c1, c2, c3, f0, f1, f2, f3, hlw⟩ := blk4 (BK.out _ HB2.out))
  exact bodyPost_ret (v := .agg #[.int .i64 4, .string ⟨#[]⟩, .int .i64 0, .int .i64 0]) (by simp [results, Try.results15, go_sem, c0, c1, c2, c3]) rfl ⟨rfl, ((((BEL.out _ HB2.out).setCell (Nat.le_refl _) _).setCell (Nat.le_refl _) _).setCell (Nat.le_refl _) _).setCell (Nat.le_refl _) _⟩
set_option maxRecDepth 100000 in
theorem kind_nil (w : World) (k : Int) : Calls Try.prog 18/-f-/ #[.pointer none, .int .i64 k] w fun e w' => e = .returned (.tuple #[wdV zeroW, .bool false]) ∧ Below w.heap.size w w' := by
  have L := Lib.hid left_nil
  go_enter Try.func18, Try.ntmps18
  go_wp2_with (go_at_call 19/-f-/; (with_reducible refine (L.out _).mono ?_); rintro e w2 ⟨rfl, rfl⟩)
  exact bodyPost_ret (v := .tuple #[.agg #[.int .i64 0, .string ⟨#[]⟩, .int .i64 0, .int .i64 0], .bool false]) (by simp [results, Try.results18, go_sem]) rfl ⟨rfl, by first | exact (Below.refl _ _).alloc (Nat.le_refl _) _ | exact ((Below.refl _ _).alloc (Nat.le_refl _) _).setCell (Nat.le_refl _) _⟩
end Go.Proofs.Ytgdfjcmjhagmoaa

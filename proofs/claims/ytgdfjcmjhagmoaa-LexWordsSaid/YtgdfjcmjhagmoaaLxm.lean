/- Contracts of package lex: cursors that stand. -/
import Derived.Test.YtgdfjcmjhagmoaaLxl
import Derived.Deep.QuietTactic
import Derived.BigQuiet
namespace Go.Proofs.Ytgdfjcmjhagmoaa
open Go.ChangeShapes Go.WideShapes Go.ChangeAt Go.RowKit
theorem blk3 {w : World} {g t : Nat} {a b c : Value} (h : Blk w g t #[a, b, c]) : w.cell? ⟨g, 0, none⟩ = some a ∧ w.cell? ⟨g, 1, none⟩ = some b ∧ w.cell? ⟨g, 2, none⟩ = some c ∧ w.frozen? ⟨g, 0, none⟩ = false ∧ w.frozen? ⟨g, 1, none⟩ = false ∧ w.frozen? ⟨g, 2, none⟩ = false ∧ g < w.heap.size :=
  ⟨h.cell 0, h.cell 1, h.cell 2, h.frozen 0, h.frozen 1, h.frozen 2, h.lt⟩
set_option maxRecDepth 100000 in
set_option maxHeartbeats 4000000 in
theorem left_at (g : Nat) (a z : Int) (A : Option Addr) (n c : Nat) (w : World) (h : Blk w g 63 #[.int .i64 a, .int .i64 z, .slice A n c]) (ha : 0 ≤ a) (han : a ≤ n) (hn : n ≤ 1000000) :
    Calls Try.prog 19/-f-/ #[.pointer (some ⟨g, 0, none⟩)] w fun e w' => e = .returned (.int .i64 ((n : Int) - a)) ∧ (∃ q, w' = w.drewN q) := by
  obtain ⟨c0, c1, c2, f0, f1, f2, hlt⟩ := blk3 h
  go_enter Try.func19, Try.ntmps19
  go_wp2
  go_quiet (fail)
  go_wp2
  go_ret
  exact ⟨ret_int (by go_num), _, rfl⟩
set_option maxRecDepth 100000 in
set_option maxHeartbeats 4000000 in
theorem ahead_end (g : Nat) (a z k : Int) (A : Option Addr) (n c : Nat) (w : World) (h : Blk w g 63 #[.int .i64 a, .int .i64 z, .slice A n c]) (ha : 0 ≤ a) (han : a ≤ n) (hn : n ≤ 1000000) (hk : (n : Int) - a ≤ k) :
    Calls Try.prog 27/-f-/ #[.pointer (some ⟨g, 0, none⟩), .int .i64 k] w fun e w' => e = .returned (wdV ⟨4, ⟨#[]⟩, 0, z⟩) ∧ Below w.heap.size w w' := by
  have hlt := h.lt
  have BEL := Lib.hid (fun q => (show Below w.heap.size w ((w4 w).drewN q) from below_drewN ((Below.refl _ _).alloc (Nat.le_refl _) _) q))
  have hg : g ≠ w.heap.size := by omega
  have h4 := h.alloc (.cells #[.int .i64 0, .string ⟨#[]⟩, .int .i64 0, .int .i64 0] 35)
  have L := Lib.hid (left_at g a z A n c (w.alloc (.cells #[.int .i64 0, .string ⟨#[]⟩, .int .i64 0, .int .i64 0] 35)) h4 ha han hn)
  obtain ⟨c0, c1, c2, f0, f1, f2, hlt4⟩ := blk3 h4
  go_enter Try.func27, Try.ntmps27
  go_wp2_with (go_at_call 19/-f-/; (with_reducible refine L.out.mono ?_); rintro e w2 ⟨rfl, q, rfl⟩)
  exact bodyPost_ret (v := .agg #[.int .i64 4, .string ⟨#[]⟩, .int .i64 0, .int .i64 z]) (by simp [results, Try.results27, go_sem]) rfl ⟨rfl, by first | exact (BEL.out q) | exact ((((BEL.out q).setCell (Nat.le_refl _) _).setCell (Nat.le_refl _) _).setCell (Nat.le_refl _) _).setCell (Nat.le_refl _) _⟩
end Go.Proofs.Ytgdfjcmjhagmoaa

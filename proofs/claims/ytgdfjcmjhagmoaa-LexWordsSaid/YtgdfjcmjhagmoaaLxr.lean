/- Contracts of package lex: Kind. -/
import Derived.Test.YtgdfjcmjhagmoaaLxq
namespace Go.Proofs.Ytgdfjcmjhagmoaa
open Go.ChangeShapes Go.WideShapes Go.ChangeAt Go.RowKit
theorem Wds.drewN {w : World} {A : Option Addr} {ws : List Wd} (h : Wds w A ws) (q : Nat) : Wds (w.drewN q) A ws := by
  rcases h with h | ⟨b, off, h1, h2, h3⟩
  · exact .inl h
  · exact .inr ⟨b, off, h1, h2, h3⟩
set_option maxRecDepth 100000 in
set_option maxHeartbeats 4000000 in
theorem kind_end (g a : Nat) (z k : Int) (A : Option Addr) (n c : Nat) (w : World) (h : Blk w g 63 #[.int .i64 a, .int .i64 z, .slice A n c]) (hn : n ≤ 1000000) (hk : a = n) :
    Calls Try.prog 18/-f-/ #[.pointer (some ⟨g, 0, none⟩), .int .i64 k] w fun e w' => e = .returned (.tuple #[wdV zeroW, .bool false]) ∧ Below w.heap.size w w' := by
  subst hk
  have BEL := Lib.hid (fun q => (show Below w.heap.size w ((w4 w).drewN q) from below_drewN ((Below.refl _ _).alloc (Nat.le_refl _) _) q))
  have L' := left_at g a z A a c (w.alloc (.cells #[.int .i64 0, .string ⟨#[]⟩, .int .i64 0, .int .i64 0] 35)) (h.alloc _) (by omega) (by omega) hn
  rw [show (a : Int) - (a : Int) = 0 from by omega] at L'
  have L := Lib.hid L'
  clear L' h
  go_enter Try.func18, Try.ntmps18
  go_wp2_with (go_at_call 19/-f-/; (with_reducible refine L.out.mono ?_); rintro e w2 ⟨rfl, q, rfl⟩)
  exact bodyPost_ret (v := .tuple #[.agg #[.int .i64 0, .string ⟨#[]⟩, .int .i64 0, .int .i64 0], .bool false]) (by simp [results, Try.results18, go_sem]) rfl ⟨rfl, by first | exact (BEL.out q) | exact ((((BEL.out q).setCell (Nat.le_refl _) _).setCell (Nat.le_refl _) _).setCell (Nat.le_refl _) _).setCell (Nat.le_refl _) _⟩
theorem field_kd (W : World) (kd n p : Int) (tx : ByteArray) : (Instr.field 35 (.agg #[.int .i64 kd, .string tx, .int .i64 n, .int .i64 p]) 0).run Try.prog W = .ok (.int .i64 kd) W := by
  simp [Instr.field, asAgg, go_sem]
set_option maxRecDepth 100000 in
set_option maxHeartbeats 8000000 in
theorem kind_no (g a : Nat) (z k : Int) (A : Option Addr) (ws : List Wd) (c : Nat) (w : World) (h : Blk w g 63 #[.int .i64 a, .int .i64 z, .slice A ws.length c]) (hw : Wds w A ws) (hn : ws.length ≤ 1000000) (ha : a < ws.length) (hk : (ws.getD a default).kd ≠ k) :
    Calls Try.prog 18/-f-/ #[.pointer (some ⟨g, 0, none⟩), .int .i64 k] w fun e w' => e = .returned (.tuple #[wdV zeroW, .bool false]) ∧ Below w.heap.size w w' := by
  have BEL := Lib.hid (fun q (wr : World) (h : Below ((w4 w).drewN q).heap.size ((w4 w).drewN q) wr) => (show Below w.heap.size w wr from (below_drewN ((Below.refl _ _).alloc (Nat.le_refl _) _) q).trans (h.mono (by rw [show ((w4 w).drewN q).heap.size = (w4 w).heap.size from rfl, w4_size]; omega))))
  have BK := Lib.hid (fun q (wr : World) (h : Below ((w4 w).drewN q).heap.size ((w4 w).drewN q) wr) => (show Blk wr w.heap.size 35 #[.int .i64 0, .string ⟨#[]⟩, .int .i64 0, .int .i64 0] from Blk.below (w := (w4 w).drewN q) (Blk.new w 35 _) h (by rw [show ((w4 w).drewN q).heap.size = (w4 w).heap.size from rfl, w4_size]; omega)))
  have L := Lib.hid (left_at g a z A ws.length c (w.alloc (.cells #[.int .i64 0, .string ⟨#[]⟩, .int .i64 0, .int .i64 0] 35)) (h.alloc _) (by omega) (by omega) hn)
  have W' := fun q => word_at g a z A ws c ((w4 w).drewN q) (h.alloc _) ((hw.alloc _).drewN q) hn ha
  generalize ws.getD a default = x at *
  obtain ⟨kd, tx, n, p⟩ := x
  have W := Lib.hid (show ∀ q, Calls Try.prog 15/-f-/ #[.pointer (some ⟨g, 0, none⟩)] ((w.alloc (.cells #[.int .i64 0, .string ⟨#[]⟩, .int .i64 0, .int .i64 0] 35)).drewN q) fun e w' => e = .returned (.agg #[.int .i64 kd, .string tx, .int .i64 n, .int .i64 p]) ∧ Below ((w4 w).drewN q).heap.size ((w4 w).drewN q) w' from W')
  have e1 : (kd == k) = false := beq_eq_false_iff_ne.2 hk
  have e2 : (kd != k) = true := by rw [bne, e1]; rfl
  have e3 : ((ws.length : Int) - (a : Int) == 0) = false := beq_eq_false_iff_ne.2 (by omega)
  have hfld := fun W => field_kd W kd n p tx
  clear W' h hw hk
  go_enter Try.func18, Try.ntmps18
  go_wp2_with (first
    | (go_at_call 19/-f-/; (with_reducible refine L.out.mono ?_); rintro e w2 ⟨rfl, q, rfl⟩)
    | (go_at_call 15/-f-/; (with_reducible refine (W.out _).mono ?_); rintro e w3 ⟨rfl, hb3⟩; have HB3 := Lib.hid hb3; clear hb3; obtain ⟨c0, c1, c2, c3, f0, f1, f2, f3, hlw⟩ := blk4 (BK.out _ _ HB3.out)))
  exact bodyPost_ret (v := .tuple #[.agg #[.int .i64 0, .string ⟨#[]⟩, .int .i64 0, .int .i64 0], .bool false]) (by simp [results, Try.results18, go_sem, c0, c1, c2, c3]) rfl ⟨rfl, ((((BEL.out _ _ HB3.out).setCell (Nat.le_refl _) _).setCell (Nat.le_refl _) _).setCell (Nat.le_refl _) _).setCell (Nat.le_refl _) _⟩
end Go.Proofs.Ytgdfjcmjhagmoaa

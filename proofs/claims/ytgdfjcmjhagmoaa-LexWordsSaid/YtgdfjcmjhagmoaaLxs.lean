/- Contracts of package lex: Kind where the word is of the kind. -/
import Derived.Test.YtgdfjcmjhagmoaaLxr
namespace Go.Proofs.Ytgdfjcmjhagmoaa
open Go.ChangeShapes Go.WideShapes Go.ChangeAt Go.RowKit
set_option maxRecDepth 100000 in
set_option maxHeartbeats 8000000 in
theorem kind_yes (g a : Nat) (z k : Int) (A : Option Addr) (ws : List Wd) (c : Nat) (w : World) (h : Blk w g 63 #[.int .i64 a, .int .i64 z, .slice A ws.length c]) (hw : Wds w A ws) (hn : ws.length ≤ 1000000) (ha : a < ws.length) (hk : (ws.getD a default).kd = k) :
    Calls Try.prog 18/-f-/ #[.pointer (some ⟨g, 0, none⟩), .int .i64 k] w fun e w' => e = .returned (.tuple #[wdV (ws.getD a default), .bool true]) ∧ Off (· = g) w w' ∧ Blk w' g 63 #[.int .i64 ((a : Int) + 1), .int .i64 z, .slice A ws.length c] := by
  have hg := h.lt
  have BEL := Lib.hid (fun q (wr : World) (h : Below ((w4 w).drewN q).heap.size ((w4 w).drewN q) wr) => (show Below w.heap.size w wr from (below_drewN ((Below.refl _ _).alloc (Nat.le_refl _) _) q).trans (h.mono (by rw [show ((w4 w).drewN q).heap.size = (w4 w).heap.size from rfl, w4_size]; omega))))
  have BK := Lib.hid (fun q (wr : World) (h : Below ((w4 w).drewN q).heap.size ((w4 w).drewN q) wr) => (show Blk wr w.heap.size 35 #[.int .i64 0, .string ⟨#[]⟩, .int .i64 0, .int .i64 0] from Blk.below (w := (w4 w).drewN q) (Blk.new w 35 _) h (by rw [show ((w4 w).drewN q).heap.size = (w4 w).heap.size from rfl, w4_size]; omega)))
  have L := Lib.hid (left_at g a z A ws.length c (w.alloc (.cells #[.int .i64 0, .string ⟨#[]⟩, .int .i64 0, .int .i64 0] 35)) (h.alloc _) (by omega) (by omega) hn)
  have W' := fun W (hW : Below w.heap.size w W) => word_at g a z A ws c W (h.below hW h.lt) (by
    rcases hw with h | ⟨b, off, h1, h2, h3⟩
    · exact .inl h
    · refine .inr ⟨b, off, h1, Nat.lt_of_lt_of_le h2 hW.size, fun i hi => ?_⟩
      obtain ⟨x0, x1, x2, x3⟩ := h3 i hi
      exact ⟨(hW.cell (p := ⟨b, off + i * 4, none⟩) h2).trans x0, (hW.cell (p := ⟨b, off + i * 4 + 1, none⟩) h2).trans x1, (hW.cell (p := ⟨b, off + i * 4 + 2, none⟩) h2).trans x2, (hW.cell (p := ⟨b, off + i * 4 + 3, none⟩) h2).trans x3⟩) hn ha
  generalize ws.getD a default = x at *
  obtain ⟨kd, tx, n, p⟩ := x
  have hk2 : kd = k := hk
  subst hk2
  have W := Lib.hid (show ∀ W, Below w.heap.size w W → Calls Try.prog 15/-f-/ #[.pointer (some ⟨g, 0, none⟩)] W fun e w' => e = .returned (.agg #[.int .i64 kd, .string tx, .int .i64 n, .int .i64 p]) ∧ Below W.heap.size W w' from W')
  have B1 := Lib.hid (fun q => (show Below w.heap.size w ((w.alloc (.cells #[.int .i64 0, .string ⟨#[]⟩, .int .i64 0, .int .i64 0] 35)).drewN q) from below_drewN ((Below.refl _ _).alloc (Nat.le_refl _) _) q))
  have e2 : (kd != kd) = false := by simp
  have e3 : ((ws.length : Int) - (a : Int) == 0) = false := beq_eq_false_iff_ne.2 (by omega)
  have hfld := fun W => field_kd W kd n p tx
  have HH := Lib.hid h
  clear W' hw hk h
  go_enter Try.func18, Try.ntmps18
  go_wp2_with (first
    | (go_at_call 19/-f-/; (with_reducible refine L.out.mono ?_); rintro e w2 ⟨rfl, q, rfl⟩)
    | (go_at_call 15/-f-/; (with_reducible refine (W.out _ (B1.out _)).mono ?_); rintro e w3 ⟨rfl, hb3⟩; have HB3 := Lib.hid hb3; have HW3 := Lib.hid (BEL.out _ _ hb3); have hs3 := hb3.size; rw [show ((w.alloc (.cells #[.int .i64 0, .string ⟨#[]⟩, .int .i64 0, .int .i64 0] 35)).drewN q).heap.size = (w4 w).heap.size from rfl, w4_size] at hs3; clear hb3)
    | (go_at_call 15/-f-/; (with_reducible refine (W.out _ HW3.out).mono ?_); rintro e w5 ⟨rfl, hb5⟩; have HB5 := Lib.hid (HB3.out.trans (hb5.mono HB3.out.size)); have HW5 := Lib.hid (BEL.out _ _ HB5.out); have hs5 := hb5.size; clear hb5; obtain ⟨c0, c1, c2, c3, f0, f1, f2, f3, hlw⟩ := blk4 (BK.out _ _ HB5.out); have HG5 := Lib.hid (HH.out.below HW5.out HH.out.lt); obtain ⟨k0, k1, k2, l0, l1, l2, hlg⟩ := blk3 HG5.out; have hgw : g ≠ w.heap.size := (by omega); have hgw5 : g ≠ w5.heap.size := (by omega)))
  have HK4 := ((((((BK.out _ _ HB5.out).far (p := ⟨g, 0, none⟩) (Ne.symm hgw) (.int .i64 ((a : Int) + 1))).put 0 (.int .i64 kd)).put 1 (.string tx)).put 2 (.int .i64 n)).put 3 (.int .i64 p)).alloc (.cells #[.int .i64 kd, .string tx, .int .i64 n, .int .i64 p] 35)
  obtain ⟨m0, m1, m2, m3, _, _, _, _, _⟩ := blk4 (a := .int .i64 kd) (b := .string tx) (c := .int .i64 n) (d := .int .i64 p) HK4
  refine bodyPost_ret (v := .tuple #[.agg #[.int .i64 kd, .string tx, .int .i64 n, .int .i64 p], .bool true]) (by simp [results, Try.results18, go_sem, m0, m1, m2, m3]) rfl ⟨rfl, ?_, ?_⟩
  · exact ((((((Off.of (S := fun x => x = g) HW5.out).put (p := ⟨g, 0, none⟩) (fun _ => rfl) _).put (p := ⟨w.heap.size, 0, none⟩) (fun h => absurd h (Nat.lt_irrefl _)) _).put (p := ⟨w.heap.size, 1, none⟩) (fun h => absurd h (Nat.lt_irrefl _)) _).put (p := ⟨w.heap.size, 2, none⟩) (fun h => absurd h (Nat.lt_irrefl _)) _).put (p := ⟨w.heap.size, 3, none⟩) (fun h => absurd h (Nat.lt_irrefl _)) _).alloc _
  · exact (((((HG5.out.put 0 (.int .i64 ((a : Int) + 1))).far (p := ⟨w.heap.size, 0, none⟩) hgw _).far (p := ⟨w.heap.size, 1, none⟩) hgw _).far (p := ⟨w.heap.size, 2, none⟩) hgw _).far (p := ⟨w.heap.size, 3, none⟩) hgw _).alloc _
end Go.Proofs.Ytgdfjcmjhagmoaa

/- Contracts of package lex: the word where a cursor stands. -/
import Derived.Test.YtgdfjcmjhagmoaaLxm
namespace Go.Proofs.Ytgdfjcmjhagmoaa
open Go.ChangeShapes Go.WideShapes Go.ChangeAt Go.RowKit
/-- Words that lie at an address. -/
def Wds (w : World) (A : Option Addr) (ws : List Wd) : Prop :=
  ws = [] ∨ ∃ b off, A = some ⟨b, off, none⟩ ∧ b < w.heap.size ∧ ∀ i (_ : i < ws.length), w.cell? ⟨b, off + i * 4, none⟩ = some (.int .i64 (ws.getD i default).kd) ∧ w.cell? ⟨b, off + i * 4 + 1, none⟩ = some (.string (ws.getD i default).tx) ∧ w.cell? ⟨b, off + i * 4 + 2, none⟩ = some (.int .i64 (ws.getD i default).n) ∧ w.cell? ⟨b, off + i * 4 + 3, none⟩ = some (.int .i64 (ws.getD i default).at_)
set_option maxRecDepth 100000 in
set_option maxHeartbeats 8000000 in
theorem ahead_at (g : Nat) (a k : Nat) (z : Int) (A : Option Addr) (ws : List Wd) (c : Nat) (w : World) (h : Blk w g 63 #[.int .i64 a, .int .i64 z, .slice A ws.length c]) (hw : Wds w A ws) (hn : ws.length ≤ 1000000) (hk : a + k < ws.length) :
    Calls Try.prog 27/-f-/ #[.pointer (some ⟨g, 0, none⟩), .int .i64 k] w fun e w' => e = .returned (wdV (ws.getD (a + k) default)) ∧ Below w.heap.size w w' := by
  have hlt := h.lt
  rcases hw with rfl | ⟨b, off, rfl, hb, hc⟩
  · simp at hk
  obtain ⟨x0, x1, x2, x3⟩ := hc (a + k) hk
  generalize ws.getD (a + k) default = x at *
  obtain ⟨kd, tx, n, p⟩ := x
  have BEL := Lib.hid (fun q => (show Below w.heap.size w ((w4 w).drewN q) from below_drewN ((Below.refl _ _).alloc (Nat.le_refl _) _) q))
  have hbe := (Below.refl w.heap.size w).alloc (Nat.le_refl _) (.cells #[.int .i64 0, .string ⟨#[]⟩, .int .i64 0, .int .i64 0] 35)
  have hg : g ≠ w.heap.size := by omega
  have hbn : b ≠ w.heap.size := by omega
  have h4 := h.alloc (.cells #[.int .i64 0, .string ⟨#[]⟩, .int .i64 0, .int .i64 0] 35)
  have L := Lib.hid (left_at g a z (some ⟨b, off, none⟩) ws.length c (w.alloc (.cells #[.int .i64 0, .string ⟨#[]⟩, .int .i64 0, .int .i64 0] 35)) h4 (by omega) (by omega) hn)
  obtain ⟨c0, c1, c2, f0, f1, f2, hlt4⟩ := blk3 h4
  have y0 := (hbe.cell (p := ⟨b, off + (a + k) * 4, none⟩) hb).trans x0
  have y1 := (hbe.cell (p := ⟨b, off + (a + k) * 4 + 1, none⟩) hb).trans x1
  have y2 := (hbe.cell (p := ⟨b, off + (a + k) * 4 + 2, none⟩) hb).trans x2
  have y3 := (hbe.cell (p := ⟨b, off + (a + k) * 4 + 3, none⟩) hb).trans x3
  obtain ⟨d0, d1, d2, d3, e0, e1, e2, e3, hl4⟩ := blk4 (Blk.new w 35 #[.int .i64 0, .string ⟨#[]⟩, .int .i64 0, .int .i64 0])
  clear x0 x1 x2 x3 hc hbe
  have hk1 : ¬ (ws.length : Int) - (a : Int) ≤ (k : Int) := by omega
  have hk2 : (a : Int) + (k : Int) < (ws.length : Int) := by omega
  have hk3 : (0 : Int) ≤ (a : Int) + (k : Int) := by omega
  go_enter Try.func27, Try.ntmps27
  go_wp2_with (go_at_call 19/-f-/; (with_reducible refine L.out.mono ?_); rintro e w2 ⟨rfl, q, rfl⟩)
  go_region
  go_wp2
  exact bodyPost_ret (v := .agg #[.int .i64 kd, .string tx, .int .i64 n, .int .i64 p]) (by simp [results, Try.results27, go_sem, d0, d1, d2, d3]) rfl ⟨rfl, ((((BEL.out (q + 1)).setCell (Nat.le_refl _) _).setCell (Nat.le_refl _) _).setCell (Nat.le_refl _) _).setCell (Nat.le_refl _) _⟩
theorem Wds.alloc {w : World} {A : Option Addr} {ws : List Wd} (h : Wds w A ws) (o : Obj) : Wds (w.alloc o) A ws := by
  rcases h with h | ⟨b, off, rfl, hb, hc⟩
  · exact .inl h
  · have hbe := (Below.refl w.heap.size w).alloc (Nat.le_refl _) o
    refine .inr ⟨b, off, rfl, by simp; omega, fun i hi => ?_⟩
    obtain ⟨x0, x1, x2, x3⟩ := hc i hi
    exact ⟨(hbe.cell (p := ⟨b, off + i * 4, none⟩) hb).trans x0, (hbe.cell (p := ⟨b, off + i * 4 + 1, none⟩) hb).trans x1, (hbe.cell (p := ⟨b, off + i * 4 + 2, none⟩) hb).trans x2, (hbe.cell (p := ⟨b, off + i * 4 + 3, none⟩) hb).trans x3⟩
set_option maxRecDepth 100000 in
set_option maxHeartbeats 4000000 in
theorem word_of (v : Value) (x : Wd) (w : World) (h : ∀ W, W = w.alloc (.cells #[.int .i64 0, .string ⟨#[]⟩, .int .i64 0, .int .i64 0] 35) → Calls Try.prog 27/-f-/ #[v, .int .i64 0] W fun e w' => e = .returned (wdV x) ∧ Below W.heap.size W w') :
    Calls Try.prog 15/-f-/ #[v] w fun e w' => e = .returned (wdV x) ∧ Below w.heap.size w w' := by
  obtain ⟨kd, tx, n, p⟩ := x
  have A := Lib.hid (show Calls Try.prog 27/-f-/ #[v, .int .i64 0] (w4 w) fun e w' => e = .returned (.agg #[.int .i64 kd, .string tx, .int .i64 n, .int .i64 p]) ∧ Below (w4 w).heap.size (w4 w) w' from h _ rfl)
  have BK := Lib.hid (fun (wr : World) (h : Below (w4 w).heap.size (w4 w) wr) => (show Blk wr w.heap.size 35 #[.int .i64 0, .string ⟨#[]⟩, .int .i64 0, .int .i64 0] from Blk.below (w := w4 w) (Blk.new w 35 _) h (by rw [w4_size]; omega)))
  have BEL := Lib.hid (fun (wr : World) (h : Below (w4 w).heap.size (w4 w) wr) => (show Below w.heap.size w wr from ((Below.refl _ _).alloc (Nat.le_refl _) _).trans (h.mono (by rw [w4_size]; omega))))
  unfold w4 at A
  clear h
  go_enter Try.func15, Try.ntmps15
  go_wp2_with (go_at_call 27/-f-/; (with_reducible refine A.out.mono ?_); rintro e w2 ⟨rfl, hb2⟩; have HB2 := Lib.hid hb2; clear hb2; obtain ⟨c0, c1, c2, c3, f0, f1, f2, f3, hlw⟩ := blk4 (BK.out _ HB2.out))
  exact bodyPost_ret (v := .agg #[.int .i64 kd, .string tx, .int .i64 n, .int .i64 p]) (by simp [results, Try.results15, go_sem, c0, c1, c2, c3]) rfl ⟨rfl, ((((BEL.out _ HB2.out).setCell (Nat.le_refl _) _).setCell (Nat.le_refl _) _).setCell (Nat.le_refl _) _).setCell (Nat.le_refl _) _⟩
theorem word_at (g a : Nat) (z : Int) (A : Option Addr) (ws : List Wd) (c : Nat) (w : World) (h : Blk w g 63 #[.int .i64 a, .int .i64 z, .slice A ws.length c]) (hw : Wds w A ws) (hn : ws.length ≤ 1000000) (hk : a < ws.length) :
    Calls Try.prog 15/-f-/ #[.pointer (some ⟨g, 0, none⟩)] w fun e w' => e = .returned (wdV (ws.getD a default)) ∧ Below w.heap.size w w' :=
  word_of _ _ w fun W hW => by subst hW; exact ahead_at g a 0 z A ws c _ (h.alloc _) (hw.alloc _) hn hk
theorem word_end (g a : Nat) (z : Int) (A : Option Addr) (n c : Nat) (w : World) (h : Blk w g 63 #[.int .i64 a, .int .i64 z, .slice A n c]) (hn : n ≤ 1000000) (hk : a = n) :
    Calls Try.prog 15/-f-/ #[.pointer (some ⟨g, 0, none⟩)] w fun e w' => e = .returned (wdV ⟨4, ⟨#[]⟩, 0, z⟩) ∧ Below w.heap.size w w' :=
  word_of _ _ w fun W hW => by subst hW; exact ahead_end g a z 0 A n c _ (h.alloc _) (by omega) (by omega) hn (by omega)
end Go.Proofs.Ytgdfjcmjhagmoaa

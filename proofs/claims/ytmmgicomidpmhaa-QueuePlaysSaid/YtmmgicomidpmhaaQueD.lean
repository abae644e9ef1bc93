/- The document's example for package queue, and QueueNone's walk. -/
import Derived.Test.YtmmgicomidpmhaaQueC
namespace Go.Proofs.Ytmmgicomidpmhaa
open Go.ChangeShapes Go.WideShapes Go.ChangeAt Go.RowKit
theorem Ints.three {w : World} {k : IntKind} {t : TypeId} {g : Nat} {a b c : Int} (h : Blk w g t #[.int k a, .int k b, .int k c]) : Ints w k (some ⟨g, 0, none⟩) [a, b, c] :=
  .inr ⟨g, 0, rfl, h.lt, fun i hi => by
    have : i = 0 ∨ i = 1 ∨ i = 2 := by simp at hi; omega
    rcases this with rfl | rfl | rfl <;> (rw [h.cell]; rfl)⟩
theorem eqTal (a b c d a' b' c' d' : Int) (w : World) : (Op.equalIn 10000 28 (.agg #[.int .i64 a, .int .i64 b, .int .i64 c, .int .i64 d]) (.agg #[.int .i64 a', .int .i64 b', .int .i64 c', .int .i64 d'])).run Try.prog w = .ok (a == a' && b == b' && c == c' && d == d') w := by
  have u3 := Try.underlying3
  have a3 := Try.isAgg3
  have z3 := Try.sizeOf3
  have hS : Try.prog.underlying 28 = some (.struct (Try.prog.fieldsOf 28)) := by kernel_rfl
  have hp : Try.prog.stoodInHeld 28 = false := by kernel_rfl
  rw [show (10000 : Nat) = 9999 + 1 from rfl, run_equalIn_agg w 9999 28 _ _ hS hp]
  simp only [Program.fieldsOf, Try.underlying28]
  go_simp
  by_cases h1 : a = a' <;> by_cases h2 : b = b' <;> by_cases h3 : c = c' <;> by_cases h4 : d = d' <;> simp [h1, h2, h3, h4]
theorem guardTal : Try.prog.eqGuardType Try.prog.depth 28 = false := by kernel_rfl
set_option maxHeartbeats 2000000 in
theorem awake_any (w : World) : Calls Try.prog 6 #[] w fun e w' => e = .returned (.bool true) ∧ Below w.heap.size w w' := by
  have E := fun (a b c d a' b' c' d' : Int) (W : World) => eqTal a b c d a' b' c' d' W
  have hq : Que (w.alloc (.cells (qCells ⟨0, 0, 0, 0⟩ 2 (.slice none 0 0)) 45)) w.heap.size ⟨0, 0, 0, 0⟩ 2 (.slice none 0 0) [] := ⟨Blk.new _ _ _, World.ownsRow_nil _ _ _ _⟩
  have hq2 : Que ((w.alloc (.cells (qCells ⟨0, 0, 0, 0⟩ 2 (.slice none 0 0)) 45)).alloc (.cells #[.int .i64 1, .int .i64 2, .int .i64 3] 3)) w.heap.size ⟨0, 0, 0, 0⟩ 2 (.slice none 0 0) [] := ⟨hq.blk.alloc _, hq.own.alloc _⟩
  have hs : (w.alloc (.cells (qCells ⟨0, 0, 0, 0⟩ 2 (.slice none 0 0)) 45)).heap.size = w.heap.size + 1 := by simp
  have hi := Ints.three (k := .i64) (a := 1) (b := 2) (c := 3) (Blk.new (w.alloc (.cells (qCells ⟨0, 0, 0, 0⟩ 2 (.slice none 0 0)) 45)) 3 #[.int .i64 1, .int .i64 2, .int .i64 3])
  rw [hs] at hi
  have NW := Lib.hid (new_ok 2 w (by omega) (by omega))
  have hof0 : Below w.heap.size w ((w.alloc (.cells (qCells ⟨0, 0, 0, 0⟩ 2 (.slice none 0 0)) 45)).alloc (.cells #[.int .i64 1, .int .i64 2, .int .i64 3] 3)) := ((Below.refl _ _).alloc (Nat.le_refl _) _).alloc (by simp) _
  have PU := Lib.hid ((put_any hq2 _ 3 3 hi rfl (by omega) (by omega) (by omega) (by omega) (by simp) (by simp) (by simp) (by simp) 2 (by simp)).mono (R' := fun e w' => e = .returned (.tuple #[.int .i64 2, .int .i64 18]) ∧ ∃ v', Que w' w.heap.size ⟨2, 0, 1, 2⟩ 2 v' [1, 2] ∧ Below w.heap.size w w') (by
    rintro e w2 ⟨rfl, v', hq3, hof, hob⟩
    refine ⟨rfl, v', by simpa [show max (0 : Int) 2 = 2 from rfl] using hq3, hof0.trans (hof.below (fun k hk hs => ?_) (by simp; omega))⟩
    rcases hs with h | h
    · omega
    · simp [Value.ownBlock] at h))
  have TA := Lib.hid (fun (w2 : World) (v' : Value) (hq4 : Que w2 w.heap.size ⟨2, 0, 1, 2⟩ 2 v' [1, 2]) (hb : Below w.heap.size w w2) => (take_some hq4 1 1 (by simp; rfl) (by omega) (by simp) (by simp)).mono (R' := fun e w' => ∃ A c v3, e = .returned (.slice (some A) 1 c) ∧ w'.cell? A = some (.int .i64 1) ∧ Que w' w.heap.size ⟨2, 1, 1, 2⟩ 2 v3 [2] ∧ Below w.heap.size w w') (by
    rintro e w3 ⟨v2, v3, rfl, hown3, hq5, hof3, hob3⟩
    obtain ⟨A3, c3, rfl, hI3, hn3⟩ := ints_of_own hown3
    rcases hI3 with hI3 | ⟨bb, oo, rfl, hbb, hcc⟩
    · cases hI3
    have hc0 := hcc 0 (by simp)
    have hlt4 := hq4.own.lt
    refine ⟨_, _, v3, rfl, by simpa using hc0, by simpa using hq5, hb.trans (hof3.below (fun k hk hs => ?_) hb.size)⟩
    rcases hs with h | h
    · omega
    · have := (hlt4 k h).1; omega))
  clear hi hq hq2 hs hof0
  have hg := guardTal
  go_enter Try.func6, Try.ntmps6
  go_wp2_with (first
    | (go_at_call 7; refine NW.out.mono ?_; rintro e w1 ⟨rfl, rfl⟩)
    | (go_at_call 8; refine PU.out.mono ?_; rintro e w2 ⟨rfl, v', hq4, hb2⟩; have HQ4 := Lib.hid hq4; have HB2 := Lib.hid hb2; clear hq4 hb2)
    | (go_at_call 10; refine (TA.out _ _ HQ4.out HB2.out).mono ?_; rintro e w3 ⟨A3, c3, v3, rfl, hc0, hq6, hb3⟩; have HQ6 := Lib.hid hq6; have HB3 := Lib.hid hb3; clear hq6 hb3)
    | (go_at_call 13; refine (counts_any HQ6.out).mono ?_; rintro e w4 ⟨rfl, hb4⟩))
  go_ret
  exact ⟨rfl, HB3.out.trans (hb4.mono HB3.out.size)⟩
end Go.Proofs.Ytmmgicomidpmhaa

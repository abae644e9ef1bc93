/- Contracts of package stream: where there is no border, and no line. -/
import Derived.Test.YtacangeamdcgdaaSto
import Derived.Test.YtacangeamdcgdaaRig
import Derived.Deep.RegionHeld3
import Derived.Deep.QuietTactic
import Derived.BigQuiet
namespace Go.Proofs.Ytacangeamdcgdaa
open Go.ChangeShapes Go.WideShapes Go.ChangeAt Go.RowKit Go.Deep
theorem below_alloc (w : World) (o : Obj) : Below w.heap.size w (w.alloc o) := (Below.refl _ _).alloc (Nat.le_refl _) _
theorem bname_nil (w : World) : Calls Try.prog 13/-f-/ #[.pointer none] w fun e w' => e = .returned (.string ⟨#[]⟩) ∧ w = w' := by
  go_enter Try.func13, Try.ntmps13
  go_wp2
  go_ret
  exact ⟨rfl, rfl⟩
theorem bmark_nil (w : World) : Calls Try.prog 17/-f-/ #[.pointer none] w fun e w' => e = .returned (.int .i64 0) ∧ w = w' := by
  go_enter Try.func17, Try.ntmps17
  go_wp2
  go_ret
  exact ⟨rfl, rfl⟩
theorem bset_nil (m : Int) (w : World) : Calls Try.prog 14/-f-/ #[.pointer none, .int .i64 m] w fun e w' => e = .returned (.int .i64 1) ∧ w = w' := by
  go_enter Try.func14, Try.ntmps14
  go_wp2
  go_ret
  exact ⟨rfl, rfl⟩
theorem bcheck_nil (i : Int) (A : Option Addr) (n c : Nat) (w : World) : Calls Try.prog 16/-f-/ #[.pointer none, .agg #[.int .i64 i, .slice A n c]] w fun e w' => e = .returned (.int .i64 1) ∧ Below w.heap.size w w' := by
  have HB := Lib.hid (below_alloc w (.cells #[.int .i64 i, .slice A n c] 38))
  go_enter Try.func16, Try.ntmps16
  go_wp2
  go_ret
  exact ⟨rfl, HB.out⟩
theorem btake_nil (i : Int) (A : Option Addr) (n c : Nat) (w : World) : Calls Try.prog 18/-f-/ #[.pointer none, .agg #[.int .i64 i, .slice A n c]] w fun e w' => e = .returned (.int .i64 1) ∧ Below w.heap.size w w' := by
  have HB := Lib.hid (below_alloc w (.cells #[.int .i64 i, .slice A n c] 38))
  have C := Lib.hid (fun W => bcheck_nil i A n c W)
  go_enter Try.func18, Try.ntmps18
  go_wp2_with (go_at_call 16/-f-/; (with_reducible refine (C.out _).mono ?_); rintro e w2 ⟨rfl, hb2⟩; have HB2 := Lib.hid (HB.out.trans (hb2.mono HB.out.size)); clear hb2)
  go_ret
  exact ⟨rfl, HB2.out⟩
theorem lput_nil (i : Int) (A : Option Addr) (n c : Nat) (w : World) : Calls Try.prog 20/-f-/ #[.pointer none, .agg #[.int .i64 i, .slice A n c]] w fun e w' => e = .returned (.int .i64 1) ∧ Below w.heap.size w w' := by
  have HB := Lib.hid (below_alloc w (.cells #[.int .i64 i, .slice A n c] 38))
  go_enter Try.func20, Try.ntmps20
  go_wp2
  go_ret
  exact ⟨rfl, HB.out⟩
theorem llen_nil (w : World) : Calls Try.prog 33/-f-/ #[.pointer none] w fun e w' => e = .returned (.int .i64 0) ∧ w = w' := by
  go_enter Try.func33, Try.ntmps33
  go_wp2
  go_ret
  exact ⟨rfl, rfl⟩
theorem lrows_nil (w : World) : Calls Try.prog 34/-f-/ #[.pointer none] w fun e w' => e = .returned (.int .i64 0) ∧ w = w' := by
  go_enter Try.func34, Try.ntmps34
  go_wp2
  go_ret
  exact ⟨rfl, rfl⟩
theorem lbatches_nil (B : Option Addr) (m d : Nat) (w : World) : Calls Try.prog 35/-f-/ #[.pointer none, .slice B m d] w fun e w' => e = .returned (.slice none 0 0) ∧ w = w' := by
  go_enter Try.func35, Try.ntmps35
  go_wp2
  go_ret
  exact ⟨rfl, rfl⟩
theorem lfirst_nil (w : World) : Calls Try.prog 21/-f-/ #[.pointer none] w fun e w' => e = .returned (.tuple #[.agg #[.int .i64 0, .slice none 0 0], .bool false]) ∧ Below w.heap.size w w' := by
  have HB := Lib.hid (below_alloc w (.cells #[.int .i64 0, .slice none 0 0] 38))
  have L := Lib.hid llen_nil
  go_enter Try.func21, Try.ntmps21
  go_wp2_with (go_at_call 33/-f-/; (with_reducible refine (L.out _).mono ?_); rintro e w2 ⟨rfl, rfl⟩)
  exact bodyPost_ret (v := .tuple #[.agg #[.int .i64 0, .slice none 0 0], .bool false]) (by simp [results, Try.results21, go_sem]) rfl ⟨rfl, by first | exact HB.out | exact (HB.out.setCell (Nat.le_refl _) _).setCell (Nat.le_refl _) _⟩
set_option maxRecDepth 100000 in
set_option maxHeartbeats 2000000 in
theorem ltake_nil (w : World) : Calls Try.prog 22/-f-/ #[.pointer none] w fun e w' => e = .returned (.tuple #[.agg #[.int .i64 0, .slice none 0 0], .bool false]) ∧ Below w.heap.size w w' := by
  have L := Lib.hid lfirst_nil
  have BK := Lib.hid (fun (wr : World) (h : Below (w.alloc (.cells #[.int .i64 0, .slice none 0 0] 38)).heap.size (w.alloc (.cells #[.int .i64 0, .slice none 0 0] 38)) wr) => (show Blk wr w.heap.size 38 #[.int .i64 0, .slice none 0 0] ∧ Below w.heap.size w wr from ⟨(Blk.new w 38 _).below h (by simp), (below_alloc w _).trans (h.mono (by simp))⟩))
  go_enter Try.func22, Try.ntmps22
  go_wp2_with (go_at_call 21/-f-/; (with_reducible refine (L.out _).mono ?_); rintro e w2 ⟨rfl, hb2⟩; have X := BK.out _ hb2; have HB2 := Lib.hid X.2; have HK2 := Lib.hid X.1; clear X; have hs2 := hb2.size; simp at hs2; clear hb2; have c0 := HK2.out.cell 0; have c1 := HK2.out.cell 1; have f0 := HK2.out.frozen 0; have f1 := HK2.out.frozen 1; simp only [List.getElem?_toArray, List.getElem?_cons_zero, List.getElem?_cons_succ] at c0 c1; have hlw := HK2.out.lt)
  have HK4 := ((HK2.out.put 0 (.int .i64 0)).put 1 (.slice none 0 0)).alloc (.cells #[.int .i64 0, .slice none 0 0] 38)
  have m0 := HK4.cell 0
  have m1 := HK4.cell 1
  simp at m0 m1
  exact bodyPost_ret (v := .tuple #[.agg #[.int .i64 0, .slice none 0 0], .bool false]) (by simp [results, Try.results22, go_sem, m0, m1, c0, c1]) rfl ⟨rfl, ((HB2.out.setCell (Nat.le_refl _) _).setCell (Nat.le_refl _) _).alloc (by simpa using HB2.out.size) _⟩
set_option maxRecDepth 100000 in
theorem refsame_nil (w : World) : Calls Try.prog 44/-f-/ #[.slice none 0 0, .slice none 0 0] w fun e w' => e = .returned (.bool true) ∧ w = w' := by
  go_enter Try.func44, Try.ntmps44
  go_wp2
  go_loop [5] (fun i => i = .int .i64 0) (fun _ => 0)
  case atStart => rfl
  case round =>
    subst hrel
    go_wp2
    go_ret
    exact ⟨rfl, rfl⟩
set_option maxRecDepth 100000 in
theorem same_nil (w : World) : Calls Try.prog 23/-f-/ #[.agg #[.int .i64 0, .slice none 0 0], .agg #[.int .i64 0, .slice none 0 0]] w fun e w' => e = .returned (.bool true) ∧ Below w.heap.size w w' := by
  have HB := Lib.hid ((below_alloc w (.cells #[.int .i64 0, .slice none 0 0] 38)).alloc (by simp) (.cells #[.int .i64 0, .slice none 0 0] 38))
  have S := Lib.hid refsame_nil
  go_enter Try.func23, Try.ntmps23
  go_wp2_with (go_at_call 44/-f-/; (with_reducible refine (S.out _).mono ?_); rintro e w2 ⟨rfl, rfl⟩)
  go_ret
  exact ⟨rfl, HB.out⟩
end Go.Proofs.Ytacangeamdcgdaa

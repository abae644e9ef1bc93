/- Contracts of the reference for package calc (affluxref01): the opposite; as an int64. -/
import Derived.Test.YtgdfjcmjhagmoaaRefC
namespace Go.Proofs.Ytgdfjcmjhagmoaa
open Go.ChangeShapes Go.WideShapes Go.ChangeAt Go.RowKit
open Ar (val Dig Canon)
def inR (v : Int) : Bool := decide (-9223372036854775808 ≤ v ∧ v ≤ 9223372036854775807)
theorem of_max (w : World) : Calls Try.prog 46 #[.int .i64 9223372036854775807] w fun e w' => ∃ v, e = .returned v ∧ Num w' v 9223372036854775807 20 w.heap.size ∧ Below w.heap.size w w' := of_any _ w (by omega) (by omega)
theorem of_min (w : World) : Calls Try.prog 46 #[.int .i64 (-9223372036854775808)] w fun e w' => ∃ v, e = .returned v ∧ Num w' v (-9223372036854775808) 20 w.heap.size ∧ Below w.heap.size w w' := of_any _ w (by omega) (by omega)

set_option maxRecDepth 100000 in
set_option maxHeartbeats 2000000 in
theorem small_pos (A : Option Addr) (c : Nat) (X : List Int) (z : Int) (w : World) (hA : Ints w .i64 A X) (hs : X.length ≤ 100000) (hX : Dig X) (cX : Canon X) (vX : val X = z.natAbs) (hz : ¬ z < 0) :
    Calls Try.prog 35 #[.agg #[.bool (decide (z < 0)), .slice A X.length c]] w fun e w' => e = .returned (.tuple #[.int .i64 (narV z), .bool (inR z)]) ∧ Below w.heap.size w w' := by
  rw [decide_eq_false hz]
  have z0 := Blk.new w 69 #[.bool false, .slice A X.length c]
  have hbz : Below w.heap.size w (w.alloc (.cells #[.bool false, .slice A X.length c] 69)) := (Below.refl _ _).alloc (Nat.le_refl _) _
  have HA := Lib.hid hA
  have HZ := Lib.hid (show val X = z.natAbs ∧ (¬ z < 0) from ⟨vX, hz⟩)
  by_cases hin : -9223372036854775808 ≤ z ∧ z ≤ 9223372036854775807
  · have e1 : narV z = z := by unfold narV; rw [if_pos hin]
    have e2 : inR z = true := by unfold inR; exact decide_eq_true hin
    have HW := Lib.hid (show narV z = z ∧ inR z = true from ⟨e1, e2⟩)
    clear e1 e2 vX hz hA
    go_enter Try.func35, Try.ntmps35
    go_wp2_with (first | (go_at_call 46; refine (of_max _).mono ?_; rintro e w1 ⟨v, rfl, ⟨⟨B, d, Y, rfl, hB, hfrB, hr1⟩⟩, hb1⟩; have HR := Lib.hid hr1; clear hr1; have y0 := (z0.below hb1 z0.lt).alloc (.cells #[.bool false, .slice B Y.length d] 69); have yc0 := y0.cell 0; have yc1 := y0.cell 1; have ylt := y0.lt; have hbx := (hbz.trans (hb1.mono hbz.size)).alloc (hbz.trans (hb1.mono hbz.size)).size (.cells #[.bool false, .slice B Y.length d] 69); have hz1 : w.heap.size < w1.heap.size := one_new hb1; simp at yc0 yc1) | (go_at_call 47; refine (less_digits B A Y.length d X.length c Y X _ (hB.keep ((Below.refl _ _).alloc (Nat.le_refl _) _)) (HA.out.keep hbx) rfl rfl (by have := HR.out.2.2.2.2; omega) (by omega) HR.out.2.1 hX HR.out.2.2.1 cX).mono ?_; rintro e w3 ⟨rfl, hb3⟩; have v0 := y0.below hb3 y0.lt; have vc0 := v0.cell 0; have vc1 := v0.cell 1; have hbl := hbx.trans (hb3.mono hbx.size); have vlt := v0.lt; simp at vc0 vc1; have HE := HR.out.2.2.2.1; have ht : decide (val Y < val X) = false := decide_eq_false (by rw [HE]; have := HZ.out; omega); clear HE))
    go_loop [5, 6] (fun u i => ∃ k : Nat, k ≤ X.length ∧ i = .int .i64 ((k : Int) - 1) ∧ u = .int .u64 (val (X.drop k))) (fun _ i => (intOf i + 1).toNat)
    case atStart => exact ⟨X.length, Nat.le_refl _, rfl, by rw [List.drop_length]; rfl⟩
    case round =>
      obtain ⟨k, hk, rfl, rfl⟩ := hrel
      have hdb : 0 ≤ val (X.drop k) := (Ar.val_bd _ (fun d hd => hX d (List.mem_of_mem_drop hd))).1
      have hdl : val (X.drop k) ≤ val X := Ar.val_drop_le X hX k
      by_cases h0 : 0 < k
      · obtain ⟨j, rfl⟩ : ∃ j, k = j + 1 := ⟨k - 1, by omega⟩
        obtain ⟨b2, o2, rfl, hb2', hc2⟩ := (HA.out.keep hbl).at_ (i := j) (by omega)
        have hx := hX.at_ j
        have hvd := Ar.val_drop X j (by omega)
        have hdl2 : val (X.drop j) ≤ val X := Ar.val_drop_le X hX j
        have hzz := HZ.out
        have hup : 10 * val (X.drop (j + 1)) + X.getD j 0 ≤ 9223372036854775808 := by omega
        have HVD := Lib.hid hvd
        clear hvd hzz hdl hdl2
        generalize X.getD j 0 = x at *
        generalize hP : val (X.drop (j + 1)) = P at *
        clear hP
        go_wp2
        go_round
        case rel => exact ⟨j, by omega, rfl, by rw [HVD.out, Int.add_comm]⟩
        case measure => simp [intOf]
      · obtain rfl : k = 0 := by omega
        have hzz := HZ.out
        simp only [List.drop_zero] at hdb hdl ⊢
        have hle : val X ≤ 9223372036854775808 := by omega
        clear hdl hzz
        generalize hP : val X = P at *
        go_wp2
        go_ret2
        have hzz := HZ.out
        refine ⟨?_, hbl⟩
        rw [HW.out.1, HW.out.2]
        have e3 : wrap64 P = z := by unfold wrap64; omega
        exact congrArg (fun q => Ending.returned (.tuple #[.int .i64 q, .bool true])) e3
  · have e1 : narV z = 0 := by unfold narV; rw [if_neg hin]
    have e2 : inR z = false := by unfold inR; exact decide_eq_false hin
    have HW := Lib.hid (show narV z = 0 ∧ inR z = false from ⟨e1, e2⟩)
    clear e1 e2 vX hz hA
    go_enter Try.func35, Try.ntmps35
    go_wp2_with (first | (go_at_call 46; refine (of_max _).mono ?_; rintro e w1 ⟨v, rfl, ⟨⟨B, d, Y, rfl, hB, hfrB, hr1⟩⟩, hb1⟩; have HR := Lib.hid hr1; clear hr1; have y0 := (z0.below hb1 z0.lt).alloc (.cells #[.bool false, .slice B Y.length d] 69); have yc0 := y0.cell 0; have yc1 := y0.cell 1; have ylt := y0.lt; have hbx := (hbz.trans (hb1.mono hbz.size)).alloc (hbz.trans (hb1.mono hbz.size)).size (.cells #[.bool false, .slice B Y.length d] 69); have hz1 : w.heap.size < w1.heap.size := one_new hb1; simp at yc0 yc1) | (go_at_call 47; refine (less_digits B A Y.length d X.length c Y X _ (hB.keep ((Below.refl _ _).alloc (Nat.le_refl _) _)) (HA.out.keep hbx) rfl rfl (by have := HR.out.2.2.2.2; omega) (by omega) HR.out.2.1 hX HR.out.2.2.1 cX).mono ?_; rintro e w3 ⟨rfl, hb3⟩; have v0 := y0.below hb3 y0.lt; have vc0 := v0.cell 0; have vc1 := v0.cell 1; have hbl := hbx.trans (hb3.mono hbx.size); have vlt := v0.lt; simp at vc0 vc1; have HE := HR.out.2.2.2.1; have ht : decide (val Y < val X) = true := decide_eq_true (by rw [HE]; have := HZ.out; omega); clear HE))
    go_ret2
    refine ⟨?_, hbl⟩
    rw [HW.out.1, HW.out.2]
    rfl

set_option maxRecDepth 100000 in
set_option maxHeartbeats 2000000 in
theorem small_neg (A : Option Addr) (c : Nat) (X : List Int) (z : Int) (w : World) (hA : Ints w .i64 A X) (hs : X.length ≤ 100000) (hX : Dig X) (cX : Canon X) (vX : val X = z.natAbs) (hz : z < 0) :
    Calls Try.prog 35 #[.agg #[.bool (decide (z < 0)), .slice A X.length c]] w fun e w' => e = .returned (.tuple #[.int .i64 (narV z), .bool (inR z)]) ∧ Below w.heap.size w w' := by
  rw [decide_eq_true hz]
  have z0 := Blk.new w 69 #[.bool true, .slice A X.length c]
  have hbz : Below w.heap.size w (w.alloc (.cells #[.bool true, .slice A X.length c] 69)) := (Below.refl _ _).alloc (Nat.le_refl _) _
  have HA := Lib.hid hA
  have HZ := Lib.hid (show val X = z.natAbs ∧ (z < 0) from ⟨vX, hz⟩)
  by_cases hin : -9223372036854775808 ≤ z ∧ z ≤ 9223372036854775807
  · have e1 : narV z = z := by unfold narV; rw [if_pos hin]
    have e2 : inR z = true := by unfold inR; exact decide_eq_true hin
    have HW := Lib.hid (show narV z = z ∧ inR z = true from ⟨e1, e2⟩)
    clear e1 e2 vX hz hA
    go_enter Try.func35, Try.ntmps35
    go_wp2_with (first | (go_at_call_of 46 (Value.int .i64 9223372036854775807); refine (of_max _).mono ?_; rintro e w1 ⟨v, rfl, ⟨⟨B0, d0, Y0, rfl, hB0, hr0⟩⟩, hb1⟩; have HR0 := Lib.hid hr0; clear hr0 hB0; have y0 := (z0.below hb1 z0.lt).alloc (.cells #[.bool false, .slice B0 Y0.length d0] 69); have yc0 := y0.cell 0; have ylt := y0.lt; have hz1 : w.heap.size < w1.heap.size := one_new hb1; have n0 := Blk.new w1 69 #[.bool false, .slice B0 Y0.length d0]; simp at yc0) | (go_at_call 46; ((with_reducible refine (of_min _).mono ?_); rintro e w2 ⟨v, rfl, ⟨⟨B, d, Y, rfl, hB, hfrB, hr1⟩⟩, hb2⟩; have HR := Lib.hid hr1; clear hr1; have n1 := n0.below hb2 n0.lt; have nc0 := n1.cell 0; have nc1 := n1.cell 1; have nf0 := n1.frozen 0; have nf1 := n1.frozen 1; have x0 := y0.below hb2 y0.lt; have hbw := (hbz.trans (hb1.mono hbz.size)).alloc (hbz.trans (hb1.mono hbz.size)).size (.cells #[.bool false, .slice B0 Y0.length d0] 69); have hbw2 := hbw.trans (hb2.mono hbw.size); have hbx := (hbw2.setCell (p := ⟨w1.heap.size, 0, none⟩) (by show w.heap.size ≤ w1.heap.size; omega) (.bool true)).setCell (p := ⟨w1.heap.size, 1, none⟩) (by show w.heap.size ≤ w1.heap.size; omega) (.slice B Y.length d); have u0 := (x0.far (p := ⟨w1.heap.size, 0, none⟩) (by show w.heap.size ≠ w1.heap.size; omega) (.bool true)).far (p := ⟨w1.heap.size, 1, none⟩) (by show w.heap.size ≠ w1.heap.size; omega) (.slice B Y.length d); have hB' := (hB.store (p := ⟨w1.heap.size, 0, none⟩) (fun a ha => by have := hfrB a ha; rw [World.size_alloc] at this; show a.block ≠ w1.heap.size; omega) (.bool true)).store (p := ⟨w1.heap.size, 1, none⟩) (fun a ha => by have := hfrB a ha; rw [World.size_alloc] at this; show a.block ≠ w1.heap.size; omega) (.slice B Y.length d); have uc1 := u0.cell 1; have ult := u0.lt; simp at nc0 nc1 uc1)) | (go_at_call 47; refine (less_digits B A Y.length d X.length c Y X _ hB' (HA.out.keep hbx) rfl rfl (by have := HR.out.2.2.2.2; omega) (by omega) HR.out.2.1 hX HR.out.2.2.1 cX).mono ?_; rintro e w3 ⟨rfl, hb3⟩; have v0 := u0.below hb3 u0.lt; have vc0 := v0.cell 0; have vc1 := v0.cell 1; have hbl := hbx.trans (hb3.mono hbx.size); have vlt := v0.lt; simp at vc0 vc1; have HE := HR.out.2.2.2.1; have ht : decide (val Y < val X) = false := decide_eq_false (by rw [HE]; have := HZ.out; omega); clear HE))
    go_loop [5, 6] (fun u i => ∃ k : Nat, k ≤ X.length ∧ i = .int .i64 ((k : Int) - 1) ∧ u = .int .u64 (val (X.drop k))) (fun _ i => (intOf i + 1).toNat)
    case atStart => exact ⟨X.length, Nat.le_refl _, rfl, by rw [List.drop_length]; rfl⟩
    case round =>
      obtain ⟨k, hk, rfl, rfl⟩ := hrel
      have hdb : 0 ≤ val (X.drop k) := (Ar.val_bd _ (fun d hd => hX d (List.mem_of_mem_drop hd))).1
      have hdl : val (X.drop k) ≤ val X := Ar.val_drop_le X hX k
      by_cases h0 : 0 < k
      · obtain ⟨j, rfl⟩ : ∃ j, k = j + 1 := ⟨k - 1, by omega⟩
        obtain ⟨b2, o2, rfl, hb2', hc2⟩ := (HA.out.keep hbl).at_ (i := j) (by omega)
        have hx := hX.at_ j
        have hvd := Ar.val_drop X j (by omega)
        have hdl2 : val (X.drop j) ≤ val X := Ar.val_drop_le X hX j
        have hzz := HZ.out
        have hup : 10 * val (X.drop (j + 1)) + X.getD j 0 ≤ 9223372036854775808 := by omega
        have HVD := Lib.hid hvd
        clear hvd hzz hdl hdl2
        generalize X.getD j 0 = x at *
        generalize hP : val (X.drop (j + 1)) = P at *
        clear hP
        go_wp2
        go_round
        case rel => exact ⟨j, by omega, rfl, by rw [HVD.out, Int.add_comm]⟩
        case measure => simp [intOf]
      · obtain rfl : k = 0 := by omega
        have hzz := HZ.out
        simp only [List.drop_zero] at hdb hdl ⊢
        have hle : val X ≤ 9223372036854775808 := by omega
        clear hdl hzz
        generalize hP : val X = P at *
        go_wp2
        go_ret2
        have hzz := HZ.out
        refine ⟨?_, hbl⟩
        rw [HW.out.1, HW.out.2]
        have e3 : wrap64 (IntKind.u64.wrap (-P)) = z := by rw [IntKind.wrap_u64]; unfold wrap64; omega
        exact congrArg (fun q => Ending.returned (.tuple #[.int .i64 q, .bool true])) e3
  · have e1 : narV z = 0 := by unfold narV; rw [if_neg hin]
    have e2 : inR z = false := by unfold inR; exact decide_eq_false hin
    have HW := Lib.hid (show narV z = 0 ∧ inR z = false from ⟨e1, e2⟩)
    clear e1 e2 vX hz hA
    go_enter Try.func35, Try.ntmps35
    go_wp2_with (first | (go_at_call_of 46 (Value.int .i64 9223372036854775807); refine (of_max _).mono ?_; rintro e w1 ⟨v, rfl, ⟨⟨B0, d0, Y0, rfl, hB0, hr0⟩⟩, hb1⟩; have HR0 := Lib.hid hr0; clear hr0 hB0; have y0 := (z0.below hb1 z0.lt).alloc (.cells #[.bool false, .slice B0 Y0.length d0] 69); have yc0 := y0.cell 0; have ylt := y0.lt; have hz1 : w.heap.size < w1.heap.size := one_new hb1; have n0 := Blk.new w1 69 #[.bool false, .slice B0 Y0.length d0]; simp at yc0) | (go_at_call 46; ((with_reducible refine (of_min _).mono ?_); rintro e w2 ⟨v, rfl, ⟨⟨B, d, Y, rfl, hB, hfrB, hr1⟩⟩, hb2⟩; have HR := Lib.hid hr1; clear hr1; have n1 := n0.below hb2 n0.lt; have nc0 := n1.cell 0; have nc1 := n1.cell 1; have nf0 := n1.frozen 0; have nf1 := n1.frozen 1; have x0 := y0.below hb2 y0.lt; have hbw := (hbz.trans (hb1.mono hbz.size)).alloc (hbz.trans (hb1.mono hbz.size)).size (.cells #[.bool false, .slice B0 Y0.length d0] 69); have hbw2 := hbw.trans (hb2.mono hbw.size); have hbx := (hbw2.setCell (p := ⟨w1.heap.size, 0, none⟩) (by show w.heap.size ≤ w1.heap.size; omega) (.bool true)).setCell (p := ⟨w1.heap.size, 1, none⟩) (by show w.heap.size ≤ w1.heap.size; omega) (.slice B Y.length d); have u0 := (x0.far (p := ⟨w1.heap.size, 0, none⟩) (by show w.heap.size ≠ w1.heap.size; omega) (.bool true)).far (p := ⟨w1.heap.size, 1, none⟩) (by show w.heap.size ≠ w1.heap.size; omega) (.slice B Y.length d); have hB' := (hB.store (p := ⟨w1.heap.size, 0, none⟩) (fun a ha => by have := hfrB a ha; rw [World.size_alloc] at this; show a.block ≠ w1.heap.size; omega) (.bool true)).store (p := ⟨w1.heap.size, 1, none⟩) (fun a ha => by have := hfrB a ha; rw [World.size_alloc] at this; show a.block ≠ w1.heap.size; omega) (.slice B Y.length d); have uc1 := u0.cell 1; have ult := u0.lt; simp at nc0 nc1 uc1)) | (go_at_call 47; refine (less_digits B A Y.length d X.length c Y X _ hB' (HA.out.keep hbx) rfl rfl (by have := HR.out.2.2.2.2; omega) (by omega) HR.out.2.1 hX HR.out.2.2.1 cX).mono ?_; rintro e w3 ⟨rfl, hb3⟩; have v0 := u0.below hb3 u0.lt; have vc0 := v0.cell 0; have vc1 := v0.cell 1; have hbl := hbx.trans (hb3.mono hbx.size); have vlt := v0.lt; simp at vc0 vc1; have HE := HR.out.2.2.2.1; have ht : decide (val Y < val X) = true := decide_eq_true (by rw [HE]; have := HZ.out; omega); clear HE))
    go_ret2
    refine ⟨?_, hbl⟩
    rw [HW.out.1, HW.out.2]
    rfl

/-- As an int64, if it is one. -/
theorem small_num (va : Value) (z : Int) (n B : Nat) (w : World) (ha : Num w va z n B) (hn : n ≤ 100000) :
    Calls Try.prog 35 #[va] w fun e w' => e = .returned (.tuple #[.int .i64 (narV z), .bool (inR z)]) ∧ Below w.heap.size w w' := by
  obtain ⟨A, c, X, rfl, hA, _, _, hX, cX, vX, lX⟩ := ha.is
  by_cases h : z < 0
  · exact small_neg A c X z w hA (by omega) hX cX vX h
  · exact small_pos A c X z w hA (by omega) hX cX vX h
/-- Numbers' sum, as the reference has it. -/
def sgn (m : Bool) (s : Int) : Int := if m = true then -s else s
end Go.Proofs.Ytgdfjcmjhagmoaa

/- Contracts of the reference for package calc (affluxref01): the opposite; as an int64. -/
import Derived.Test.YtabdmhlnaahdlaaRefC
namespace Go.Proofs.Ytabdmhlnaahdlaa
open Go.ChangeShapes Go.WideShapes Go.ChangeAt Go.RowKit
open Ar (val Dig Canon)
theorem minus_exact (A : Option Addr) (c : Nat) (X : List Int) (z : Int) (w : World) (hA : Ints w .i64 A X) (hcX : X.length ≤ c) (hs : X.length ≤ 1000000) (hX : Dig X) (vX : val X = z.natAbs) :
    Calls Try.prog 18 #[.agg #[.bool (decide (z < 0)), .slice A X.length c]] w fun e w' => ∃ m, e = .returned (.agg #[.bool (decide (-z < 0)), .slice A m c]) ∧ m ≤ X.length ∧ Hid (Canon (X.take m) ∧ val (X.take m) = (-z).natAbs) ∧ Below w.heap.size w w' := by
  generalize hnb : decide (z < 0) = nb
  have hz : -z = if (!nb) = true then - val X else val X := by
    subst hnb; by_cases h : z < 0 <;> simp only [h, decide_true, decide_false, Bool.not_true, Bool.not_false, if_true, Bool.false_eq_true, if_false] <;> omega
  have SG := Lib.hid (fun W (h : Below w.heap.size w W) => sign_any (!nb) A X.length c X W (-z) hz (hA.keep h) rfl hcX (by omega) hX)
  have HNB := Lib.hid hnb
  have HA := Lib.hid hA
  clear hnb hz vX hA
  have hbz : Below w.heap.size w ((w.alloc (.cells #[.bool nb, .slice A X.length c] 32)).alloc (.cells #[.bool false, .slice none 0 0] 32)) := ((Below.refl _ _).alloc (Nat.le_refl _) _).alloc (by simp) _
  have z2 := Blk.new (w.alloc (.cells #[.bool nb, .slice A X.length c] 32)) 32 #[.bool false, .slice none 0 0]
  simp only [World.size_alloc] at z2
  go_enter Try.func18, Try.ntmps18
  go_wp2_with (go_at_call 37; refine (SG.out _ hbz).mono ?_; rintro e w2 ⟨m, rfl, hm, hr, hb2⟩; have x2 := z2.below hb2 z2.lt; have e4 := x2.cell 0; have e5 := x2.cell 1; have g4 := x2.frozen 0; have g5 := x2.frozen 1; simp at e4 e5)
  have hbl := hbz.trans (hb2.mono hbz.size)
  have hbl2 : Below w.heap.size w ((w2.setCell { block := w.heap.size + 1, off := 0 } (.bool (decide (-z < 0)))).setCell { block := w.heap.size + 1, off := 1 } (.slice A m c)) := (hbl.setCell (by simp) _).setCell (by simp) _
  refine bodyPost_ret (v := .agg #[.bool (decide (-z < 0)), .slice A m c]) (by simp [results, Try.results18, go_sem, e4, e5]) rfl ⟨m, rfl, hm, hr, ?_⟩
  simpa using hbl2
theorem minus_num (va : Value) (z : Int) (n B : Nat) (w : World) (ha : Num w va z n B) (hn : n ≤ 1000000) :
    Calls Try.prog 18 #[va] w fun e w' => ∃ v, e = .returned v ∧ Num w' v (-z) n B ∧ Below w.heap.size w w' := by
  obtain ⟨A, c, X, rfl, hA, hfr, hcX, hX, cX, vX, lX⟩ := ha.is
  refine (minus_exact A c X z w hA hcX (by omega) hX vX).mono ?_
  rintro e w' ⟨m, h1, h2, h3, h4⟩
  have hlm' : (X.take m).length = m := by rw [List.length_take]; omega
  exact ⟨_, h1, ⟨A, c, X.take m, by rw [hlm'], (hA.keep h4).take m, hfr, by omega, hX.take m, h3.out.1, h3.out.2, by omega⟩, h4⟩

def inR (v : Int) : Bool := decide (-9223372036854775808 ≤ v ∧ v ≤ 9223372036854775807)
theorem of_max (w : World) : Calls Try.prog 17 #[.int .i64 9223372036854775807] w fun e w' => ∃ v, e = .returned v ∧ Num w' v 9223372036854775807 20 w.heap.size ∧ Below w.heap.size w w' := of_any _ w (by omega) (by omega)
theorem of_min (w : World) : Calls Try.prog 17 #[.int .i64 (-9223372036854775808)] w fun e w' => ∃ v, e = .returned v ∧ Num w' v (-9223372036854775808) 20 w.heap.size ∧ Below w.heap.size w w' := of_any _ w (by omega) (by omega)

set_option maxHeartbeats 2000000 in
theorem small_pos (A : Option Addr) (c : Nat) (X : List Int) (z : Int) (w : World) (hA : Ints w .i64 A X) (hs : X.length ≤ 100000) (hX : Dig X) (cX : Canon X) (vX : val X = z.natAbs) (hz : ¬ z < 0) :
    Calls Try.prog 36 #[.agg #[.bool (decide (z < 0)), .slice A X.length c]] w fun e w' => e = .returned (.tuple #[.int .i64 (narV z), .bool (inR z)]) ∧ Below w.heap.size w w' := by
  rw [decide_eq_false hz]
  have z0 := Blk.new w 32 #[.bool false, .slice A X.length c]
  have hbz : Below w.heap.size w (w.alloc (.cells #[.bool false, .slice A X.length c] 32)) := (Below.refl _ _).alloc (Nat.le_refl _) _
  have HA := Lib.hid hA
  have HZ := Lib.hid (show val X = z.natAbs ∧ (¬ z < 0) from ⟨vX, hz⟩)
  by_cases hin : -9223372036854775808 ≤ z ∧ z ≤ 9223372036854775807
  · have e1 : narV z = z := by unfold narV; rw [if_pos hin]
    have e2 : inR z = true := by unfold inR; exact decide_eq_true hin
    have HW := Lib.hid (show narV z = z ∧ inR z = true from ⟨e1, e2⟩)
    clear e1 e2 vX hz hA
    go_enter Try.func36, Try.ntmps36
    go_wp2_with (first | (go_at_call 17; refine (of_max _).mono ?_; rintro e w1 ⟨v, rfl, ⟨⟨B, d, Y, rfl, hB, hfrB, hr1⟩⟩, hb1⟩; have HR := Lib.hid hr1; clear hr1; have y0 := (z0.below hb1 z0.lt).alloc (.cells #[.bool false, .slice B Y.length d] 32); have yc0 := y0.cell 0; have yc1 := y0.cell 1; have ylt := y0.lt; have hbx := (hbz.trans (hb1.mono hbz.size)).alloc (hbz.trans (hb1.mono hbz.size)).size (.cells #[.bool false, .slice B Y.length d] 32); have hz1 : w.heap.size < w1.heap.size := one_new hb1; simp at yc0 yc1) | (go_at_call 39; refine (less_digits B A Y.length d X.length c Y X _ (hB.keep ((Below.refl _ _).alloc (Nat.le_refl _) _)) (HA.out.keep hbx) rfl rfl (by have := HR.out.2.2.2.2; omega) (by omega) HR.out.2.1 hX HR.out.2.2.1 cX).mono ?_; rintro e w3 ⟨rfl, hb3⟩; have v0 := y0.below hb3 y0.lt; have vc0 := v0.cell 0; have vc1 := v0.cell 1; have hbl := hbx.trans (hb3.mono hbx.size); have vlt := v0.lt; simp at vc0 vc1; have HE := HR.out.2.2.2.1; have ht : decide (val Y < val X) = false := decide_eq_false (by rw [HE]; have := HZ.out; omega); clear HE))
    go_loop [5, 6] (fun u i => ∃ k : Nat, k ≤ X.length ∧ i = .int .i64 ((k : Int) - 1) ∧ u = .int .u64 (val (X.drop k))) (fun _ i => (intOf i + 1).toNat)
    case atStart => exact ⟨X.length, Nat.le_refl _, rfl, by rw [List.drop_length]; rfl⟩
    case round =>
      obtain ⟨k, hk, rfl, rfl⟩ := hrel
      have hdb : 0 ≤ val (X.drop k) := (Ar.val_bd _ (fun d hd => hX d (List.mem_of_mem_drop hd))).1
      have hdl : val (X.drop k) ≤ val X := Ar.val_drop_le X hX k
      by_cases h0 : 0 < k
      · obtain ⟨j, rfl⟩ : ∃ j, k = j + 1 := ⟨k - 1, by omega⟩
        obtain ⟨b2, o2, rfl, hb2', hc2⟩ := (HA.out.keep hbl).at_ (i := j) (by omega)
        have hx := hX.at_ j
        have hvd := Ar.val_drop X j (by omega)
        have hdl2 : val (X.drop j) ≤ val X := Ar.val_drop_le X hX j
        have hzz := HZ.out
        have hup : 10 * val (X.drop (j + 1)) + X.getD j 0 ≤ 9223372036854775808 := by omega
        have HVD := Lib.hid hvd
        clear hvd hzz hdl hdl2
        generalize X.getD j 0 = x at *
        generalize hP : val (X.drop (j + 1)) = P at *
        clear hP
        go_wp2
        go_round
        case rel => exact ⟨j, by omega, rfl, by rw [HVD.out, Int.add_comm]⟩
        case measure => simp [intOf]
      · obtain rfl : k = 0 := by omega
        have hzz := HZ.out
        simp only [List.drop_zero] at hdb hdl ⊢
        have hle : val X ≤ 9223372036854775808 := by omega
        clear hdl hzz
        generalize hP : val X = P at *
        go_wp2
        go_ret2
        have hzz := HZ.out
        refine ⟨?_, hbl⟩
        rw [HW.out.1, HW.out.2]
        have e3 : wrap64 P = z := by unfold wrap64; omega
        exact congrArg (fun q => Ending.returned (.tuple #[.int .i64 q, .bool true])) e3
  · have e1 : narV z = 0 := by unfold narV; rw [if_neg hin]
    have e2 : inR z = false := by unfold inR; exact decide_eq_false hin
    have HW := Lib.hid (show narV z = 0 ∧ inR z = false from ⟨e1, e2⟩)
    clear e1 e2 vX hz hA
    go_enter Try.func36, Try.ntmps36
    go_wp2_with (first | (go_at_call 17; refine (of_max _).mono ?_; rintro e w1 ⟨v, rfl, ⟨⟨B, d, Y, rfl, hB, hfrB, hr1⟩⟩, hb1⟩; have HR := Lib.hid hr1; clear hr1; have y0 := (z0.below hb1 z0.lt).alloc (.cells #[.bool false, .slice B Y.length d] 32); have yc0 := y0.cell 0; have yc1 := y0.cell 1; have ylt := y0.lt; have hbx := (hbz.trans (hb1.mono hbz.size)).alloc (hbz.trans (hb1.mono hbz.size)).size (.cells #[.bool false, .slice B Y.length d] 32); have hz1 : w.heap.size < w1.heap.size := one_new hb1; simp at yc0 yc1) | (go_at_call 39; refine (less_digits B A Y.length d X.length c Y X _ (hB.keep ((Below.refl _ _).alloc (Nat.le_refl _) _)) (HA.out.keep hbx) rfl rfl (by have := HR.out.2.2.2.2; omega) (by omega) HR.out.2.1 hX HR.out.2.2.1 cX).mono ?_; rintro e w3 ⟨rfl, hb3⟩; have v0 := y0.below hb3 y0.lt; have vc0 := v0.cell 0; have vc1 := v0.cell 1; have hbl := hbx.trans (hb3.mono hbx.size); have vlt := v0.lt; simp at vc0 vc1; have HE := HR.out.2.2.2.1; have ht : decide (val Y < val X) = true := decide_eq_true (by rw [HE]; have := HZ.out; omega); clear HE))
    go_ret2
    refine ⟨?_, hbl⟩
    rw [HW.out.1, HW.out.2]
    rfl

set_option maxHeartbeats 2000000 in
theorem small_neg (A : Option Addr) (c : Nat) (X : List Int) (z : Int) (w : World) (hA : Ints w .i64 A X) (hs : X.length ≤ 100000) (hX : Dig X) (cX : Canon X) (vX : val X = z.natAbs) (hz : z < 0) :
    Calls Try.prog 36 #[.agg #[.bool (decide (z < 0)), .slice A X.length c]] w fun e w' => e = .returned (.tuple #[.int .i64 (narV z), .bool (inR z)]) ∧ Below w.heap.size w w' := by
  rw [decide_eq_true hz]
  have z0 := Blk.new w 32 #[.bool true, .slice A X.length c]
  have hbz : Below w.heap.size w (w.alloc (.cells #[.bool true, .slice A X.length c] 32)) := (Below.refl _ _).alloc (Nat.le_refl _) _
  have HA := Lib.hid hA
  have HZ := Lib.hid (show val X = z.natAbs ∧ (z < 0) from ⟨vX, hz⟩)
  by_cases hin : -9223372036854775808 ≤ z ∧ z ≤ 9223372036854775807
  · have e1 : narV z = z := by unfold narV; rw [if_pos hin]
    have e2 : inR z = true := by unfold inR; exact decide_eq_true hin
    have HW := Lib.hid (show narV z = z ∧ inR z = true from ⟨e1, e2⟩)
    clear e1 e2 vX hz hA
    go_enter Try.func36, Try.ntmps36
    go_wp2_with (first | (go_at_call_of 17 (Value.int .i64 9223372036854775807); refine (of_max _).mono ?_; rintro e w1 ⟨v, rfl, ⟨⟨B0, d0, Y0, rfl, hB0, hr0⟩⟩, hb1⟩; have HR0 := Lib.hid hr0; clear hr0 hB0; have y0 := (z0.below hb1 z0.lt).alloc (.cells #[.bool false, .slice B0 Y0.length d0] 32); have yc0 := y0.cell 0; have ylt := y0.lt; have hz1 : w.heap.size < w1.heap.size := one_new hb1; have n0 := Blk.new w1 32 #[.bool false, .slice B0 Y0.length d0]; simp at yc0) | (go_at_call 17; ((with_reducible refine (of_min _).mono ?_); rintro e w2 ⟨v, rfl, ⟨⟨B, d, Y, rfl, hB, hfrB, hr1⟩⟩, hb2⟩; have HR := Lib.hid hr1; clear hr1; have n1 := n0.below hb2 n0.lt; have nc0 := n1.cell 0; have nc1 := n1.cell 1; have nf0 := n1.frozen 0; have nf1 := n1.frozen 1; have x0 := y0.below hb2 y0.lt; have hbw := (hbz.trans (hb1.mono hbz.size)).alloc (hbz.trans (hb1.mono hbz.size)).size (.cells #[.bool false, .slice B0 Y0.length d0] 32); have hbw2 := hbw.trans (hb2.mono hbw.size); have hbx := (hbw2.setCell (p := ⟨w1.heap.size, 0, none⟩) (by show w.heap.size ≤ w1.heap.size; omega) (.bool true)).setCell (p := ⟨w1.heap.size, 1, none⟩) (by show w.heap.size ≤ w1.heap.size; omega) (.slice B Y.length d); have u0 := (x0.far (p := ⟨w1.heap.size, 0, none⟩) (by show w.heap.size ≠ w1.heap.size; omega) (.bool true)).far (p := ⟨w1.heap.size, 1, none⟩) (by show w.heap.size ≠ w1.heap.size; omega) (.slice B Y.length d); have hB' := (hB.store (p := ⟨w1.heap.size, 0, none⟩) (fun a ha => by have := hfrB a ha; rw [World.size_alloc] at this; show a.block ≠ w1.heap.size; omega) (.bool true)).store (p := ⟨w1.heap.size, 1, none⟩) (fun a ha => by have := hfrB a ha; rw [World.size_alloc] at this; show a.block ≠ w1.heap.size; omega) (.slice B Y.length d); have uc1 := u0.cell 1; have ult := u0.lt; simp at nc0 nc1 uc1)) | (go_at_call 39; refine (less_digits B A Y.length d X.length c Y X _ hB' (HA.out.keep hbx) rfl rfl (by have := HR.out.2.2.2.2; omega) (by omega) HR.out.2.1 hX HR.out.2.2.1 cX).mono ?_; rintro e w3 ⟨rfl, hb3⟩; have v0 := u0.below hb3 u0.lt; have vc0 := v0.cell 0; have vc1 := v0.cell 1; have hbl := hbx.trans (hb3.mono hbx.size); have vlt := v0.lt; simp at vc0 vc1; have HE := HR.out.2.2.2.1; have ht : decide (val Y < val X) = false := decide_eq_false (by rw [HE]; have := HZ.out; omega); clear HE))
    go_loop [5, 6] (fun u i => ∃ k : Nat, k ≤ X.length ∧ i = .int .i64 ((k : Int) - 1) ∧ u = .int .u64 (val (X.drop k))) (fun _ i => (intOf i + 1).toNat)
    case atStart => exact ⟨X.length, Nat.le_refl _, rfl, by rw [List.drop_length]; rfl⟩
    case round =>
      obtain ⟨k, hk, rfl, rfl⟩ := hrel
      have hdb : 0 ≤ val (X.drop k) := (Ar.val_bd _ (fun d hd => hX d (List.mem_of_mem_drop hd))).1
      have hdl : val (X.drop k) ≤ val X := Ar.val_drop_le X hX k
      by_cases h0 : 0 < k
      · obtain ⟨j, rfl⟩ : ∃ j, k = j + 1 := ⟨k - 1, by omega⟩
        obtain ⟨b2, o2, rfl, hb2', hc2⟩ := (HA.out.keep hbl).at_ (i := j) (by omega)
        have hx := hX.at_ j
        have hvd := Ar.val_drop X j (by omega)
        have hdl2 : val (X.drop j) ≤ val X := Ar.val_drop_le X hX j
        have hzz := HZ.out
        have hup : 10 * val (X.drop (j + 1)) + X.getD j 0 ≤ 9223372036854775808 := by omega
        have HVD := Lib.hid hvd
        clear hvd hzz hdl hdl2
        generalize X.getD j 0 = x at *
        generalize hP : val (X.drop (j + 1)) = P at *
        clear hP
        go_wp2
        go_round
        case rel => exact ⟨j, by omega, rfl, by rw [HVD.out, Int.add_comm]⟩
        case measure => simp [intOf]
      · obtain rfl : k = 0 := by omega
        have hzz := HZ.out
        simp only [List.drop_zero] at hdb hdl ⊢
        have hle : val X ≤ 9223372036854775808 := by omega
        clear hdl hzz
        generalize hP : val X = P at *
        go_wp2
        go_ret2
        have hzz := HZ.out
        refine ⟨?_, hbl⟩
        rw [HW.out.1, HW.out.2]
        have e3 : wrap64 (IntKind.u64.wrap (-P)) = z := by rw [IntKind.wrap_u64]; unfold wrap64; omega
        exact congrArg (fun q => Ending.returned (.tuple #[.int .i64 q, .bool true])) e3
  · have e1 : narV z = 0 := by unfold narV; rw [if_neg hin]
    have e2 : inR z = false := by unfold inR; exact decide_eq_false hin
    have HW := Lib.hid (show narV z = 0 ∧ inR z = false from ⟨e1, e2⟩)
    clear e1 e2 vX hz hA
    go_enter Try.func36, Try.ntmps36
    go_wp2_with (first | (go_at_call_of 17 (Value.int .i64 9223372036854775807); refine (of_max _).mono ?_; rintro e w1 ⟨v, rfl, ⟨⟨B0, d0, Y0, rfl, hB0, hr0⟩⟩, hb1⟩; have HR0 := Lib.hid hr0; clear hr0 hB0; have y0 := (z0.below hb1 z0.lt).alloc (.cells #[.bool false, .slice B0 Y0.length d0] 32); have yc0 := y0.cell 0; have ylt := y0.lt; have hz1 : w.heap.size < w1.heap.size := one_new hb1; have n0 := Blk.new w1 32 #[.bool false, .slice B0 Y0.length d0]; simp at yc0) | (go_at_call 17; ((with_reducible refine (of_min _).mono ?_); rintro e w2 ⟨v, rfl, ⟨⟨B, d, Y, rfl, hB, hfrB, hr1⟩⟩, hb2⟩; have HR := Lib.hid hr1; clear hr1; have n1 := n0.below hb2 n0.lt; have nc0 := n1.cell 0; have nc1 := n1.cell 1; have nf0 := n1.frozen 0; have nf1 := n1.frozen 1; have x0 := y0.below hb2 y0.lt; have hbw := (hbz.trans (hb1.mono hbz.size)).alloc (hbz.trans (hb1.mono hbz.size)).size (.cells #[.bool false, .slice B0 Y0.length d0] 32); have hbw2 := hbw.trans (hb2.mono hbw.size); have hbx := (hbw2.setCell (p := ⟨w1.heap.size, 0, none⟩) (by show w.heap.size ≤ w1.heap.size; omega) (.bool true)).setCell (p := ⟨w1.heap.size, 1, none⟩) (by show w.heap.size ≤ w1.heap.size; omega) (.slice B Y.length d); have u0 := (x0.far (p := ⟨w1.heap.size, 0, none⟩) (by show w.heap.size ≠ w1.heap.size; omega) (.bool true)).far (p := ⟨w1.heap.size, 1, none⟩) (by show w.heap.size ≠ w1.heap.size; omega) (.slice B Y.length d); have hB' := (hB.store (p := ⟨w1.heap.size, 0, none⟩) (fun a ha => by have := hfrB a ha; rw [World.size_alloc] at this; show a.block ≠ w1.heap.size; omega) (.bool true)).store (p := ⟨w1.heap.size, 1, none⟩) (fun a ha => by have := hfrB a ha; rw [World.size_alloc] at this; show a.block ≠ w1.heap.size; omega) (.slice B Y.length d); have uc1 := u0.cell 1; have ult := u0.lt; simp at nc0 nc1 uc1)) | (go_at_call 39; refine (less_digits B A Y.length d X.length c Y X _ hB' (HA.out.keep hbx) rfl rfl (by have := HR.out.2.2.2.2; omega) (by omega) HR.out.2.1 hX HR.out.2.2.1 cX).mono ?_; rintro e w3 ⟨rfl, hb3⟩; have v0 := u0.below hb3 u0.lt; have vc0 := v0.cell 0; have vc1 := v0.cell 1; have hbl := hbx.trans (hb3.mono hbx.size); have vlt := v0.lt; simp at vc0 vc1; have HE := HR.out.2.2.2.1; have ht : decide (val Y < val X) = true := decide_eq_true (by rw [HE]; have := HZ.out; omega); clear HE))
    go_ret2
    refine ⟨?_, hbl⟩
    rw [HW.out.1, HW.out.2]
    rfl

/-- As an int64, if it is one. -/
theorem small_num (va : Value) (z : Int) (n B : Nat) (w : World) (ha : Num w va z n B) (hn : n ≤ 100000) :
    Calls Try.prog 36 #[va] w fun e w' => e = .returned (.tuple #[.int .i64 (narV z), .bool (inR z)]) ∧ Below w.heap.size w w' := by
  obtain ⟨A, c, X, rfl, hA, _, _, hX, cX, vX, lX⟩ := ha.is
  by_cases h : z < 0
  · exact small_neg A c X z w hA (by omega) hX cX vX h
  · exact small_pos A c X z w hA (by omega) hX cX vX h
theorem told_true (va : Value) (z : Int) (n B : Nat) (w : World) (ha : Num w va z n B) (hn : n ≤ 100000) (m e : Int) (hm : m = narV z) (he : e = narE z) :
    Calls Try.prog 13 #[va, .int .i64 m, .int .i64 e] w fun e w' => e = .returned (.bool true) ∧ Below w.heap.size w w' := by
  obtain ⟨A, c, X, rfl, hA, hrest⟩ := ha.is
  have HM := Lib.hid hm
  have SM := Lib.hid (small_num (.agg #[.bool (decide (z < 0)), .slice A X.length c]) z n B (w.alloc (.cells #[.bool (decide (z < 0)), .slice A X.length c] 32)) ⟨A, c, X, rfl, hA.keep ((Below.refl _ _).alloc (Nat.le_refl _) _), hrest⟩ hn)
  have hmm : (m == narV z) = true := by simp [hm]
  have hcase : (inR z = true ∧ (e == 0) = true) ∨ (inR z = false ∧ (e == 2) = true) := by
    unfold inR; unfold narE at he
    by_cases h : -9223372036854775808 ≤ z ∧ z ≤ 9223372036854775807
    · rw [if_pos h] at he; exact .inl ⟨decide_eq_true h, by simp [he]⟩
    · rw [if_neg h] at he; exact .inr ⟨decide_eq_false h, by simp [he]⟩
  clear hm he hA hrest ha
  generalize narV z = q at *
  generalize inR z = b at *
  generalize decide (z < 0) = s at *
  rcases hcase with ⟨h1, h2⟩ | ⟨h1, h2⟩
  all_goals
    subst h1
    go_enter Try.func13, Try.ntmps13
    go_wp2_with (go_at_call 36; refine SM.out.mono ?_; rintro e w1 ⟨rfl, hb1⟩)
    go_ret
    exact ⟨rfl, ((Below.refl _ _).alloc (Nat.le_refl _) _).trans (hb1.mono (by simp))⟩

/-- Numbers' sum, as the reference has it. -/
def sgn (m : Bool) (s : Int) : Int := if m = true then -s else s
set_option maxHeartbeats 1000000 in
theorem refsum_any (A : Option Addr) (n c : Nat) (m : Bool) (xs : List Int) (w : World) (hA : Ints w .i64 A xs) (hn : xs.length = n) (hf : Fit64 xs) (hs : n ≤ 1000) :
    Calls Try.prog 14 #[.slice A n c, .bool m] w fun e w' => ∃ v, e = .returned v ∧ Num w' v (sgn m xs.sum) (n + 20) w.heap.size ∧ Below w.heap.size w w' := by
  subst hn
  go_enter Try.func14, Try.ntmps14
  go_wp2
  go_loopw [6] (fun i wr => ∃ (k : Nat) (A' : Option Addr) (c' : Nat) (D : List Int), k ≤ xs.length ∧ i = .int .i64 k ∧ Below w.heap.size w wr ∧ Blk wr w.heap.size 32 #[.bool false, .slice none 0 0] ∧ Blk wr (w.heap.size + 1) 32 #[.bool (decide (sgn m (xs.take k).sum < 0)), .slice A' D.length c'] ∧ Num wr (.agg #[.bool (decide (sgn m (xs.take k).sum < 0)), .slice A' D.length c']) (sgn m (xs.take k).sum) (k + 20) (w.heap.size + 2)) (fun i _ => xs.length - (intOf i).toNat)
  case atStart =>
    have z1 := Blk.new (w.alloc (.cells #[.bool false, .slice none 0 0] 32)) 32 #[.bool false, .slice none 0 0]
    rw [World.size_alloc] at z1
    have e0 : sgn m (xs.take 0).sum = 0 := by cases m <;> simp [sgn]
    refine ⟨0, none, 0, [], Nat.zero_le _, rfl, ((Below.refl _ _).alloc (Nat.le_refl _) _).alloc (by simp) _, (Blk.new w _ _).alloc _, ?_, ?_⟩
    · rw [e0]; exact z1
    · rw [e0]; exact ⟨none, 0, [], rfl, .inl rfl, fun a ha => by simp at ha, Nat.le_refl _, fun d hd => by simp at hd, .inl rfl, rfl, by simp⟩
  case round =>
    obtain ⟨k, A', c', D, hk, rfl, hbl, hr, hs1, hnum⟩ := hrel
    have r0 := hr.cell 0
    have r1 := hr.cell 1
    have s0 := hs1.cell 0
    have s1 := hs1.cell 1
    have rlt := hr.lt
    have slt := hs1.lt
    have q0 := hr.frozen 0
    have q1 := hr.frozen 1
    by_cases hlt : k < xs.length
    · obtain ⟨b, off, rfl, hb, hcell⟩ := (hA.keep hbl).at_ (i := k) hlt
      have hx := hf.at_ k
      have hts := take_sum xs k hlt
      have hstep : sgn m (xs.take (k + 1)).sum = sgn m (xs.take k).sum + sgn m (xs.getD k 0) := by rw [hts]; cases m <;> simp [sgn]; omega
      have HST := Lib.hid hstep
      have HNUM := Lib.hid hnum
      have HS1 := Lib.hid hs1
      have HR := Lib.hid hr
      clear hstep hts hnum hs1 hr
      generalize xs.getD k 0 = x at *
      generalize sgn m (xs.take k).sum = S at *
      generalize hsb : decide (S < 0) = sb at *
      have HSB := Lib.hid hsb
      clear hsb
      simp at r0 r1 s0 s1
      have OF := Lib.hid (of_any x wr hx.1 hx.2)
      cases m
      · go_wp2_with (first | (go_at_call 17; refine OF.out.mono ?_; rintro e w1 ⟨v, rfl, ⟨⟨A1, c1, D1, rfl, hI1, hr1⟩⟩, hb1⟩; have HR1 := Lib.hid hr1; have HI1 := Lib.hid hI1; clear hr1 hI1; have hbx := hbl.trans (hb1.mono hbl.size); have sx := (HS1.out.below hb1 slt).alloc (.cells #[.bool (decide (x < 0)), .slice A1 D1.length c1] 32); have sx0 := sx.cell 0; have sx1 := sx.cell 1; have sxlt := sx.lt; have hz1 := hb1.size; have slt1 : w.heap.size + 1 < w1.heap.size := Nat.lt_of_lt_of_le slt hz1; simp at sx0 sx1) | (go_at_call 16; refine (plus_num (.agg #[.bool sb, .slice A' D.length c']) (.agg #[.bool (decide (x < 0)), .slice A1 D1.length c1]) S x (k + 20) 20 _ _ _ ((HNUM.out.keep hb1).keep ((Below.refl _ _).alloc (Nat.le_refl _) _)) (Num.keep ⟨A1, c1, D1, rfl, HI1.out, HR1.out⟩ ((Below.refl _ _).alloc (Nat.le_refl _) _)) (by omega) (by omega)).mono ?_; rintro e w2 ⟨v, rfl, ⟨⟨A2, c2, D2, rfl, hI2, hr2⟩⟩, hb2⟩; have HR2 := Lib.hid hr2; have HI2 := Lib.hid hI2; clear hr2 hI2; have sy := sx.below hb2 sx.lt; have sy0 := sy.cell 0; have sy1 := sy.cell 1; have sf0 := sy.frozen 0; have sf1 := sy.frozen 1; have sylt := sy.lt; simp at sy0 sy1))
        go_roundw
        case rel =>
          have hbe : Below w.heap.size w ((w2.setCell ⟨w.heap.size + 1, 0, none⟩ (.bool (decide (S + x < 0)))).setCell ⟨w.heap.size + 1, 1, none⟩ (.slice A2 D2.length c2)) := (((hbx.alloc hbx.size _).trans (hb2.mono (hbx.alloc hbx.size _).size)).setCell (by simp) _).setCell (by simp) _
          have hR := HST.out
          refine ⟨k + 1, A2, c2, D2, by omega, by go_num, hbe, ?_, ?_, ?_⟩
          · exact ((((HR.out.below hb1 rlt).alloc _).below hb2 (by simp; omega)).far (by simp) _).far (by simp) _
          · rw [hR]; exact (sy.put 0 _).put 1 _
          · rw [hR]
            refine ⟨A2, c2, D2, rfl, (HI2.out.store (fun a ha => ?_) _).store (fun a ha => ?_) _, HR2.out.1.mono (by have := hbx.size; simp; omega), HR2.out.2.1, HR2.out.2.2.1, HR2.out.2.2.2.1, HR2.out.2.2.2.2.1, by have := HR2.out.2.2.2.2.2; omega⟩
            all_goals (have := HR2.out.1 a ha; rw [World.size_alloc] at this; show a.block ≠ w.heap.size + 1; omega)
        case measure => simp [intOf]; omega
      · go_wp2_with (first | (go_at_call 17; refine OF.out.mono ?_; rintro e w1 ⟨v, rfl, ⟨⟨A1, c1, D1, rfl, hI1, hr1⟩⟩, hb1⟩; have HR1 := Lib.hid hr1; have HI1 := Lib.hid hI1; clear hr1 hI1; have hbx := hbl.trans (hb1.mono hbl.size); have sx := (HS1.out.below hb1 slt).alloc (.cells #[.bool (decide (x < 0)), .slice A1 D1.length c1] 32); have sxlt := sx.lt; have hz1 := hb1.size; have slt1 : w.heap.size + 1 < w1.heap.size := Nat.lt_of_lt_of_le slt hz1; have g0 := Blk.new w1 32 #[.bool (decide (x < 0)), .slice A1 D1.length c1]) | (go_at_call 18; refine (minus_exact A1 c1 D1 x _ (HI1.out.keep ((Below.refl _ _).alloc (Nat.le_refl _) _)) HR1.out.2.1 (by have := HR1.out.2.2.2.2.2; omega) HR1.out.2.2.1 HR1.out.2.2.2.2.1).mono ?_; rintro e w2 ⟨q, he, hq, hqr, hb2⟩; generalize hxb : decide (-x < 0) = xb at he; have HXB := Lib.hid hxb; clear hxb; subst he; have g1 := g0.below hb2 g0.lt; have g1c0 := g1.cell 0; have g1c1 := g1.cell 1; have g1f0 := g1.frozen 0; have g1f1 := g1.frozen 1; have g2 := (g1.put 0 (.bool xb)).put 1 (.slice A1 q c1); have sxx := sx.below hb2 sx.lt; have sxy := (sxx.far (p := ⟨w1.heap.size, 0, none⟩) (by show w.heap.size + 1 ≠ w1.heap.size; omega) (.bool xb)).far (p := ⟨w1.heap.size, 1, none⟩) (by show w.heap.size + 1 ≠ w1.heap.size; omega) (.slice A1 q c1); have hbw : Below w1.heap.size w1 ((w2.setCell ⟨w1.heap.size, 0, none⟩ (.bool xb)).setCell ⟨w1.heap.size, 1, none⟩ (.slice A1 q c1)) := ((((Below.refl _ _).alloc (Nat.le_refl _) _).trans (hb2.mono (by simp))).setCell (Nat.le_refl _) _).setCell (Nat.le_refl _) _; have k0 := sxy.cell 0; have k1 := sxy.cell 1; have klt := sxy.lt; simp at g1c0 g1c1 k0 k1) | (go_at_call 16; refine (plus_num (.agg #[.bool sb, .slice A' D.length c']) (.agg #[.bool xb, .slice A1 q c1]) S (-x) (k + 20) 20 (w.heap.size + 2) wr.heap.size _ ((HNUM.out.keep hb1).keep hbw) ⟨A1, c1, D1.take q, by rw [List.length_take, Nat.min_eq_left hq, HXB.out], (HI1.out.keep hbw).take q, HR1.out.1, by have := HR1.out.2.1; rw [List.length_take]; omega, HR1.out.2.2.1.take q, hqr.out.1, hqr.out.2, by have := HR1.out.2.2.2.2.2; rw [List.length_take]; omega⟩ (by omega) (by omega)).mono ?_; rintro e w3 ⟨v, he, ⟨⟨A2, c2, D2, hv2, hI2, hr2⟩⟩, hb3⟩; generalize hyb : decide (S + -x < 0) = yb at hv2; have HYB := Lib.hid hyb; clear hyb; subst hv2; subst he; have HR2 := Lib.hid hr2; have HI2 := Lib.hid hI2; clear hr2 hI2; have sy := sxy.below hb3 sxy.lt; have sy0 := sy.cell 0; have sy1 := sy.cell 1; have sf0 := sy.frozen 0; have sf1 := sy.frozen 1; have sylt := sy.lt; simp at sy0 sy1))
        go_roundw
        case rel =>
          have hbv : Below w.heap.size w ((w2.setCell ⟨w1.heap.size, 0, none⟩ (.bool xb)).setCell ⟨w1.heap.size, 1, none⟩ (.slice A1 q c1)) := hbx.trans (hbw.mono hbx.size)
          have hbe : Below w.heap.size w ((w3.setCell ⟨w.heap.size + 1, 0, none⟩ (.bool yb)).setCell ⟨w.heap.size + 1, 1, none⟩ (.slice A2 D2.length c2)) := ((hbv.trans (hb3.mono hbv.size)).setCell (by simp) _).setCell (by simp) _
          have hR := HST.out
          have hR' : sgn true (xs.take (k + 1)).sum = S + -x := by rw [hR]; rfl
          refine ⟨k + 1, A2, c2, D2, by omega, by go_num, hbe, ?_, ?_, ?_⟩
          · have hrw := (HR.out.below hb1 rlt).below hbw (by omega)
            exact ((hrw.below hb3 hrw.lt).far (by simp) _).far (by simp) _
          · rw [hR', HYB.out]; exact (sy.put 0 _).put 1 _
          · rw [hR', HYB.out]
            refine ⟨A2, c2, D2, by rw [HYB.out], (HI2.out.store (fun a ha => ?_) _).store (fun a ha => ?_) _, HR2.out.1.mono (by omega), HR2.out.2.1, HR2.out.2.2.1, HR2.out.2.2.2.1, HR2.out.2.2.2.2.1, by have := HR2.out.2.2.2.2.2; omega⟩
            all_goals (have := HR2.out.1 a ha; have h5 := klt; show a.block ≠ w.heap.size + 1; omega)
        case measure => simp [intOf]; omega
    · obtain rfl : k = xs.length := by omega
      rw [List.take_length] at hs1 hnum s0
      have HNUM := Lib.hid hnum
      have HR := Lib.hid hr
      clear hnum hs1 hr
      generalize hsb : decide (sgn m xs.sum < 0) = sb at *
      have HSB := Lib.hid hsb
      clear hsb
      simp at r0 r1 s0 s1
      go_wp2
      refine bodyPost_ret (v := .agg #[.bool sb, .slice A' D.length c']) (by simp [results, Try.results14, go_sem, r0, r1]) rfl ⟨_, rfl, ?_, (hbl.setCell (by simp) _).setCell (by simp) _⟩
      obtain ⟨A2, c2, D2, h1, h2, h3, h4⟩ := HNUM.out.is
      rw [HSB.out] at h1
      refine ⟨A2, c2, D2, by rw [HSB.out]; exact h1, (h2.store (fun a ha => ?_) _).store (fun a ha => ?_) _, h3.mono (by omega), by rw [Nat.add_comm] at h4; simpa [Nat.add_comm] using h4⟩
      all_goals (have := h3 a ha; show a.block ≠ w.heap.size; omega)
end Go.Proofs.Ytabdmhlnaahdlaa

/- Contracts of the document's reader: numbers of a bound, signed numbers, texts. -/
import Derived.Test.YtacangeamdcgdaaPrt
namespace Go.Proofs.Ytacangeamdcgdaa
open Go.ChangeShapes Go.WideShapes Go.ChangeAt Go.RowKit
theorem stepR_none {α : Type} (d : α) (f : List UInt8 → Option (α × List UInt8)) (st : Option (List UInt8)) (h : (stepR d f st).2 = none) : (stepR d f st).1 = d := by
  cases st with
  | none => rfl
  | some l => cases hf : f l with
    | none => rw [stepR_bad _ _ _ hf]
    | some x => obtain ⟨a, b⟩ := x; rw [stepR_ok _ _ _ _ _ hf] at h; cases h
set_option maxRecDepth 100000 in
set_option maxHeartbeats 4000000 in
theorem psize_any (g : Nat) (most : Int) (st : Option (List UInt8)) (w : World) (h : Pt w g st) (hm : -9223372036854775808 ≤ most ∧ most ≤ 9223372036854775807) :
    Calls Try.prog 29/-f-/ #[.pointer (some ⟨g, 0, none⟩), .int .i64 most] w fun e w' => e = .returned (.int .i64 (stepR 0 (sizeR most) st).1) ∧ Pt w' g (stepR 0 (sizeR most) st).2 ∧ Off (· = g) w w' := by
  have N := Lib.hid (pnumber_any g st w h)
  have HS := Lib.hid (step_size most st hm)
  have hlt := nat_lt st
  have HN0 := Lib.hid (stepR_none 0 natR st)
  clear h
  generalize stepR 0 (sizeR most) st = res at *
  generalize stepR 0 natR st = q at *
  obtain ⟨n, st1⟩ := q
  simp only at N HS hlt HN0
  by_cases hn : most < (n : Int)
  · have HRES := Lib.hid (HS.out.trans (if_pos hn))
    clear HS HN0
    rw [HRES.out]
    by_cases hm0 : most < 0
    · go_enter Try.func29, Try.ntmps29
      go_wp2_with (go_at_call 52/-f-/; (with_reducible refine N.out.mono ?_); rintro e w1 ⟨rfl, hp, ho⟩; have HP := Lib.hid hp; have HO := Lib.hid ho; obtain ⟨S1, hB, _, _⟩ := hp; have f1 := hB.frozen 1; have c1 := hB.cell 1; have hl1 := hB.lt; simp only [List.getElem?_toArray, List.getElem?_cons_zero, List.getElem?_cons_succ] at c1; clear hB ho)
      go_ret
      exact ⟨rfl, HP.out.bad.1, off_t HO.out HP.out.bad.2⟩
    · have hm1 : 0 ≤ most := by omega
      have hmw : (most : Int) < 18446744073709551616 := by omega
      go_enter Try.func29, Try.ntmps29
      go_wp2_with (go_at_call 52/-f-/; (with_reducible refine N.out.mono ?_); rintro e w1 ⟨rfl, hp, ho⟩; have HP := Lib.hid hp; have HO := Lib.hid ho; obtain ⟨S1, hB, _, _⟩ := hp; have f1 := hB.frozen 1; have c1 := hB.cell 1; have hl1 := hB.lt; simp only [List.getElem?_toArray, List.getElem?_cons_zero, List.getElem?_cons_succ] at c1; clear hB ho)
      go_ret
      exact ⟨rfl, HP.out.bad.1, off_t HO.out HP.out.bad.2⟩
  · have HRES := Lib.hid (HS.out.trans (if_neg hn))
    clear HS
    rw [HRES.out]
    have hm1 : 0 ≤ most := by omega
    have hm0 : ¬ most < 0 := by omega
    have hnm : (n : Int) ≤ most := by omega
    cases st1 with
    | none =>
      have hn0 := HN0.out rfl
      subst hn0
      go_enter Try.func29, Try.ntmps29
      go_wp2_with (go_at_call 52/-f-/; (with_reducible refine N.out.mono ?_); rintro e w1 ⟨rfl, hp, ho⟩; have HP := Lib.hid hp; have HO := Lib.hid ho; obtain ⟨S1, hB, _, _⟩ := hp; have c1 := hB.cell 1; have hl1 := hB.lt; simp only [List.getElem?_toArray, List.getElem?_cons_zero, List.getElem?_cons_succ, Option.isNone_none] at c1; clear hB ho)
      go_ret
      exact ⟨rfl, HP.out, HO.out⟩
    | some l =>
      clear HN0
      go_enter Try.func29, Try.ntmps29
      go_wp2_with (go_at_call 52/-f-/; (with_reducible refine N.out.mono ?_); rintro e w1 ⟨rfl, hp, ho⟩; have HP := Lib.hid hp; have HO := Lib.hid ho; obtain ⟨S1, hB, _, _⟩ := hp; have c1 := hB.cell 1; have hl1 := hB.lt; simp only [List.getElem?_toArray, List.getElem?_cons_zero, List.getElem?_cons_succ, Option.isNone_some] at c1; clear hB ho)
      go_ret
      exact ⟨rfl, HP.out, HO.out⟩
set_option maxRecDepth 100000 in
set_option maxHeartbeats 4000000 in
theorem psigned_any (g : Nat) (st : Option (List UInt8)) (w : World) (h : Pt w g st) :
    Calls Try.prog 91/-f-/ #[.pointer (some ⟨g, 0, none⟩)] w fun e w' => e = .returned (.int .i64 (stepR 0 signedR st).1) ∧ Pt w' g (stepR 0 signedR st).2 ∧ Off (· = g) w w' := by
  have N := Lib.hid (pnumber_any g st w h)
  have HRES := Lib.hid (step_signed st)
  have hlt := nat_lt st
  clear h
  generalize stepR 0 signedR st = res at *
  generalize stepR 0 natR st = q at *
  obtain ⟨n, st1⟩ := q
  simp only at N HRES hlt
  rw [HRES.out]
  by_cases hn : n % 2 = 0
  · have hz : (((n : Int) % 2) == 0) = true := beq_iff_eq.2 (by omega)
    go_enter Try.func91, Try.ntmps91
    go_wp2_with (go_at_call 52/-f-/; (with_reducible refine N.out.mono ?_); rintro e w1 ⟨rfl, hp, ho⟩)
    go_ret
    exact ⟨ret_int (by unfold zag; rw [if_pos hn]; omega), hp, ho⟩
  · have hz : (((n : Int) % 2) == 0) = false := beq_eq_false_iff_ne.2 (by omega)
    go_enter Try.func91, Try.ntmps91
    go_wp2_with (go_at_call 52/-f-/; (with_reducible refine N.out.mono ?_); rintro e w1 ⟨rfl, hp, ho⟩)
    go_ret
    exact ⟨ret_int (by unfold zag; rw [if_neg hn]; omega), hp, ho⟩
set_option maxRecDepth 100000 in
set_option maxHeartbeats 4000000 in
theorem ptext_any (g : Nat) (most : Int) (st : Option (List UInt8)) (w : World) (h : Pt w g st) (hm : -9223372036854775808 ≤ most ∧ most ≤ 9223372036854775807) :
    Calls Try.prog 92/-f-/ #[.pointer (some ⟨g, 0, none⟩), .int .i64 most] w fun e w' => e = .returned (.string ⟨(stepR [] (textR most) st).1.toArray⟩) ∧ Pt w' g (stepR [] (textR most) st).2 ∧ Off (· = g) w w' := by
  have S := Lib.hid (psize_any g most st w h hm)
  have hlt := size_lt most st hm.2
  have HRES := Lib.hid (step_text most st)
  clear h
  generalize stepR [] (textR most) st = res at *
  generalize stepR 0 (sizeR most) st = q at *
  obtain ⟨n, st1⟩ := q
  simp only at S hlt HRES
  have T := Lib.hid (fun W hW => pcut_any g n st1 W hW hlt)
  rw [← HRES.out] at T
  clear HRES
  go_enter Try.func92, Try.ntmps92
  go_wp2_with (first
    | (go_at_call 29/-f-/; (with_reducible refine S.out.mono ?_); rintro e w1 ⟨rfl, hp1, ho1⟩)
    | (go_at_call 73/-f-/; (with_reducible refine (T.out _ hp1).mono ?_); rintro e w2 ⟨rfl, hp2, ho2⟩))
  go_ret
  exact ⟨rfl, hp2, off_t ho1 ho2⟩
end Go.Proofs.Ytacangeamdcgdaa

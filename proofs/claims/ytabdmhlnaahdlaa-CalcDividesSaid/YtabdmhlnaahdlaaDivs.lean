/- CalcDivides: whatever two numbers: the quotient, rounded down, and what is left of it, are what the reference's digits say. No condition. -/
import Derived.Test.YtabdmhlnaahdlaaRows
import Derived.Test.YtabdmhlnaahdlaaRefG
import Derived.OpenShut
import Derived.ChangeOld
namespace Go.Proofs.Ytabdmhlnaahdlaa.CalcDivides
open Go.ChangeShapes Go.WideShapes Go.ChangeAt Go.RowKit
set_option linter.unusedVariables false

theorem rest_sign (a b : Int) (hb : b ≠ 0) : (a.fmod b = 0 ∨ (a.fmod b < 0 ↔ b < 0)) ∧ ((0 < b ∧ a.fmod b < b) ∨ (b < 0 ∧ b < a.fmod b)) := by
  have h1 := Ar.tm_bd a b hb
  by_cases ht : a.tmod b = 0
  · rw [(Ar.fq_even a b ht).2, ht]; omega
  · have hs := Ar.tm_sign a b ht
    by_cases h : (a < 0 ↔ b < 0)
    · rw [(Ar.fq_same a b ht hb h).2]; omega
    · rw [(Ar.fq_diff a b ht hb h).2]; omega


set_option maxHeartbeats 2000000 in
theorem walk (a b : Int) (w : World) (ha : -9223372036854775808 ≤ a) (ha' : a ≤ 9223372036854775807) (hb : -9223372036854775808 ≤ b) (hb' : b ≤ 9223372036854775807) :
    Calls Try.prog 4 #[.int .i64 a, .int .i64 b] w fun e w' => e = .returned (.bool true) ∧ Below w.heap.size w w' := by
  have D := Lib.hid (fun W => div_any a b W ha ha' hb hb')
  have M := Lib.hid (fun W => mod_any a b W ha ha' hb hb')
  have h0 : Below w.heap.size w w := Below.refl _ _
  by_cases hb0 : b = 0
  · have hz : (b == 0) = true := by simp [hb0]
    have D0 := D.out
    have M0 := M.out
    have e1 : Ar.divV a b = 0 := by simp [Ar.divV, hb0]
    have e2 : Ar.divE a b = 3 := by simp [Ar.divE, hb0]
    have e3 : Ar.modV a b = 0 := by simp [Ar.modV, hb0]
    have e4 : Ar.modE b = 3 := by simp [Ar.modE, hb0]
    simp only [e1, e2] at D0
    simp only [e3, e4] at M0
    have D' := Lib.hid D0
    have M' := Lib.hid M0
    clear D0 M0 e1 e2 e3 e4 hb0
    go_enter Try.func4, Try.ntmps4
    go_wp2_with (first | (go_at_call 19; refine (D'.out _).mono ?_; rintro e w1 ⟨rfl, rfl⟩) | (go_at_call 20; refine (M'.out _).mono ?_; rintro e w1 ⟨rfl, rfl⟩) | (go_at_call 8; refine (awake_any _).mono ?_; rintro e w1 ⟨rfl, hb1⟩))
    go_ret
    exact ⟨rfl, hb1⟩
  have hz : (b == 0) = false := by simp [hb0]
  by_cases hm1 : b = -1
  · have hz1 : (b == -1) = true := by simp [hm1]
    have e1 : Ar.divV a b = narV (-a) := by
      subst hm1; unfold Ar.divV narV; rw [if_neg (by omega)]
      by_cases h : a = -9223372036854775808
      · rw [if_pos ⟨h, rfl⟩, if_neg (by omega)]
      · rw [if_neg (fun h' => h h'.1), if_pos (by omega), (Ar.fq_even a (-1) (by simp)).1]; simp
    have e2 : Ar.divE a b = narE (-a) := by
      subst hm1; unfold Ar.divE narE; rw [if_neg (by omega)]
      by_cases h : a = -9223372036854775808
      · rw [if_pos ⟨h, rfl⟩, if_neg (by omega)]
      · rw [if_neg (fun h' => h h'.1), if_pos (by omega)]
    have e3 : Ar.modV a b = 0 := by subst hm1; unfold Ar.modV; rw [if_neg (by omega), (Ar.fq_even a (-1) (by simp)).2]; simp
    have e4 : Ar.modE b = 0 := by subst hm1; rfl
    have D0 := D.out
    have M0 := M.out
    simp only [e1, e2] at D0
    simp only [e3, e4] at M0
    have D' := Lib.hid D0
    have M' := Lib.hid M0
    clear D0 M0 e1 e2 e3 e4 hm1 hb0
    go_enter Try.func4, Try.ntmps4
    go_wp2_with fail
    refine (D'.out _).mono ?_
    rintro e w1 ⟨rfl, rfl⟩
    go_wp2_with fail
    refine (M'.out _).mono ?_
    rintro e w1 ⟨rfl, rfl⟩
    go_wp2_with fail
    refine (of_any a _ ha ha').mono ?_
    rintro e w1 ⟨v1, rfl, n1, b1⟩
    have h1 := h0.trans (b1.mono h0.size)
    go_wp2_with fail
    refine (minus_num v1 _ _ _ _ n1 (by omega)).mono ?_
    rintro e w2 ⟨v2, rfl, n2, b2⟩
    have h2 := h1.trans (b2.mono h1.size)
    go_wp2_with fail
    refine (told_true v2 _ _ _ _ n2 (by omega) _ _ (by rfl) (by rfl)).mono ?_
    rintro e w3 ⟨rfl, b3⟩
    have h3 := h2.trans (b3.mono h2.size)
    go_wp2_with fail
    refine (awake_any _).mono ?_
    rintro e w4 ⟨rfl, b4⟩
    have h4 := h3.trans (b4.mono h3.size)
    go_wp2_with fail
    go_ret
    exact ⟨rfl, h4⟩
  have hz1 : (b == -1) = false := by simp [hm1]
  have hab : ¬ (a = -9223372036854775808 ∧ b = -1) := fun h => hm1 h.2
  have e1 : Ar.divE a b = 0 := by unfold Ar.divE; rw [if_neg hb0, if_neg hab]
  have e2 : Ar.divV a b = a.fdiv b := by unfold Ar.divV; rw [if_neg hb0, if_neg hab]
  have e3 : Ar.modE b = 0 := by unfold Ar.modE; rw [if_neg hb0]
  have e4 : Ar.modV a b = a.fmod b := by unfold Ar.modV; rw [if_neg hb0]
  have D0 := D.out
  have M0 := M.out
  simp only [e1, e2] at D0
  simp only [e3, e4] at M0
  have D' := Lib.hid D0
  have M' := Lib.hid M0
  obtain ⟨g1, g2⟩ := rest_sign a b hb0
  have hab2 := Int.mul_fdiv_add_fmod a b
  have hq := Ar.tq_all a b ha ha' hab hb0
  have hm := Ar.tm_bd a b hb0
  have hqr : (-9223372036854775808 ≤ a.fdiv b ∧ a.fdiv b ≤ 9223372036854775807) ∧ (-9223372036854775808 ≤ a.fmod b ∧ a.fmod b ≤ 9223372036854775807) := by
    by_cases ht : a.tmod b = 0
    · rw [(Ar.fq_even a b ht).1, (Ar.fq_even a b ht).2]; omega
    · have h2 := Ar.tq_two a b ht hb0
      by_cases h : (a < 0 ↔ b < 0)
      · rw [(Ar.fq_same a b ht hb0 h).1, (Ar.fq_same a b ht hb0 h).2]; omega
      · have hs := Ar.tm_sign a b ht
        rw [(Ar.fq_diff a b ht hb0 h).1, (Ar.fq_diff a b ht hb0 h).2]; omega
  clear e1 e2 e3 e4 hq hm hab D M D0 M0
  generalize a.fdiv b = q at *
  generalize a.fmod b = r at *
  have hlo : 0 ≤ (if b < 0 then -(a - b * q) else a - b * q) := by split <;> omega
  have hhi : 0 < (if b < 0 then -(b * q + b - a) else b * q + b - a) := by split <;> omega
  have FL := Lib.hid (fun W => floor_true a b q W ⟨ha, ha'⟩ ⟨hb, hb'⟩ hqr.1 hlo hhi)
  have HR := Lib.hid (show a + -(b * q) = r by omega)
  have v3 : narV r = r := by unfold narV; rw [if_pos hqr.2]
  have v4 : narE r = 0 := by unfold narE; rw [if_pos hqr.2]
  have HV := Lib.hid (And.intro v3 v4)
  clear hlo hhi hab2 v3 v4 hm1 g1 g2
  go_enter Try.func4, Try.ntmps4
  go_wp2_with fail
  refine (D'.out _).mono ?_
  rintro e w1 ⟨rfl, rfl⟩
  go_wp2_with fail
  refine (M'.out _).mono ?_
  rintro e w1 ⟨rfl, rfl⟩
  go_wp2_with fail
  refine (of_any a _ ha ha').mono ?_
  rintro e w1 ⟨v1, rfl, n1, b1⟩
  have h1 := h0.trans (b1.mono h0.size)
  go_wp2_with fail
  refine (of_any b _ hb hb').mono ?_
  rintro e w2 ⟨v2, rfl, n2, b2⟩
  have h2 := h1.trans (b2.mono h1.size)
  go_wp2_with fail
  refine (of_any q _ hqr.1.1 hqr.1.2).mono ?_
  rintro e w3 ⟨v3, rfl, n3, b3⟩
  have h3 := h2.trans (b3.mono h2.size)
  go_wp2_with fail
  refine (times_num v2 v3 _ _ _ _ _ _ _ (n2.keep b3) n3 (by omega) (by omega)).mono ?_
  rintro e w4 ⟨v4, rfl, n4, b4⟩
  have h4 := h3.trans (b4.mono h3.size)
  go_wp2_with fail
  refine (minus_num v4 _ _ _ _ n4 (by omega)).mono ?_
  rintro e w5 ⟨v5, rfl, n5, b5⟩
  have h5 := h4.trans (b5.mono h4.size)
  go_wp2_with fail
  refine (plus_num v1 v5 _ _ _ _ _ _ _ ((((n1.keep b2).keep b3).keep b4).keep b5) n5 (by omega) (by omega)).mono ?_
  rintro e w6 ⟨v6, rfl, n6, b6⟩
  have h6 := h5.trans (b6.mono h5.size)
  rw [HR.out] at n6
  obtain ⟨A6, c6, D6, s6, hv6, HS6⟩ := At.of n6
  subst hv6
  have k6 := Blk.new w6 32 #[.bool s6, .slice A6 D6.length c6]
  have h7 := h6.alloc h6.size (.cells #[.bool s6, .slice A6 D6.length c6] 32)
  have n7 := n6.keep ((Below.refl _ _).alloc (Nat.le_refl _) (.cells #[.bool s6, .slice A6 D6.length c6] 32))
  go_wp2_with fail
  refine (FL.out _).mono ?_
  rintro e w8 ⟨rfl, b8⟩
  have h8 := h7.trans (b8.mono h7.size)
  have k8 := k6.below b8 k6.lt
  have c80 := k8.cell 0
  have c81 := k8.cell 1
  simp at c80 c81
  go_wp2_with fail
  refine (told_true (.agg #[.bool s6, .slice A6 D6.length c6]) r _ _ _ (n7.keep b8) (by omega) _ _ HV.out.1.symm HV.out.2.symm).mono ?_
  rintro e w9 ⟨rfl, b9⟩
  have h9 := h8.trans (b9.mono h8.size)
  go_wp2_with fail
  refine (awake_any _).mono ?_
  rintro e w10 ⟨rfl, b10⟩
  have h10 := h9.trans (b10.mono h9.size)
  go_wp2_with fail
  go_ret
  exact ⟨rfl, h10⟩

theorem own : ownKnob Try.prog.godebug = none := by kernel_rfl
theorem laidOut : laidOutB Try.prog = true := by kernel_rfl
theorem int_bd {a : Int} (h : (Lit.int .i64 a).wf = true) : -9223372036854775808 ≤ a ∧ a ≤ 9223372036854775807 := bounds_i64 h
set_option maxRecDepth 100000 in
theorem lifted (os : Os) (started : os.Started) (H : Type) (enc : TypeId × Value → H) :
    ReturnsInHanded {} Try.checked os 4 .any (Rows.calcDividesSpec.pre6 enc Try.prog Try.f4 Rows.calcDividesRow.domain false) (Rows.calcDividesSpec.post enc Try.prog Try.f4 false true false false) := by
  refine returnsInHanded_of_change (C := Try.checked) own started (by kernel_rfl) Try.func4
    (ChangeSpec.witness6 (enc := enc) (C := Try.checked) false ⟨#[], #[.int .i64 0, .int .i64 0], []⟩ 8 (by kernel_rfl) (by kernel_rfl) (by kernel_rfl) (by kernel_rfl)) ?_
  intro W base args ds gs before hval0 hW hcnd _
  have hval : ∀ (j : Nat) t v, Try.f4.params[j]? = some t → args[j]? = some v → Value.okWide Try.prog W .any base t v := hval0
  have hW' := hW
  obtain ⟨p, q, hA0, hV, rfl, hfz, hnd⟩ := hW
  have hA : DataW.TrodAll enc Try.prog W 0 (fun _ => true) true Try.f4.params.toList args.toList ds p := hA0
  rw [Try.params4] at hA hval
  obtain ⟨v0, vs0, d0, ds0, p0, q0, hargs, rfl, rfl, h0, r0⟩ := trodAll_cons hA
  obtain ⟨v1, vs1, d1, ds1, p1, q1, rfl, rfl, rfl, h1, r1⟩ := trodAll_cons r0
  obtain ⟨rfl, rfl, rfl⟩ := trodAll_nil r1
  obtain rfl : args = #[v0, v1] := by cases args; simp_all
  obtain ⟨rfl, rfl⟩ := trodVars_none hV
  obtain ⟨a0, rfl, rfl, rfl, w0⟩ := open_int Try.underlying2 (hval 0 2 v0 rfl rfl) h0
  obtain ⟨a1, rfl, rfl, rfl, w1⟩ := open_int Try.underlying2 (hval 1 2 v1 rfl rfl) h1
  clear hA0 hval0
  refine (walk a0 a1 W (int_bd w0).1 (int_bd w0).2 (int_bd w1).1 (int_bd w1).2).mono fun e W' ⟨he, bel⟩ => ?_
  subst he
  exact ⟨_, rfl, _, _, _, [], _, [], hW', trodAll_mk1 (shut_bool Try.underlying4 _), (trodAll_cons_mk (shut_int Try.underlying2 w0) (trodAll_cons_mk (shut_int Try.underlying2 w1) trodAll_mk0)), rfl, bel.frame _, fun h => by cases h⟩

theorem over : Rows.calcDividesRow.holds Try.pinned (OpenSpec.ofChange Rows.calcDividesSpec) :=
  OpenClaim.holds_of_wide 4 Try.f4 rfl rfl rfl rfl rfl rfl rfl ⟨rfl, rfl, rfl, rfl, rfl⟩ rfl rfl rfl rfl rfl (by kernel_rfl) Try.func4 (by kernel_rfl)
    (of_decide_eq_true (by kernel_rfl)) (by unfold Func.isWrapper; first | (rw [if_pos (by decide +kernel)]; kernel_rfl) | (rw [if_neg (by decide +kernel)]; exact ⟨rfl, rfl⟩))
    (fun os started H enc _ => lifted os started H enc)

theorem proved : Rows.CalcDividesSaid := over
end Go.Proofs.Ytabdmhlnaahdlaa.CalcDivides

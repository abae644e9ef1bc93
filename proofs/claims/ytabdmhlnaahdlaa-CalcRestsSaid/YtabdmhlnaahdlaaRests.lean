/- CalcRests: whatever two numbers: a quotient times what it was by, and what is left, is the number; what is left is nearer to nought than that, and on its side. No condition. -/
import Derived.Test.YtabdmhlnaahdlaaRows
import Derived.Test.YtabdmhlnaahdlaaCalcB
import Derived.OpenShut
import Derived.ChangeOld
namespace Go.Proofs.Ytabdmhlnaahdlaa.CalcRests
open Go.ChangeShapes Go.WideShapes Go.ChangeAt Go.RowKit
set_option linter.unusedVariables false

theorem rest_sign (a b : Int) (hb : b ≠ 0) : (a.fmod b = 0 ∨ (a.fmod b < 0 ↔ b < 0)) ∧ ((0 < b ∧ a.fmod b < b) ∨ (b < 0 ∧ b < a.fmod b)) := by
  have h1 := Ar.tm_bd a b hb
  by_cases ht : a.tmod b = 0
  · rw [(Ar.fq_even a b ht).2, ht]; omega
  · have hs := Ar.tm_sign a b ht
    by_cases h : (a < 0 ↔ b < 0)
    · rw [(Ar.fq_same a b ht hb h).2]; omega
    · rw [(Ar.fq_diff a b ht hb h).2]; omega

set_option maxHeartbeats 1000000 in
theorem walk (a b : Int) (w : World) (ha : -9223372036854775808 ≤ a) (ha' : a ≤ 9223372036854775807) (hb : -9223372036854775808 ≤ b) (hb' : b ≤ 9223372036854775807) :
    Calls Try.prog 7 #[.int .i64 a, .int .i64 b] w fun e w' => e = .returned (.bool true) ∧ Below w.heap.size w w' := by
  have D := fun W => div_any a b W ha ha' hb hb'
  have M := fun W => mod_any a b W ha ha' hb hb'
  by_cases hbad : b = 0 ∨ (a = -9223372036854775808 ∧ b = -1)
  · have he : (Ar.divE a b != 0) = true := by
      unfold Ar.divE; rcases hbad with h | h
      · simp [h]
      · simp [h.1, h.2]
    have D' := Lib.hid D
    have M' := Lib.hid M
    clear D M hbad
    generalize Ar.divE a b = ee at *
    generalize Ar.divV a b = ev at *
    generalize Ar.modE b = fe at *
    generalize Ar.modV a b = fv at *
    go_enter Try.func7, Try.ntmps7
    go_wp2_with (first | (go_at_call 19; refine (D'.out _).mono ?_; rintro e w1 ⟨rfl, rfl⟩) | (go_at_call 20; refine (M'.out _).mono ?_; rintro e w1 ⟨rfl, rfl⟩) | (go_at_call 8; refine (awake_any _).mono ?_; rintro e w1 ⟨rfl, hb1⟩))
    go_ret
    exact ⟨rfl, hb1⟩
  have hb0 : b ≠ 0 := fun h => hbad (.inl h)
  have hab : ¬ (a = -9223372036854775808 ∧ b = -1) := fun h => hbad (.inr h)
  have e1 : Ar.divE a b = 0 := by unfold Ar.divE; rw [if_neg hb0, if_neg hab]
  have e2 : Ar.divV a b = a.fdiv b := by unfold Ar.divV; rw [if_neg hb0, if_neg hab]
  have e3 : Ar.modE b = 0 := by unfold Ar.modE; rw [if_neg hb0]
  have e4 : Ar.modV a b = a.fmod b := by unfold Ar.modV; rw [if_neg hb0]
  simp only [e1, e2] at D
  simp only [e3, e4] at M
  obtain ⟨g1, g2⟩ := rest_sign a b hb0
  have hab2 := Int.mul_fdiv_add_fmod a b
  have hq := Ar.tq_all a b ha ha' hab hb0
  have hm := Ar.tm_bd a b hb0
  have hqr : (-9223372036854775808 ≤ a.fdiv b ∧ a.fdiv b ≤ 9223372036854775807) ∧ (-9223372036854775808 ≤ a.fmod b ∧ a.fmod b ≤ 9223372036854775807) := by
    by_cases ht : a.tmod b = 0
    · rw [(Ar.fq_even a b ht).1, (Ar.fq_even a b ht).2]; omega
    · have h2 := Ar.tq_two a b ht hb0
      by_cases h : (a < 0 ↔ b < 0)
      · rw [(Ar.fq_same a b ht hb0 h).1, (Ar.fq_same a b ht hb0 h).2]; omega
      · have hs := Ar.tm_sign a b ht
        rw [(Ar.fq_diff a b ht hb0 h).1, (Ar.fq_diff a b ht hb0 h).2]; omega
  clear e1 e2 e3 e4 hq hm hbad hab
  generalize a.fdiv b = q at *
  generalize a.fmod b = r at *
  have hi1 := Ints.two (k := .i64) (a := q) (b := b) (Blk.new w 2 #[.int .i64 q, .int .i64 b])
  have MU := mul_any (some ⟨w.heap.size, 0, none⟩) 2 2 [q, b] _ hi1 rfl (fun x hx => by simp at hx; rcases hx with rfl | rfl <;> omega) (by omega)
  have hi2 := Ints.two (k := .i64) (a := q * b) (b := r) (Blk.new (w.alloc (.cells #[.int .i64 q, .int .i64 b] 2)) 2 #[.int .i64 (q * b), .int .i64 r])
  rw [show (w.alloc (.cells #[.int .i64 q, .int .i64 b] 2)).heap.size = w.heap.size + 1 from by simp] at hi2
  have hp : Ar.prod [q, b] = q * b := by simp [Ar.prod]
  rw [hp] at MU
  have D' := Lib.hid D
  have M' := Lib.hid M
  have G1 := Lib.hid g1
  have G2 := Lib.hid g2
  by_cases hin : -9223372036854775808 ≤ q * b ∧ q * b ≤ 9223372036854775807
  · have AD := add_any (some ⟨w.heap.size + 1, 0, none⟩) 2 2 [q * b, r] _ hi2 rfl (fun x hx => by simp at hx; rcases hx with rfl | rfl <;> omega) (by omega)
    have hs : [q * b, r].sum = a := by simp; rw [Int.mul_comm]; omega
    have v1 : narV (q * b) = q * b := by unfold narV; rw [if_pos hin]
    have v2 : narE (q * b) = 0 := by unfold narE; rw [if_pos hin]
    have v3 : narV a = a := by unfold narV; rw [if_pos ⟨ha, ha'⟩]
    have v4 : narE a = 0 := by unfold narE; rw [if_pos ⟨ha, ha'⟩]
    rw [hs, v3, v4] at AD
    rw [v1, v2] at MU
    have AD' := Lib.hid AD
    have MU' := Lib.hid MU
    clear AD MU D M hs v1 v2 v3 v4 hp hi1 hi2 g1 g2 hab2 hin
    generalize q * b = p at *
    go_enter Try.func7, Try.ntmps7
    go_wp2_with (first | (go_at_call 19; refine (D'.out _).mono ?_; rintro e w1 ⟨rfl, rfl⟩) | (go_at_call 20; refine (M'.out _).mono ?_; rintro e w1 ⟨rfl, rfl⟩) | (go_at_call 10; refine MU'.out.mono ?_; rintro e w1 ⟨rfl, rfl⟩) | (go_at_call 9; refine AD'.out.mono ?_; rintro e w1 ⟨rfl, hb1⟩) | (go_at_call 8; refine (awake_any _).mono ?_; rintro e w2 ⟨rfl, hb2⟩))
    all_goals (try (go_ret; exact ⟨rfl, (((Below.refl _ _).alloc (Nat.le_refl _) _).alloc (by simp) _).trans ((hb1.trans (hb2.mono hb1.size)).mono (by simp; omega))⟩))
    all_goals (exfalso; have k1 := G1.out; have k2 := G2.out; omega)
  · have v2 : (narE (q * b) != 0) = true := by unfold narE; rw [if_neg hin]; rfl
    have v3 : (narE (q * b) == 0) = false := by unfold narE; rw [if_neg hin]; rfl
    have MU' := Lib.hid MU
    clear MU D M hp hi1 hi2 g1 g2 hab2 hin
    generalize narE (q * b) = pe at *
    generalize narV (q * b) = p at *
    go_enter Try.func7, Try.ntmps7
    go_wp2_with (first | (go_at_call 19; refine (D'.out _).mono ?_; rintro e w1 ⟨rfl, rfl⟩) | (go_at_call 20; refine (M'.out _).mono ?_; rintro e w1 ⟨rfl, rfl⟩) | (go_at_call 10; refine MU'.out.mono ?_; rintro e w1 ⟨rfl, rfl⟩) | (go_at_call 8; refine (awake_any _).mono ?_; rintro e w2 ⟨rfl, hb2⟩))
    all_goals (try (go_ret; exact ⟨rfl, ((Below.refl _ _).alloc (Nat.le_refl _) _).trans (hb2.mono (by simp))⟩))
    all_goals (exfalso; have k1 := G1.out; have k2 := G2.out; omega)

theorem own : ownKnob Try.prog.godebug = none := by kernel_rfl
theorem laidOut : laidOutB Try.prog = true := by kernel_rfl
theorem int_bd {a : Int} (h : (Lit.int .i64 a).wf = true) : -9223372036854775808 ≤ a ∧ a ≤ 9223372036854775807 := bounds_i64 h
set_option maxRecDepth 100000 in
theorem lifted (os : Os) (started : os.Started) (H : Type) (enc : TypeId × Value → H) :
    ReturnsInHanded {} Try.checked os 7 .any (Rows.calcRestsSpec.pre6 enc Try.prog Try.f7 Rows.calcRestsRow.domain false) (Rows.calcRestsSpec.post enc Try.prog Try.f7 false true false false) := by
  refine returnsInHanded_of_change (C := Try.checked) own started (by kernel_rfl) Try.func7
    (ChangeSpec.witness6 (enc := enc) (C := Try.checked) false ⟨#[], #[.int .i64 0, .int .i64 0], []⟩ 8 (by kernel_rfl) (by kernel_rfl) (by kernel_rfl) (by kernel_rfl)) ?_
  intro W base args ds gs before hval0 hW hcnd _
  have hval : ∀ (j : Nat) t v, Try.f7.params[j]? = some t → args[j]? = some v → Value.okWide Try.prog W .any base t v := hval0
  have hW' := hW
  obtain ⟨p, q, hA0, hV, rfl, hfz, hnd⟩ := hW
  have hA : DataW.TrodAll enc Try.prog W 0 (fun _ => true) true Try.f7.params.toList args.toList ds p := hA0
  rw [Try.params7] at hA hval
  obtain ⟨v0, vs0, d0, ds0, p0, q0, hargs, rfl, rfl, h0, r0⟩ := trodAll_cons hA
  obtain ⟨v1, vs1, d1, ds1, p1, q1, rfl, rfl, rfl, h1, r1⟩ := trodAll_cons r0
  obtain ⟨rfl, rfl, rfl⟩ := trodAll_nil r1
  obtain rfl : args = #[v0, v1] := by cases args; simp_all
  obtain ⟨rfl, rfl⟩ := trodVars_none hV
  obtain ⟨a0, rfl, rfl, rfl, w0⟩ := open_int Try.underlying2 (hval 0 2 v0 rfl rfl) h0
  obtain ⟨a1, rfl, rfl, rfl, w1⟩ := open_int Try.underlying2 (hval 1 2 v1 rfl rfl) h1
  clear hA0 hval0
  refine (walk a0 a1 W (int_bd w0).1 (int_bd w0).2 (int_bd w1).1 (int_bd w1).2).mono fun e W' ⟨he, bel⟩ => ?_
  subst he
  exact ⟨_, rfl, _, _, _, [], _, [], hW', trodAll_mk1 (shut_bool Try.underlying4 _), (trodAll_cons_mk (shut_int Try.underlying2 w0) (trodAll_cons_mk (shut_int Try.underlying2 w1) trodAll_mk0)), rfl, bel.frame _, fun h => by cases h⟩

theorem over : Rows.calcRestsRow.holds Try.pinned (OpenSpec.ofChange Rows.calcRestsSpec) :=
  OpenClaim.holds_of_wide 7 Try.f7 rfl rfl rfl rfl rfl rfl rfl ⟨rfl, rfl, rfl, rfl, rfl⟩ rfl rfl rfl rfl rfl (by kernel_rfl) Try.func7 (by kernel_rfl)
    (of_decide_eq_true (by kernel_rfl)) (by unfold Func.isWrapper; first | (rw [if_pos (by decide +kernel)]; kernel_rfl) | (rw [if_neg (by decide +kernel)]; exact ⟨rfl, rfl⟩))
    (fun os started H enc _ => lifted os started H enc)

theorem proved : Rows.CalcRestsSaid := over
end Go.Proofs.Ytabdmhlnaahdlaa.CalcRests

/- CalcSums: whatever numbers: their sum, product and difference, and a number's opposite, are what the reference's digits come to, or that it is beyond. No condition. -/
import Derived.Test.YtabdmhlnaahdlaaRows
import Derived.Test.YtabdmhlnaahdlaaRefF
import Derived.OpenShut
import Derived.ChangeOld
namespace Go.Proofs.Ytabdmhlnaahdlaa.CalcSums
open Go.ChangeShapes Go.WideShapes Go.ChangeAt Go.RowKit
set_option linter.unusedVariables false

set_option maxHeartbeats 2000000 in
theorem walk (a : Int) (A : Option Addr) (n c : Nat) (xs : List Int) (w : World) (ha : -9223372036854775808 ≤ a) (ha' : a ≤ 9223372036854775807) (hA : Ints w .i64 A xs) (hn : xs.length = n) (hm : n ≤ 9223372036854775807) (hf : Fit64 xs) :
    Calls Try.prog 3 #[.int .i64 a, .slice A n c] w fun e w' => e = .returned (.bool true) ∧ Below w.heap.size w w' := by
  by_cases hbig : 40 < n
  · clear hn
    go_enter Try.func3, Try.ntmps3
    go_wp2_with (go_at_call 8; refine (awake_any _).mono ?_; rintro e w1 ⟨rfl, hb1⟩)
    go_ret
    exact ⟨rfl, hb1⟩
  have HA := Lib.hid hA
  have HN := Lib.hid hn
  have h0 : Below w.heap.size w w := Below.refl _ _
  clear hA hn
  go_enter Try.func3, Try.ntmps3
  go_wp2_with fail
  refine (add_any A n c xs _ (HA.out.keep h0) HN.out hf (by omega)).mono ?_
  rintro e w1 ⟨rfl, b1⟩
  have h1 := h0.trans (b1.mono h0.size)
  go_wp2_with fail
  refine (mul_any A n c xs _ (HA.out.keep h1) HN.out hf (by omega)).mono ?_
  rintro e w2 ⟨rfl, rfl⟩
  go_wp2_with fail
  refine (sub_any a A n c xs _ ha ha' (HA.out.keep h1) HN.out hf (by omega)).mono ?_
  rintro e w2 ⟨rfl, b2⟩
  have h2 := h1.trans (b2.mono h1.size)
  go_wp2_with fail
  refine (neg_any a _ ha ha').mono ?_
  rintro e w3 ⟨rfl, b3⟩
  have h3 := h2.trans (b3.mono h2.size)
  go_wp2_with fail
  refine (refsum_any A n c false xs _ (HA.out.keep h3) HN.out hf (by omega)).mono ?_
  rintro e w4 ⟨v4, rfl, n4, b4⟩
  have h4 := h3.trans (b4.mono h3.size)
  go_wp2_with fail
  refine (told_true v4 _ _ _ _ n4 (by omega) _ _ (by rfl) (by rfl)).mono ?_
  rintro e w5 ⟨rfl, b5⟩
  have h5 := h4.trans (b5.mono h4.size)
  go_wp2_with fail
  refine (product_any A n c xs _ (HA.out.keep h5) HN.out hf (by omega)).mono ?_
  rintro e w6 ⟨v6, rfl, n6, b6⟩
  have h6 := h5.trans (b6.mono h5.size)
  go_wp2_with fail
  refine (told_true v6 _ _ _ _ n6 (by omega) _ _ (by rfl) (by rfl)).mono ?_
  rintro e w7 ⟨rfl, b7⟩
  have h7 := h6.trans (b7.mono h6.size)
  go_wp2_with fail
  refine (of_any a _ ha ha').mono ?_
  rintro e w8 ⟨v8, rfl, n8, b8⟩
  have h8 := h7.trans (b8.mono h7.size)
  go_wp2_with fail
  refine (refsum_any A n c true xs _ (HA.out.keep h8) HN.out hf (by omega)).mono ?_
  rintro e w9 ⟨v9, rfl, n9, b9⟩
  have h9 := h8.trans (b9.mono h8.size)
  go_wp2_with fail
  refine (plus_num v8 v9 _ _ _ _ _ _ _ (n8.keep b9) n9 (by omega) (by omega)).mono ?_
  rintro e w10 ⟨v10, rfl, n10, b10⟩
  have h10 := h9.trans (b10.mono h9.size)
  go_wp2_with fail
  refine (told_true v10 _ _ _ _ n10 (by omega) _ _ (by rw [show a - xs.sum = a + sgn true xs.sum from by simp [sgn]; omega]) (by rw [show a - xs.sum = a + sgn true xs.sum from by simp [sgn]; omega])).mono ?_
  rintro e w11 ⟨rfl, b11⟩
  have h11 := h10.trans (b11.mono h10.size)
  go_wp2_with fail
  refine (of_any a _ ha ha').mono ?_
  rintro e w12 ⟨v12, rfl, n12, b12⟩
  have h12 := h11.trans (b12.mono h11.size)
  go_wp2_with fail
  refine (minus_num v12 _ _ _ _ n12 (by omega)).mono ?_
  rintro e w13 ⟨v13, rfl, n13, b13⟩
  have h13 := h12.trans (b13.mono h12.size)
  go_wp2_with fail
  refine (told_true v13 _ _ _ _ n13 (by omega) _ _ (by rfl) (by rfl)).mono ?_
  rintro e w14 ⟨rfl, b14⟩
  have h14 := h13.trans (b14.mono h13.size)
  go_wp2_with fail
  refine (awake_any _).mono ?_
  rintro e w15 ⟨rfl, b15⟩
  have h15 := h14.trans (b15.mono h14.size)
  go_wp2_with fail
  go_ret
  exact ⟨rfl, h15⟩

theorem own : ownKnob Try.prog.godebug = none := by kernel_rfl
theorem laidOut : laidOutB Try.prog = true := by kernel_rfl
set_option maxRecDepth 100000 in
theorem lifted (os : Os) (started : os.Started) (H : Type) (enc : TypeId × Value → H) :
    ReturnsInHanded {} Try.checked os 3 .any (Rows.calcSumsSpec.pre6 enc Try.prog Try.f3 Rows.calcSumsRow.domain false) (Rows.calcSumsSpec.post enc Try.prog Try.f3 false true false false) := by
  refine returnsInHanded_of_change (C := Try.checked) own started (by kernel_rfl) Try.func3
    (ChangeSpec.witness6 (enc := enc) (C := Try.checked) false ⟨#[], #[.int .i64 0, .slice none 0 0], []⟩ 8 (by kernel_rfl) (by kernel_rfl) (by kernel_rfl) (by kernel_rfl)) ?_
  intro W base args ds gs before hval0 hW hcnd _
  have hval : ∀ (j : Nat) t v, Try.f3.params[j]? = some t → args[j]? = some v → Value.okWide Try.prog W .any base t v := hval0
  have hW' := hW
  obtain ⟨p, q, hA0, hV, rfl, hfz, hnd⟩ := hW
  have hA : DataW.TrodAll enc Try.prog W 0 (fun _ => true) true Try.f3.params.toList args.toList ds p := hA0
  rw [Try.params3] at hA hval
  obtain ⟨v0, vs0, d0, ds0, p0, q0, hargs, rfl, rfl, h0, r0⟩ := trodAll_cons hA
  obtain ⟨v1, vs1, d1, ds1, p1, q1, rfl, rfl, rfl, h1, r1⟩ := trodAll_cons r0
  obtain ⟨rfl, rfl, rfl⟩ := trodAll_nil r1
  obtain rfl : args = #[v0, v1] := by cases args; simp_all
  obtain ⟨rfl, rfl⟩ := trodVars_none hV
  obtain ⟨x0, rfl, rfl, rfl, w0⟩ := open_int Try.underlying2 (hval 0 2 v0 rfl rfl) h0
  obtain ⟨a1, len1, cap1, rfl⟩ := okWide_slice Try.underlying22 (hval 1 22 v1 rfl rfl)
  have k1 := h1
  have lt1 : ∀ x ∈ p1, x.block < W.heap.size := by obtain ⟨m, hm⟩ := k1; exact DataW.trod_lt m _ _ _ hm
  obtain ⟨xs, w1, hl1, hm1, hf1⟩ : ∃ xs, Ints W .i64 a1 xs ∧ xs.length = len1 ∧ len1 ≤ 9223372036854775807 ∧ Fit64 xs := by
    obtain ⟨fuel, hf⟩ := h1
    rcases open_ints Try.underlying22 Try.underlying2 (by kernel_rfl) hf with ⟨hcs, _⟩ | ⟨x, l, c, zs, hcs, _, hl, hm, hz, _, hcell, hwz⟩
    · simp [Value.cells] at hcs
      obtain ⟨rfl, rfl, rfl⟩ := hcs
      exact ⟨[], .inl rfl, rfl, by omega, fun x hx => by simp at hx⟩
    · simp [Value.cells] at hcs
      obtain ⟨rfl, rfl, rfl⟩ := hcs
      obtain ⟨i1, i2⟩ := ints_of_open hl (by simpa using hz) hcell
      exact ⟨_, i1, i2, by unfold maxLen at hm; omega, fit_take (fun q hq => bounds_i64 (hwz q hq)) _⟩
  clear hA0 hval0
  refine (walk x0 a1 len1 cap1 xs W (bounds_i64 w0).1 (bounds_i64 w0).2 w1 hl1 hm1 hf1).mono fun e W' ⟨he, bel⟩ => ?_
  subst he
  exact ⟨_, rfl, _, _, _, [], _, [], hW', trodAll_mk1 (shut_bool Try.underlying4 _), (trodAll_cons_mk (shut_int Try.underlying2 w0) (trodAll_cons_mk (Below.trod laidOut (by kernel_rfl) (of_decide_eq_true (by kernel_rfl)) k1 bel lt1) trodAll_mk0)), rfl, bel.frame _, fun h => by cases h⟩

theorem over : Rows.calcSumsRow.holds Try.pinned (OpenSpec.ofChange Rows.calcSumsSpec) :=
  OpenClaim.holds_of_wide 3 Try.f3 rfl rfl rfl rfl rfl rfl rfl ⟨rfl, rfl, rfl, rfl, rfl⟩ rfl rfl rfl rfl rfl (by kernel_rfl) Try.func3 (by kernel_rfl)
    (of_decide_eq_true (by kernel_rfl)) (by unfold Func.isWrapper; first | (rw [if_pos (by decide +kernel)]; kernel_rfl) | (rw [if_neg (by decide +kernel)]; exact ⟨rfl, rfl⟩))
    (fun os started H enc _ => lifted os started H enc)

theorem proved : Rows.CalcSumsSaid := over
end Go.Proofs.Ytabdmhlnaahdlaa.CalcSums

/- CodecNone: whatever is asked: a reader that there isn't answers nothing, as the document says. No condition. -/
import Derived.Test.YtelfppjgdhelbaaRows
import Derived.Test.YtelfppjgdhelbaaAsk
namespace Go.Proofs.Ytelfppjgdhelbaa.CodecNone
open Go.ChangeShapes Go.WideShapes Go.ChangeAt Go.RowKit Go.Deep
set_option linter.unusedVariables false
set_option maxRecDepth 100000 in
set_option maxHeartbeats 4000000 in
theorem walk (x : Ask) (w : World) (hx : FitA x) :
    Calls Try.prog 6/-f-/ #[.agg #[.int .i64 x.k, .int .i64 x.n, .int .i64 x.m]] w fun e w' => e = .returned (.bool true) ∧ Below w.heap.size w w' := by
  obtain ⟨xk, xn, xm⟩ := x
  obtain ⟨f1, f2, f3⟩ := hx
  simp only at f1 f2 f3
  have HB0 := Lib.hid (((Below.refl w.heap.size w).alloc (Nat.le_refl _) (.cells #[.int .i64 xk, .int .i64 xn, .int .i64 xm] 61)).alloc (by simp) (.cells #[.string ⟨#[]⟩, .bool true] 58))
  have HP := Lib.hid (show Pt ((w.alloc (.cells #[.int .i64 xk, .int .i64 xn, .int .i64 xm] 61)).alloc (.cells #[.string ⟨#[]⟩, .bool true] 58)) (w.heap.size + 1) none from ⟨⟨#[]⟩, by have := Blk.new (w.alloc (.cells #[.int .i64 xk, .int .i64 xn, .int .i64 xm] 61)) 58 #[.string ⟨#[]⟩, .bool true]; simpa using this, by decide, fun l h => by cases h⟩)
  have C := Lib.hid (same_sw none (w.heap.size + 1) none xk xn xm _ (.inl ⟨rfl, rfl⟩) HP.out (by intro h; cases h) (by simp) f1 f2 f3)
  clear f1 f2 f3
  go_enter Try.func6, Try.ntmps6
  go_wp2_with (first
    | (go_at_call 27/-f-/; (with_reducible refine C.out.mono ?_); rintro e w2 ⟨rfl, ha⟩; have HA := Lib.hid ha; clear ha)
    | (go_at_call 9/-f-/; (with_reducible refine (awake_any _).mono ?_); rintro e w9 ⟨rfl, hb⟩; have HB9 := Lib.hid hb; clear hb))
  go_ret
  obtain ⟨st, _, _, _, ho⟩ := HA.out
  have h3 : Below w.heap.size _ w2 := ho.below (B := w.heap.size) (fun k hk h => by
    rcases h with h | h
    · cases h
    · omega) (by simp only [World.size_alloc]; omega)
  have h2 := HB0.out.trans h3
  exact ⟨rfl, h2.trans (HB9.out.mono h2.size)⟩
theorem own : ownKnob Try.prog.godebug = none := by kernel_rfl
theorem laidOut : laidOutB Try.prog = true := by kernel_rfl
set_option maxRecDepth 100000 in
theorem lifted (os : Os) (started : os.Started) (H : Type) (enc : TypeId × Value → H) :
    ReturnsInHanded {} Try.checked os 6 .any (Rows.codecNoneSpec.pre6 enc Try.prog Try.f6 Rows.codecNoneRow.domain false) (Rows.codecNoneSpec.post enc Try.prog Try.f6 false true false false) := by
  refine returnsInHanded_of_change (C := Try.checked) own started (by kernel_rfl) Try.func6
    (ChangeSpec.witness6 (enc := enc) (C := Try.checked) false ⟨#[], #[.agg #[.int .i64 0, .int .i64 0, .int .i64 0]], []⟩ 8 (by kernel_rfl) (by kernel_rfl) (by kernel_rfl) (by kernel_rfl)) ?_
  intro W base args ds gs before hval0 hW hcnd _
  have hval : ∀ (j : Nat) t v, Try.f6.params[j]? = some t → args[j]? = some v → Value.okWide Try.prog W .any base t v := hval0
  have hW' := hW
  obtain ⟨p, q, hA0, hV, rfl, hfz, hnd⟩ := hW
  have hA : DataW.TrodAll enc Try.prog W 0 (fun _ => true) true Try.f6.params.toList args.toList ds p := hA0
  rw [Try.params6] at hA hval
  obtain ⟨v0, vs0, d0, ds0, p0, q0, hargs, rfl, rfl, h0, r0⟩ := trodAll_cons hA
  obtain ⟨rfl, rfl, rfl⟩ := trodAll_nil r0
  obtain rfl : args = #[v0] := by cases args; simp_all
  obtain ⟨rfl, rfl⟩ := trodVars_none hV
  have k0 := h0
  have lt0 : ∀ x ∈ p0, x.block < W.heap.size := by obtain ⟨m, hm⟩ := k0; exact DataW.trod_lt m _ _ _ hm
  obtain ⟨x0, rfl, f0⟩ := open_ask (hval 0 61 v0 rfl rfl) h0
  clear hA0 hval0
  refine (walk x0 W f0).mono fun e W' ⟨he, bel⟩ => ?_
  subst he
  exact ⟨_, rfl, _, _, _, [], _, [], hW', trodAll_mk1 (shut_bool Try.underlying4 _), (trodAll_cons_mk (Below.trod laidOut (by kernel_rfl) (of_decide_eq_true (by kernel_rfl)) k0 bel lt0) trodAll_mk0), rfl, bel.frame _, fun h => by cases h⟩

theorem over : Rows.codecNoneRow.holds Try.pinned (OpenSpec.ofChange Rows.codecNoneSpec) :=
  OpenClaim.holds_of_wide 6 Try.f6 rfl rfl rfl rfl rfl rfl rfl ⟨rfl, rfl, rfl, rfl, rfl⟩ rfl rfl rfl rfl rfl (by kernel_rfl) Try.func6 (by kernel_rfl)
    (of_decide_eq_true (by kernel_rfl)) (by unfold Func.isWrapper; first | (rw [if_pos (by decide +kernel)]; kernel_rfl) | (rw [if_neg (by decide +kernel)]; exact ⟨rfl, rfl⟩))
    (fun os started H enc _ => lifted os started H enc)

theorem proved : Rows.CodecNoneSaid := over

end Go.Proofs.Ytelfppjgdhelbaa.CodecNone

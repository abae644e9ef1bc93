/- DiskNone: of no disk, and no power, nothing comes. -/
import Derived.Test.YtlhfamdandpkgaaRows
import Derived.Test.YtlhfamdandpkgaaDsp
namespace Go.Proofs.Ytlhfamdandpkgaa.DiskNone
open Go.ChangeShapes Go.WideShapes Go.ChangeAt Go.RowKit Go.Maps
set_option maxRecDepth 100000 in
theorem on_same  (w : World) : Calls Try.prog 29/-f-/ #[.pointer none] w fun e w' => e = .returned (.bool false) ∧ w' = w := by
  go_enter Try.func29, Try.ntmps29
  go_wp2
  go_ret
  exact ⟨rfl, rfl⟩
set_option maxRecDepth 100000 in
theorem uses_same  (w : World) : Calls Try.prog 30/-f-/ #[.pointer none] w fun e w' => e = .returned (.int .i64 0) ∧ w' = w := by
  go_enter Try.func30, Try.ntmps30
  go_wp2
  go_ret
  exact ⟨rfl, rfl⟩
set_option maxRecDepth 100000 in
theorem used_same  (w : World) : Calls Try.prog 26/-f-/ #[.pointer none] w fun e w' => e = .returned (.int .i64 0) ∧ w' = w := by
  go_enter Try.func26, Try.ntmps26
  go_wp2
  go_ret
  exact ⟨rfl, rfl⟩
set_option maxRecDepth 100000 in
theorem free_same  (w : World) : Calls Try.prog 31/-f-/ #[.pointer none] w fun e w' => e = .returned (.int .i64 0) ∧ w' = w := by
  go_enter Try.func31, Try.ntmps31
  go_wp2
  go_ret
  exact ⟨rfl, rfl⟩
set_option maxRecDepth 100000 in
theorem kept_same (s : ByteArray) (w : World) : Calls Try.prog 32/-f-/ #[.pointer none, .string s] w fun e w' => e = .returned (.int .i64 0) ∧ w' = w := by
  go_enter Try.func32, Try.ntmps32
  go_wp2
  go_ret
  exact ⟨rfl, rfl⟩
set_option maxRecDepth 100000 in
theorem names_same (A : Option Addr) (n c : Nat) (w : World) : Calls Try.prog 21/-f-/ #[.pointer none, .slice A n c] w fun e w' => e = .returned (.slice none 0 0) ∧ w' = w := by
  go_enter Try.func21, Try.ntmps21
  go_wp2
  go_ret
  exact ⟨rfl, rfl⟩
set_option maxRecDepth 100000 in
theorem parm_same (n : Int) (w : World) : Calls Try.prog 28/-f-/ #[.pointer none, .int .i64 n] w fun e w' => e = .returned (.tuple #[]) ∧ w' = w := by
  go_enter Try.func28, Try.ntmps28
  go_wp2
  first | go_end0 | ((try simp only [Exit.inBlock, Exit.then]); refine bodyPost_ret (results_none rfl _ _ _) rfl ?_)
  exact ⟨rfl, rfl⟩
set_option maxRecDepth 100000 in
theorem pon_same  (w : World) : Calls Try.prog 33/-f-/ #[.pointer none] w fun e w' => e = .returned (.bool false) ∧ w' = w := by
  go_enter Try.func33, Try.ntmps33
  go_wp2
  go_ret
  exact ⟨rfl, rfl⟩
set_option maxRecDepth 100000 in
theorem puses_same  (w : World) : Calls Try.prog 34/-f-/ #[.pointer none] w fun e w' => e = .returned (.int .i64 0) ∧ w' = w := by
  go_enter Try.func34, Try.ntmps34
  go_wp2
  go_ret
  exact ⟨rfl, rfl⟩
set_option maxRecDepth 100000 in
set_option maxHeartbeats 16000000 in
theorem walk (k N : Int) (nm tn : ByteArray) (A B : Option Addr) (c m e : Nat) (ss : List ByteArray) (w : World) (hA : Strs w A ss) (h9 : ss.length ≤ 9223372036854775807) :
    Calls Try.prog 7/-f-/ #[.agg #[.int .i64 k, .string nm, .string tn, .slice A ss.length c, .int .i64 N, .slice B m e]] w fun e w' => e = .returned (.bool true) ∧ Below w.heap.size w w' := by
  obtain ⟨W1, hW1⟩ : ∃ W, W = w.alloc (.cells #[.int .i64 k, .string nm, .string tn, .slice A ss.length c, .int .i64 N, .slice B m e] 34) := ⟨_, rfl⟩
  have hb1 : Below w.heap.size w W1 := by rw [hW1]; exact below_al w _
  have hk1 : Blk W1 w.heap.size 34 #[.int .i64 k, .string nm, .string tn, .slice A ss.length c, .int .i64 N, .slice B m e] := by rw [hW1]; exact Blk.new _ _ _
  obtain ⟨W2, hW2⟩ : ∃ W, W = W1.alloc (.cells #[.int .i64 k, .string nm, .string tn, .slice A ss.length c, .int .i64 N, .slice B m e] 34) := ⟨_, rfl⟩
  have hb2 : Below W1.heap.size W1 W2 := by rw [hW2]; exact below_al W1 _
  have hk2 : Blk W2 W1.heap.size 34 #[.int .i64 k, .string nm, .string tn, .slice A ss.length c, .int .i64 N, .slice B m e] := by rw [hW2]; exact Blk.new _ _ _
  have hA2 := (hA.keep hb1).keep hb2
  have GR := Lib.hid (great_any W1.heap.size k N nm tn A B c m e ss W2 hk2 hA2 h9)
  have HB := Lib.hid (hb1.trans (hb2.mono hb1.size))
  have HK := Lib.hid (hk1.below hb2 hk1.lt)
  have HA := Lib.hid hA2
  have HW1 := Lib.hid hW1
  have HW2 := Lib.hid hW2
  obtain ⟨c0, c1, c2, c3, c4, c5, _, hlt⟩ := blk6 hk1
  obtain ⟨q, hq⟩ : ∃ q, q = greatA nm tn ss := ⟨_, rfl⟩
  rw [← hq] at GR
  have HQ := Lib.hid hq
  clear hW1 hb1 hk1 hW2 hb2 hk2 hA2 hA hq
  cases q with
  | true =>
    go_enter Try.func7, Try.ntmps7
    go_upto_region 1 with (fail)
    rw [← HW1.out]
    go_wp2_with (first
      | (go_at_call 8/-f-/; rw [← HW2.out]; (with_reducible refine GR.out.mono ?_); rintro e w1 ⟨rfl, rfl⟩)
      | (go_at_call 9/-f-/; (with_reducible refine (awake_any _).mono ?_); rintro e w9 ⟨rfl, hb9⟩; have HB9 := Lib.hid (HB.out.trans (hb9.mono HB.out.size)); clear hb9))
    go_ret
    exact ⟨rfl, HB9.out⟩
  | false =>
    have hgq := HQ.out.symm
    unfold greatA at hgq
    rw [Bool.or_eq_false_iff, Bool.or_eq_false_iff, Bool.or_eq_false_iff, decide_eq_false_iff_not, List.any_eq_false] at hgq
    have DO := Lib.hid (fun W hS => do_nil k N nm tn A B c m e ss W hS (by omega) (fun s hs => by have := hgq.2 s hs; simpa using this))
    clear hgq
    go_enter Try.func7, Try.ntmps7
    go_upto_region 1 with (fail)
    rw [← HW1.out]
    go_upto_region 5 with (go_at_call 8/-f-/; rw [← HW2.out]; (with_reducible refine GR.out.mono ?_); rintro e w1 ⟨rfl, rfl⟩)
    clear c0 c1 c2 c3 c4 c5 hlt
    obtain ⟨c0, c1, c2, c3, c4, c5, _, hlt⟩ := blk6 HK.out
    go_upto_region 6 with (go_at_call 11/-f-/; (with_reducible refine (DO.out _ HA.out).mono ?_); rintro e w3 ⟨rfl, hb3⟩; have HK3 := Lib.hid (HK.out.below hb3 HK.out.lt); have HB3 := Lib.hid (HB.out.trans (hb3.mono HB.out.size)); clear hb3)
    clear c0 c1 c2 c3 c4 c5 hlt
    obtain ⟨c0, c1, c2, c3, c4, c5, _, hlt⟩ := blk6 HK3.out
    by_cases k6 : k = 6
    · subst k6
      have HE : noneE 6 = 0 := rfl
      rw [HE]
      go_wp2_with (first
          | (go_at_call 29/-f-/; (with_reducible refine (on_same _).mono ?_); rintro e w1 ⟨rfl, rfl⟩) 
          | (go_at_call 30/-f-/; (with_reducible refine (uses_same _).mono ?_); rintro e w1 ⟨rfl, rfl⟩) 
          | (go_at_call 26/-f-/; (with_reducible refine (used_same _).mono ?_); rintro e w1 ⟨rfl, rfl⟩) 
          | (go_at_call 31/-f-/; (with_reducible refine (free_same _).mono ?_); rintro e w1 ⟨rfl, rfl⟩) 
          | (go_at_call 32/-f-/; (with_reducible refine (kept_same _ _).mono ?_); rintro e w1 ⟨rfl, rfl⟩) 
          | (go_at_call 21/-f-/; (with_reducible refine (names_same _ _ _ _).mono ?_); rintro e w1 ⟨rfl, rfl⟩) 
          | (go_at_call 28/-f-/; (with_reducible refine (parm_same _ _).mono ?_); rintro e w1 ⟨rfl, rfl⟩) 
          | (go_at_call 33/-f-/; (with_reducible refine (pon_same _).mono ?_); rintro e w1 ⟨rfl, rfl⟩) 
          | (go_at_call 34/-f-/; (with_reducible refine (puses_same _).mono ?_); rintro e w1 ⟨rfl, rfl⟩)
          | (go_at_call 9/-f-/; (with_reducible refine (awake_any _).mono ?_); rintro e w9 ⟨rfl, hb9⟩; have HB9 := Lib.hid (HB3.out.trans (hb9.mono HB3.out.size)); clear hb9))
      go_ret
      exact ⟨rfl, HB9.out⟩
    · by_cases k7 : k = 7
      · subst k7
        have HE : noneE 7 = 0 := rfl
        rw [HE]
        go_wp2_with (first
          | (go_at_call 29/-f-/; (with_reducible refine (on_same _).mono ?_); rintro e w1 ⟨rfl, rfl⟩) 
          | (go_at_call 30/-f-/; (with_reducible refine (uses_same _).mono ?_); rintro e w1 ⟨rfl, rfl⟩) 
          | (go_at_call 26/-f-/; (with_reducible refine (used_same _).mono ?_); rintro e w1 ⟨rfl, rfl⟩) 
          | (go_at_call 31/-f-/; (with_reducible refine (free_same _).mono ?_); rintro e w1 ⟨rfl, rfl⟩) 
          | (go_at_call 32/-f-/; (with_reducible refine (kept_same _ _).mono ?_); rintro e w1 ⟨rfl, rfl⟩) 
          | (go_at_call 21/-f-/; (with_reducible refine (names_same _ _ _ _).mono ?_); rintro e w1 ⟨rfl, rfl⟩) 
          | (go_at_call 28/-f-/; (with_reducible refine (parm_same _ _).mono ?_); rintro e w1 ⟨rfl, rfl⟩) 
          | (go_at_call 33/-f-/; (with_reducible refine (pon_same _).mono ?_); rintro e w1 ⟨rfl, rfl⟩) 
          | (go_at_call 34/-f-/; (with_reducible refine (puses_same _).mono ?_); rintro e w1 ⟨rfl, rfl⟩)
          | (go_at_call 9/-f-/; (with_reducible refine (awake_any _).mono ?_); rintro e w9 ⟨rfl, hb9⟩; have HB9 := Lib.hid (HB3.out.trans (hb9.mono HB3.out.size)); clear hb9))
        go_ret
        exact ⟨rfl, HB9.out⟩
      · have HE : noneE k = 1 := if_neg (by rintro (h | h); exact k6 h; exact k7 h)
        rw [HE]
        have q6 : (k == 6) = false := beq_eq_false_iff_ne.2 k6
        have q7 : (k == 7) = false := beq_eq_false_iff_ne.2 k7
        have p6 : (k != 6) = true := by simp [bne, q6]
        have p7 : (k != 7) = true := by simp [bne, q7]
        clear k6 k7
        go_wp2_with (first
          | (go_at_call 29/-f-/; (with_reducible refine (on_same _).mono ?_); rintro e w1 ⟨rfl, rfl⟩) 
          | (go_at_call 30/-f-/; (with_reducible refine (uses_same _).mono ?_); rintro e w1 ⟨rfl, rfl⟩) 
          | (go_at_call 26/-f-/; (with_reducible refine (used_same _).mono ?_); rintro e w1 ⟨rfl, rfl⟩) 
          | (go_at_call 31/-f-/; (with_reducible refine (free_same _).mono ?_); rintro e w1 ⟨rfl, rfl⟩) 
          | (go_at_call 32/-f-/; (with_reducible refine (kept_same _ _).mono ?_); rintro e w1 ⟨rfl, rfl⟩) 
          | (go_at_call 21/-f-/; (with_reducible refine (names_same _ _ _ _).mono ?_); rintro e w1 ⟨rfl, rfl⟩) 
          | (go_at_call 28/-f-/; (with_reducible refine (parm_same _ _).mono ?_); rintro e w1 ⟨rfl, rfl⟩) 
          | (go_at_call 33/-f-/; (with_reducible refine (pon_same _).mono ?_); rintro e w1 ⟨rfl, rfl⟩) 
          | (go_at_call 34/-f-/; (with_reducible refine (puses_same _).mono ?_); rintro e w1 ⟨rfl, rfl⟩)
          | (go_at_call 9/-f-/; (with_reducible refine (awake_any _).mono ?_); rintro e w9 ⟨rfl, hb9⟩; have HB9 := Lib.hid (HB3.out.trans (hb9.mono HB3.out.size)); clear hb9))
        go_ret
        exact ⟨rfl, HB9.out⟩
theorem own : ownKnob Try.prog.godebug = none := by kernel_rfl
theorem laidOut : laidOutB Try.prog = true := by kernel_rfl
set_option maxRecDepth 100000 in
set_option maxHeartbeats 4000000 in
theorem lifted (os : Os) (started : os.Started) (H : Type) (enc : TypeId × Value → H) :
    ReturnsInHanded {} Try.checked os 7 .any (Rows.diskNoneSpec.pre6 enc Try.prog Try.f7 Rows.diskNoneRow.domain false) (Rows.diskNoneSpec.post enc Try.prog Try.f7 false true false false) := by
  refine returnsInHanded_of_change (C := Try.checked) own started (by kernel_rfl) Try.func7
    (ChangeSpec.witness6 (enc := enc) (C := Try.checked) false ⟨#[], #[.agg #[.int .i64 0, .string ⟨#[]⟩, .string ⟨#[]⟩, .slice none 0 0, .int .i64 0, .slice none 0 0]], []⟩ 8 (by kernel_rfl) (by kernel_rfl) (by kernel_rfl) (by kernel_rfl)) ?_
  intro W base args ds gs before hval0 hW hcnd _
  have hval : ∀ (j : Nat) t v, Try.f7.params[j]? = some t → args[j]? = some v → Value.okWide Try.prog W .any base t v := hval0
  have hW' := hW
  obtain ⟨p, q, hA0, hV, rfl, hfz, hnd⟩ := hW
  have hA : DataW.TrodAll enc Try.prog W 0 (fun _ => true) true Try.f7.params.toList args.toList ds p := hA0
  rw [Try.params7] at hA hval
  obtain ⟨v0, vs0, d0, ds0, p0, q0, hargs, rfl, rfl, h0, r0⟩ := trodAll_cons hA
  obtain ⟨rfl, rfl, rfl⟩ := trodAll_nil r0
  obtain rfl : args = #[v0] := by cases args; simp_all
  obtain ⟨rfl, rfl⟩ := trodVars_none hV
  have k0 := h0
  have lt0 : ∀ x ∈ p0, x.block < W.heap.size := by obtain ⟨m, hm⟩ := k0; exact DataW.trod_lt m _ _ _ hm
  obtain ⟨kx, nx, tx, Ax, cx, sx, Nx, Bx, mx, ex, rfl, hSx, hlx, _⟩ := open_act (hval 0 34 v0 rfl rfl) h0
  clear hA0 hval0
  refine (walk kx Nx nx tx Ax Bx cx mx ex sx W hSx hlx).mono fun e W' ⟨he, bel⟩ => ?_
  subst he
  exact ⟨_, rfl, _, _, _, [], _, [], hW', trodAll_mk1 (shut_bool Try.underlying4 _), (trodAll_cons_mk (Below.trod laidOut (by kernel_rfl) (of_decide_eq_true (by kernel_rfl)) k0 bel lt0) trodAll_mk0), rfl, bel.frame _, fun h => by cases h⟩

theorem over : Rows.diskNoneRow.holds Try.pinned (OpenSpec.ofChange Rows.diskNoneSpec) :=
  OpenClaim.holds_of_wide 7 Try.f7 rfl rfl rfl rfl rfl rfl rfl ⟨rfl, rfl, rfl, rfl, rfl⟩ rfl rfl rfl rfl rfl (by kernel_rfl) Try.func7 (by kernel_rfl)
    (of_decide_eq_true (by kernel_rfl)) (by unfold Func.isWrapper; first | (rw [if_pos (by decide +kernel)]; kernel_rfl) | (rw [if_neg (by decide +kernel)]; exact ⟨rfl, rfl⟩))
    (fun os started H enc _ => lifted os started H enc)

theorem proved : Rows.DiskNoneSaid := over

end Go.Proofs.Ytlhfamdandpkgaa.DiskNone

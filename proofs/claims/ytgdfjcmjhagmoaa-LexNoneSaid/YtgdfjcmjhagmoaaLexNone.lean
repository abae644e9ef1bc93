/- LexNone: of no cursor nothing comes: its word is the end, no text is it, none is taken, no word of a kind comes, and none is left. -/
import Derived.Test.YtgdfjcmjhagmoaaRows
import Derived.Test.YtgdfjcmjhagmoaaLxv
namespace Go.Proofs.Ytgdfjcmjhagmoaa.LexNone
open Go.ChangeShapes Go.WideShapes Go.ChangeAt Go.RowKit Go.Deep
set_option maxRecDepth 100000 in
set_option maxHeartbeats 8000000 in
theorem walk (k : Int) (A : Option Addr) (n c : Nat) (ss : List ByteArray) (w : World) (hA : Txts w A ss) (hn : ss.length = n) (hs : n ≤ 9223372036854775807) :
    Calls Try.prog 7/-f-/ #[.int .i64 k, .slice A n c] w fun e w' => e = .returned (.bool true) ∧ Below w.heap.size w w' := by
  have K := Lib.hid (show ∀ W, Calls Try.prog 18/-f-/ #[.pointer none, .int .i64 k] W fun e w' => e = .returned (.tuple #[.agg #[.int .i64 0, .string ⟨#[]⟩, .int .i64 0, .int .i64 0], .bool false]) ∧ Below W.heap.size W w' from fun W => kind_nil W k)
  have WN := Lib.hid (show ∀ W, Calls Try.prog 15/-f-/ #[.pointer none] W fun e w' => e = .returned (.agg #[.int .i64 4, .string ⟨#[]⟩, .int .i64 0, .int .i64 0]) ∧ Below W.heap.size W w' from word_nil)
  have hany : ss.any (saysB ⟨4, ⟨#[]⟩, 0, 0⟩) = false := by
    rw [List.any_eq_false]
    intro x _
    rw [says_end]; decide
  have IS := Lib.hid (show ∀ W, Below w.heap.size w W → Calls Try.prog 16/-f-/ #[.pointer none, .slice A n c] W fun e w' => e = .returned (.bool false) ∧ Below W.heap.size W w' from fun W hb => by
    have h := is_of (.pointer none) ⟨4, ⟨#[]⟩, 0, 0⟩ A n c ss W (hA.keep hb) hn hs (word_nil W)
    rwa [hany] at h)
  have TK := Lib.hid (show ∀ W, Below w.heap.size w W → Calls Try.prog 17/-f-/ #[.pointer none, .slice A n c] W fun e w' => e = .returned (.bool false) ∧ Below W.heap.size W w' from fun W hb => take_nil A n c ss W (hA.keep hb) hn hs)
  have L := Lib.hid left_nil
  have AW := Lib.hid awake_any
  have E1 := fun W => run_eqW W 4 4 ⟨#[]⟩ ⟨#[]⟩ 0 0 0 0
  have E2 := fun W => run_eqW W 0 0 ⟨#[]⟩ ⟨#[]⟩ 0 0 0 0
  have BK := Lib.hid (fun (W : World) (hb : Below w.heap.size w W) (wr : World) (h : Below (w4 W).heap.size (w4 W) wr) => (show Blk wr W.heap.size 35 #[.int .i64 0, .string ⟨#[]⟩, .int .i64 0, .int .i64 0] ∧ Below w.heap.size w wr from ⟨Blk.below (w := w4 W) (Blk.new W 35 _) h (by rw [w4_size]; omega), (hb.alloc hb.size _).trans (h.mono (by rw [show ((w4 W).heap.size = W.heap.size + 1) from w4_size W]; have := hb.size; omega))⟩))
  clear hA hany
  go_enter Try.func7, Try.ntmps7
  go_upto_region 3 with (go_at_call 18/-f-/; (with_reducible refine (K.out _).mono ?_); rintro e w2 ⟨rfl, hb2⟩; have HB2 := Lib.hid hb2; clear hb2)
  go_wp2_with (first
    | (go_at_call 15/-f-/; (with_reducible refine (WN.out _).mono ?_); rintro e w3 ⟨rfl, hb3⟩; have X := BK.out _ HB2.out _ hb3; have HK3 := Lib.hid X.1; have HB3 := Lib.hid X.2; clear X hb3)
    | (go_at_call 16/-f-/; (with_reducible refine (IS.out _ HB3.out).mono ?_); rintro e w5 ⟨rfl, hb5⟩; have HK5 := Lib.hid (HK3.out.below hb5 HK3.out.lt); have HB5 := Lib.hid (HB3.out.trans (hb5.mono HB3.out.size)); clear hb5)
    | (go_at_call 17/-f-/; (with_reducible refine (TK.out _ HB5.out).mono ?_); rintro e w7 ⟨rfl, hb7⟩; have HK7 := Lib.hid (HK5.out.below hb7 HK5.out.lt); have HB7 := Lib.hid (HB5.out.trans (hb7.mono HB5.out.size)); clear hb7; obtain ⟨c0, c1, c2, c3, f0, f1, f2, f3, hlw⟩ := blk4 HK7.out)
    | (go_at_call 19/-f-/; (with_reducible refine (L.out _).mono ?_); rintro e w8 ⟨rfl, rfl⟩)
    | (go_at_call 9/-f-/; (with_reducible refine (AW.out _).mono ?_); rintro e w9 ⟨rfl, hb9⟩; have HB9 := Lib.hid (HB7.out.trans (hb9.mono HB7.out.size)); clear hb9))
  go_ret
  exact ⟨rfl, HB9.out⟩
theorem own : ownKnob Try.prog.godebug = none := by kernel_rfl
theorem laidOut : laidOutB Try.prog = true := by kernel_rfl
set_option maxRecDepth 100000 in
theorem lifted (os : Os) (started : os.Started) (H : Type) (enc : TypeId × Value → H) :
    ReturnsInHanded {} Try.checked os 7 .any (Rows.lexNoneSpec.pre6 enc Try.prog Try.f7 Rows.lexNoneRow.domain false) (Rows.lexNoneSpec.post enc Try.prog Try.f7 false true false false) := by
  refine returnsInHanded_of_change (C := Try.checked) own started (by kernel_rfl) Try.func7
    (ChangeSpec.witness6 (enc := enc) (C := Try.checked) false ⟨#[], #[.int .i64 0, .slice none 0 0], []⟩ 8 (by kernel_rfl) (by kernel_rfl) (by kernel_rfl) (by kernel_rfl)) ?_
  intro W base args ds gs before hval0 hW hcnd _
  have hval : ∀ (j : Nat) t v, Try.f7.params[j]? = some t → args[j]? = some v → Value.okWide Try.prog W .any base t v := hval0
  have hW' := hW
  obtain ⟨p, q, hA0, hV, rfl, hfz, hnd⟩ := hW
  have hA : DataW.TrodAll enc Try.prog W 0 (fun _ => true) true Try.f7.params.toList args.toList ds p := hA0
  rw [Try.params7] at hA hval
  obtain ⟨v0, vs0, d0, ds0, p0, q0, hargs, rfl, rfl, h0, r0⟩ := trodAll_cons hA
  obtain ⟨v1, vs1, d1, ds1, p1, q1, rfl, rfl, rfl, h1, r1⟩ := trodAll_cons r0
  obtain ⟨rfl, rfl, rfl⟩ := trodAll_nil r1
  obtain rfl : args = #[v0, v1] := by cases args; simp_all
  obtain ⟨rfl, rfl⟩ := trodVars_none hV
  obtain ⟨a0, rfl, rfl, rfl, w0⟩ := open_int Try.underlying3 (hval 0 3 v0 rfl rfl) h0
  have b0 := bounds_i64 w0
  obtain ⟨a1, len1, cap1, rfl⟩ := okWide_slice Try.underlying39 (hval 1 39 v1 rfl rfl)
  have k1 := h1
  have lt1 : ∀ x ∈ p1, x.block < W.heap.size := by obtain ⟨m, hm⟩ := k1; exact DataW.trod_lt m _ _ _ hm
  obtain ⟨fuel1, hf1⟩ := h1
  have hg1 : DataW.trod enc Try.prog W 0 (fun _ => true) true fuel1 39 [.slice a1 len1 cap1] = some (d1, p1) := by simpa [Value.cells] using hf1
  have o1 := texts_open hg1
  obtain ⟨hlc1, hcm1, ss1, hn1, hs1, _⟩ := o1
  clear hA0 hval0
  refine (walk a0 a1 len1 cap1 ss1 W hs1 hn1 (Nat.le_trans hlc1 hcm1)).mono fun e W' ⟨he, bel⟩ => ?_
  subst he
  exact ⟨_, rfl, _, _, _, [], _, [], hW', trodAll_mk1 (shut_bool Try.underlying4 _), (trodAll_cons_mk (shut_int Try.underlying3 w0) (trodAll_cons_mk (Below.trod laidOut (by kernel_rfl) (of_decide_eq_true (by kernel_rfl)) k1 bel lt1) trodAll_mk0)), rfl, bel.frame _, fun h => by cases h⟩

theorem over : Rows.lexNoneRow.holds Try.pinned (OpenSpec.ofChange Rows.lexNoneSpec) :=
  OpenClaim.holds_of_wide 7 Try.f7 rfl rfl rfl rfl rfl rfl rfl ⟨rfl, rfl, rfl, rfl, rfl⟩ rfl rfl rfl rfl rfl (by kernel_rfl) Try.func7 (by kernel_rfl)
    (of_decide_eq_true (by kernel_rfl)) (by unfold Func.isWrapper; first | (rw [if_pos (by decide +kernel)]; kernel_rfl) | (rw [if_neg (by decide +kernel)]; exact ⟨rfl, rfl⟩))
    (fun os started H enc _ => lifted os started H enc)

theorem proved : Rows.LexNoneSaid := over

end Go.Proofs.Ytgdfjcmjhagmoaa.LexNone

/- LexSpaces: with a blank, or a remark, behind each word that isn't a text the words are the same, but their places. No condition. -/
import Derived.Test.YtgdfjcmjhagmoaaRows
import Derived.Test.YtgdfjcmjhagmoaaLxz
import Derived.Laws.DeepStrings4
namespace Go.Proofs.Ytgdfjcmjhagmoaa.LexSpaces
open Go.ChangeShapes Go.WideShapes Go.ChangeAt Go.RowKit Go.Deep
theorem bare_at {ws vs : List Wd} (h : bare vs = bare ws) : vs.length = ws.length ∧ ∀ j, j < ws.length → (vs.getD j default).kd = (ws.getD j default).kd ∧ (vs.getD j default).tx = (ws.getD j default).tx ∧ (vs.getD j default).n = (ws.getD j default).n := by
  have hl : vs.length = ws.length := by have := congrArg List.length h; simpa [bare] using this
  refine ⟨hl, fun j hj => ?_⟩
  have h2 : (bare vs)[j]? = (bare ws)[j]? := by rw [h]
  simp only [bare, List.getElem?_map] at h2
  rw [List.getElem?_eq_getElem hj, List.getElem?_eq_getElem (by omega)] at h2
  simp only [Option.map_some, Option.some.injEq, Prod.mk.injEq] at h2
  rw [List.getD_eq_getElem?_getD, List.getD_eq_getElem?_getD, List.getElem?_eq_getElem hj, List.getElem?_eq_getElem (by omega : j < vs.length)]
  exact h2
set_option maxRecDepth 100000 in
set_option maxHeartbeats 4000000 in
theorem walk_bad (s : ByteArray) (r : Bool) (w : World) (hs : s.size ≤ 9223372036854775807) (n : Int) (k : Int) (hn : (n == 0) = false)
    (h : Calls Try.prog 8/-f-/ #[.string s] w fun e w' => e = .returned (.tuple #[.slice none 0 0, .int .i64 k, .int .i64 n]) ∧ Below w.heap.size w w') :
    Calls Try.prog 6/-f-/ #[.string s, .bool r] w fun e w' => e = .returned (.bool true) ∧ Below w.heap.size w w' := by
  have WD := Lib.hid h
  have AW := Lib.hid awake_any
  have hn2 : (n != 0) = true := by rw [bne, hn]; rfl
  clear h
  go_enter Try.func6, Try.ntmps6
  go_wp2_with (first
    | (go_at_call 8/-f-/; (with_reducible refine WD.out.mono ?_); rintro e w2 ⟨rfl, hb2⟩; have HB2 := Lib.hid hb2; clear hb2)
    | (go_at_call 9/-f-/; (with_reducible refine (AW.out _).mono ?_); rintro e w9 ⟨rfl, hb9⟩; have HB9 := Lib.hid (HB2.out.trans (hb9.mono HB2.out.size)); clear hb9))
  go_ret
  exact ⟨rfl, HB9.out⟩
set_option maxRecDepth 100000 in
set_option maxHeartbeats 8000000 in
theorem walk_big (s : ByteArray) (r : Bool) (w : World) (hs : s.size ≤ 8000) (hs5 : 500 < s.size) (ws : List Wd) (hws : wordsF (s.size + 1) s.data.toList 0 = .ok ws) :
    Calls Try.prog 6/-f-/ #[.string s, .bool r] w fun e w' => e = .returned (.bool true) ∧ Below w.heap.size w w' := by
  have W' := words_any s w (by omega) (by omega)
  rw [hws] at W'
  have WD := Lib.hid (W'.mono (R' := fun e w' => (∃ A c, e = .returned (.tuple #[.slice A ws.length c, .int .i64 0, .int .i64 0]) ∧ Wds w' A ws) ∧ Below w.heap.size w w') (by
    rintro e w' ⟨⟨v, rfl, h⟩, hb⟩
    obtain ⟨A, c, rfl⟩ := own_slice h
    exact ⟨⟨A, c, rfl, own_wds h⟩, hb⟩))
  have AW := Lib.hid awake_any
  clear W' hws
  go_enter Try.func6, Try.ntmps6
  go_wp2_with (first
    | (go_at_call 8/-f-/; (with_reducible refine WD.out.mono ?_); rintro e w2 ⟨⟨A, c, rfl, hw2⟩, hb2⟩; have HB2 := Lib.hid hb2; have HW2 := Lib.hid hw2; clear hb2 hw2)
    | (go_at_call 9/-f-/; (with_reducible refine (AW.out _).mono ?_); rintro e w9 ⟨rfl, hb9⟩; have HB9 := Lib.hid (HB2.out.trans (hb9.mono HB2.out.size)); clear hb9))
  go_ret
  exact ⟨rfl, HB9.out⟩
set_option maxRecDepth 100000 in
set_option maxHeartbeats 8000000 in
theorem walk_ok (s : ByteArray) (r : Bool) (w : World) (hs : s.size ≤ 500) (ws : List Wd) (hws : wordsF (s.size + 1) s.data.toList 0 = .ok ws) :
    Calls Try.prog 6/-f-/ #[.string s, .bool r] w fun e w' => e = .returned (.bool true) ∧ Below w.heap.size w w' := by
  have hst0 := words_stand s.data.toList (s.size + 1) 0 ws (Nat.zero_le _) (by simp) hws
  have hsl : s.data.toList.length = s.size := by simp
  have hjs := stand_size r _ _ _ (Nat.zero_le _) hst0
  rw [hsl] at hjs
  have HG := Lib.hid (stand_good _ _ _ hst0)
  have hj9 : (joined r ws).length ≤ 4500 := by omega
  have HJ := Lib.hid (fun j => Nat.le_trans (joined_take_le r ws j) hj9)
  have hwl : ws.length ≤ 4500 := by
    refine Nat.le_trans ?_ hj9
    clear HJ HG hst0 hws hjs hj9
    induction ws with
    | nil => simp
    | cons x t ih => rw [joined_cons]; simp [sep]; omega
  have W' := words_any s w (by omega) (by omega)
  rw [hws] at W'
  have WD := Lib.hid (W'.mono (R' := fun e w' => (∃ A c, e = .returned (.tuple #[.slice A ws.length c, .int .i64 0, .int .i64 0]) ∧ Wds w' A ws) ∧ Below w.heap.size w w') (by
    rintro e w' ⟨⟨v, rfl, h⟩, hb⟩
    obtain ⟨A, c, rfl⟩ := own_slice h
    exact ⟨⟨A, c, rfl, own_wds h⟩, hb⟩))
  have AW := Lib.hid awake_any
  clear W' hst0 hws hjs hj9 hsl
  go_enter Try.func6, Try.ntmps6
  go_wp2_with (go_at_call 8/-f-/; (with_reducible refine WD.out.mono ?_); rintro e w2 ⟨⟨A, c, rfl, hw2⟩, hb2⟩; have HB2 := Lib.hid hb2; have HW2 := Lib.hid hw2; clear hb2 hw2)
  go_loop [8, 9] (fun t i => ∃ (j q : Nat) (S : ByteArray), j ≤ ws.length ∧ i = .int .i64 j ∧ t = .string S ∧ S.size = q ∧ q ≤ 4500 ∧ Hid (S.data.toList = joined r (ws.take j)) ∧ Hid (∀ x ∈ ws.take j, x.kd ≠ 2)) (fun _ i => ws.length - (intOf i).toNat)
  case atStart => exact ⟨0, 0, ⟨#[]⟩, Nat.zero_le _, rfl, rfl, rfl, by omega, Lib.hid rfl, Lib.hid (by simp)⟩
  case round =>
    obtain ⟨j, q, S, hj, rfl, rfl, hq, hq4, hS, hkd⟩ := hrel
    by_cases hjn : j < ws.length
    · obtain ⟨b, off, rfl, hb, x0, x1, x2, x3⟩ := wds_cell HW2.out hjn
      have HN := Lib.hid (joined_snoc r ws j hjn)
      have HJ1 := Lib.hid (HJ.out (j + 1))
      have HK1 := Lib.hid (show ∀ y, y ∈ ws.take (j + 1) → y ∈ ws.take j ∨ y = ws.getD j default from fun y hy => by
        rw [List.take_add_one, List.mem_append] at hy
        rcases hy with h | h
        · exact .inl h
        · right
          rw [List.getElem?_eq_getElem hjn] at h
          simp at h
          simp [List.getD, hjn, h])
      generalize ws.getD j default = x at *
      obtain ⟨kd, tx, n, p⟩ := x
      simp only at x0 x1 x2 x3
      by_cases h2 : kd = 2
      · subst h2
        go_wp2_with (go_at_call 9/-f-/; (with_reducible refine (AW.out _).mono ?_); rintro e w9 ⟨rfl, hb9⟩; have HB9 := Lib.hid (HB2.out.trans (hb9.mono HB2.out.size)); clear hb9)
        go_ret
        exact ⟨rfl, HB9.out⟩
      · have b2 : (kd == 2) = false := beq_eq_false_iff_ne.2 h2
        have HKD := Lib.hid (show ∀ y ∈ ws.take (j + 1), y.kd ≠ 2 from fun y hy => by
          rcases HK1.out y hy with h | h
          · exact hkd.out y h
          · subst h; exact h2)
        have hlen : (joined r (ws.take (j + 1))).length = q + tx.size + (sep r).length := by
          rw [HN.out, List.length_append, List.length_append, ← hS.out]
          simp [hq]
        have hq2 : q + tx.size + (sep r).length ≤ 4500 := by rw [← hlen]; exact HJ1.out
        have HS2 := Lib.hid (show joined r (ws.take (j + 1)) = S.data.toList ++ tx.data.toList ++ sep r from by rw [HN.out, hS.out])
        clear hlen HN HJ1 HK1 h2 hkd hS
        cases r with
        | false =>
          have hq3 : q + tx.size + 1 ≤ 4500 := hq2
          have hz1 : (S ++ tx).size = q + tx.size := by rw [ByteArray.size_append, hq]
          have hz2 : (S ++ tx ++ ⟨#[32]⟩).size = q + tx.size + 1 := by rw [ByteArray.size_append, hz1]; rfl
          clear hq2
          go_wp2
          go_round
          case rel => exact ⟨j + 1, q + tx.size + 1, S ++ tx ++ ⟨#[32]⟩, hjn, by go_num, rfl, hz2, hq3, Lib.hid (by rw [HS2.out]; simp [sep]), HKD⟩
          case measure => simp [intOf]; omega
        | true =>
          have hq3 : q + tx.size + 8 ≤ 4500 := hq2
          have hz1 : (S ++ tx).size = q + tx.size := by rw [ByteArray.size_append, hq]
          have hz2 : (S ++ tx ++ ⟨#[32]⟩).size = q + tx.size + 1 := by rw [ByteArray.size_append, hz1]; rfl
          have hz3 : (S ++ tx ++ ⟨#[32]⟩ ++ ⟨#[47, 47, 32, 39, 32, 123, 10]⟩).size = q + tx.size + 8 := by rw [ByteArray.size_append, hz2]; rfl
          clear hq2
          go_wp2
          go_round
          case rel => exact ⟨j + 1, q + tx.size + 8, S ++ tx ++ ⟨#[32]⟩ ++ ⟨#[47, 47, 32, 39, 32, 123, 10]⟩, hjn, by go_num, rfl, hz3, hq3, Lib.hid (by rw [HS2.out]; simp [sep]), HKD⟩
          case measure => simp [intOf]; omega
    · have hjl : j = ws.length := by omega
      subst hjl
      rw [List.take_length] at hS hkd
      obtain ⟨vs, hv, hbare⟩ := words_joined r ws (S.size + 1) 0 [] (HG.out hkd.out) (.inl rfl) (by rw [List.nil_append, ← hS.out]; simp)
      rw [List.nil_append, ← hS.out] at hv
      obtain ⟨hvl, hat⟩ := bare_at hbare
      have HAT := Lib.hid hat
      have V' := words_any S w2 (by omega) (by omega)
      rw [hv] at V'
      have VD := Lib.hid (V'.mono (R' := fun e w' => (∃ A c, e = .returned (.tuple #[.slice A ws.length c, .int .i64 0, .int .i64 0]) ∧ Wds w' A vs) ∧ Below w2.heap.size w2 w') (by
        rintro e w' ⟨⟨v, rfl, h⟩, hb⟩
        obtain ⟨A, c, rfl⟩ := own_slice h
        refine ⟨⟨A, c, by rw [hvl], own_wds h⟩, hb⟩))
      have HVL := Lib.hid hvl
      clear V' hv hbare hat hvl hS hkd hq
      go_wp2_with (go_at_call 8/-f-/; (with_reducible refine VD.out.mono ?_); rintro e w3 ⟨⟨A3, c3, rfl, hw3⟩, hb3⟩; have HB3 := Lib.hid (HB2.out.trans (hb3.mono HB2.out.size)); have HV3 := Lib.hid hw3; have HW3 := Lib.hid (HW2.out.keep hb3); clear hb3 hw3)
      go_loopw [13] (fun i wr => ∃ j : Nat, j ≤ ws.length ∧ i = .int .i64 j ∧ Hid (Below w.heap.size w wr) ∧ Hid (Wds wr A ws) ∧ Hid (Wds wr A3 vs)) (fun i _ => ws.length - (intOf i).toNat)
      case atStart => exact ⟨0, Nat.zero_le _, rfl, HB3, HW3, HV3⟩
      case round =>
        obtain ⟨j, hj, rfl, hbl, hwd, hvd⟩ := hrel
        by_cases hjn : j < ws.length
        · obtain ⟨b, off, rfl, hb, x0, x1, x2, x3⟩ := wds_cell hwd.out hjn
          obtain ⟨b4, off4, rfl, hb4, y0, y1, y2, y3⟩ := wds_cell hvd.out (by rw [HVL.out]; exact hjn)
          obtain ⟨k0, k1, k2⟩ := HAT.out j hjn
          rw [k0] at y0
          rw [k1] at y1
          rw [k2] at y2
          clear k0 k1 k2 x3 y3
          generalize ws.getD j default = x at *
          obtain ⟨kd, tx, n, p⟩ := x
          simp only at x0 x1 x2 y0 y1 y2
          have hk0 : (0 : Int) ≤ (j : Int) := by omega
          have hkm : (j : Int) < (ws.length : Int) := by omega
          go_upto_region 19 with fail
          go_quiet (fail)
          go_wp2
          go_roundw
          case rel => exact ⟨j + 1, hjn, by go_num, Lib.hid (below_drewN hbl.out _), Lib.hid (hwd.out.drewN _), Lib.hid (hvd.out.drewN _)⟩
          case measure => simp [intOf]; omega
        · have hjl : j = ws.length := by omega
          subst hjl
          go_wp2_with (go_at_call 9/-f-/; (with_reducible refine (AW.out _).mono ?_); rintro e w9 ⟨rfl, hb9⟩; have HB9 := Lib.hid (hbl.out.trans (hb9.mono hbl.out.size)); clear hb9)
          go_ret
          exact ⟨rfl, HB9.out⟩
theorem walk (s : ByteArray) (r : Bool) (w : World) (hs : s.size ≤ 9223372036854775807) :
    Calls Try.prog 6/-f-/ #[.string s, .bool r] w fun e w' => e = .returned (.bool true) ∧ Below w.heap.size w w' := by
  by_cases hl : 8000 < s.size
  · exact walk_bad s r w hs 5 0 rfl ((words_big s w hs hl).mono (by rintro e w' ⟨rfl, rfl⟩; exact ⟨rfl, Below.refl _ _⟩))
  · have W := words_any s w (by omega) hl
    cases h : wordsF (s.size + 1) s.data.toList 0 with
    | error p => rw [h] at W; exact walk_bad s r w hs 12 p rfl W
    | ok ws =>
      by_cases h5 : 500 < s.size
      · exact walk_big s r w (by omega) h5 ws h
      · exact walk_ok s r w (by omega) ws h
theorem own : ownKnob Try.prog.godebug = none := by kernel_rfl
theorem laidOut : laidOutB Try.prog = true := by kernel_rfl
set_option maxRecDepth 100000 in
theorem lifted (os : Os) (started : os.Started) (H : Type) (enc : TypeId × Value → H) :
    ReturnsInHanded {} Try.checked os 6 .any (Rows.lexSpacesSpec.pre6 enc Try.prog Try.f6 Rows.lexSpacesRow.domain false) (Rows.lexSpacesSpec.post enc Try.prog Try.f6 false true false false) := by
  refine returnsInHanded_of_change (C := Try.checked) own started (by kernel_rfl) Try.func6
    (ChangeSpec.witness6 (enc := enc) (C := Try.checked) false ⟨#[], #[.string ⟨#[]⟩, .bool false], []⟩ 8 (by kernel_rfl) (by kernel_rfl) (by kernel_rfl) (by kernel_rfl)) ?_
  intro W base args ds gs before hval0 hW hcnd _
  have hval : ∀ (j : Nat) t v, Try.f6.params[j]? = some t → args[j]? = some v → Value.okWide Try.prog W .any base t v := hval0
  have hW' := hW
  obtain ⟨p, q, hA0, hV, rfl, hfz, hnd⟩ := hW
  have hA : DataW.TrodAll enc Try.prog W 0 (fun _ => true) true Try.f6.params.toList args.toList ds p := hA0
  rw [Try.params6] at hA hval
  obtain ⟨v0, vs0, d0, ds0, p0, q0, hargs, rfl, rfl, h0, r0⟩ := trodAll_cons hA
  obtain ⟨v1, vs1, d1, ds1, p1, q1, rfl, rfl, rfl, h1, r1⟩ := trodAll_cons r0
  obtain ⟨rfl, rfl, rfl⟩ := trodAll_nil r1
  obtain rfl : args = #[v0, v1] := by cases args; simp_all
  obtain ⟨rfl, rfl⟩ := trodVars_none hV
  obtain ⟨s0, rfl, rfl, rfl, z0⟩ := Go.ChangeMaps.open_string Try.underlying9 (hval 0 9 v0 rfl rfl) h0
  obtain ⟨a1, rfl, rfl, rfl⟩ := open_bool Try.underlying4 (hval 1 4 v1 rfl rfl) h1
  clear hA0 hval0
  refine (walk s0 a1 W (by have := z0; unfold maxLen at this; omega)).mono fun e W' ⟨he, bel⟩ => ?_
  subst he
  exact ⟨_, rfl, _, _, _, [], _, [], hW', trodAll_mk1 (shut_bool Try.underlying4 _), (trodAll_cons_mk (Go.ChangeMaps.shut_string Try.underlying9 z0) (trodAll_cons_mk (shut_bool Try.underlying4 _) trodAll_mk0)), rfl, bel.frame _, fun h => by cases h⟩

theorem over : Rows.lexSpacesRow.holds Try.pinned (OpenSpec.ofChange Rows.lexSpacesSpec) :=
  OpenClaim.holds_of_wide 6 Try.f6 rfl rfl rfl rfl rfl rfl rfl ⟨rfl, rfl, rfl, rfl, rfl⟩ rfl rfl rfl rfl rfl (by kernel_rfl) Try.func6 (by kernel_rfl)
    (of_decide_eq_true (by kernel_rfl)) (by unfold Func.isWrapper; first | (rw [if_pos (by decide +kernel)]; kernel_rfl) | (rw [if_neg (by decide +kernel)]; exact ⟨rfl, rfl⟩))
    (fun os started H enc _ => lifted os started H enc)

theorem proved : Rows.LexSpacesSaid := over

end Go.Proofs.Ytgdfjcmjhagmoaa.LexSpaces

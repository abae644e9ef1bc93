/- Row DiskKeeps: what was synced is there behind any crash. -/
import Derived.Test.YtlhfamdandpkgaaRows
import Derived.Test.YtlhfamdandpkgaaDsl
import Derived.Laws.DeepStrings4
namespace Go.Proofs.Ytlhfamdandpkgaa.DiskKeeps
open Go.ChangeShapes Go.WideShapes Go.ChangeAt Go.RowKit Go.Maps
theorem catL_one (x : ByteArray) : catL [x] = x.data.toList := by simp [catL]
theorem len_of (x : ByteArray) : x.data.toList.length = x.size := by rw [Array.length_toList]; rfl
set_option maxRecDepth 100000 in
set_option maxHeartbeats 16000000 in
theorem walk (s0 s1 : ByteArray) (a2 : Int) (W : World) : Calls Try.prog 5/-f-/ #[.string s0, .string s1, .int .i64 a2] W fun e W' => e = .returned (.bool true) ∧ Below W.heap.size W W' := by
  have AW := Lib.hid (awake_any W)
  by_cases h0 : 300 < s0.size
  · have h0i : (300 : Int) < (s0.size : Int) := by omega
    clear h0
    go_enter Try.func5, Try.ntmps5
    go_wp2_with (go_at_call 9/-f-/; (with_reducible refine AW.out.mono ?_); rintro e w1 ⟨rfl, hb⟩; have HB := Lib.hid hb; clear hb)
    go_ret
    exact ⟨rfl, HB.out⟩
  · by_cases h1 : 300 < s1.size
    · have h0i : ¬ (300 : Int) < (s0.size : Int) := by omega
      have h1i : (300 : Int) < (s1.size : Int) := by omega
      clear h0 h1
      go_enter Try.func5, Try.ntmps5
      go_wp2_with (go_at_call 9/-f-/; (with_reducible refine AW.out.mono ?_); rintro e w1 ⟨rfl, hb⟩; have HB := Lib.hid hb; clear hb)
      go_ret
      exact ⟨rfl, HB.out⟩
    · have h0i : ¬ (300 : Int) < (s0.size : Int) := by omega
      have h1i : ¬ (300 : Int) < (s1.size : Int) := by omega
      have hz0 : s0.size ≤ 300 := by omega
      have hz1 : s1.size ≤ 300 := by omega
      obtain ⟨m, hm⟩ : ∃ m, m = min a2.toNat s1.size := ⟨_, rfl⟩
      obtain ⟨T, hT⟩ : ∃ T : ByteArray, T = ⟨(s0.data.toList ++ s1.data.toList.take m).toArray⟩ := ⟨_, rfl⟩
      have l0 := len_of s0
      have l1 := len_of s1
      have hTs : T.data.toList = s0.data.toList ++ s1.data.toList.take m := by rw [hT]
      have hTl : T.data.toList.length = s0.size + m := by rw [hTs, List.length_append, List.length_take]; omega
      have ST := Lib.hid (show stayF ⟨(⟨#[102]⟩ : ByteArray).data.toList, catL [s0] ++ catL [s1], (catL [s0]).length⟩ a2 = ⟨(⟨#[102]⟩ : ByteArray).data.toList, T.data.toList, T.data.toList.length⟩ from by
        unfold stayF stayN
        simp only [catL_one, List.length_append, l0, l1]
        have e : s0.size + min a2.toNat (s0.size + s1.size - s0.size) = s0.size + m := by omega
        rw [e, hTl, hTs, List.take_append, l0, List.take_of_length_le (by omega), show s0.size + m - s0.size = m by omega])
      have ST2 := Lib.hid (show stayF ⟨(⟨#[102]⟩ : ByteArray).data.toList, T.data.toList, T.data.toList.length⟩ 1000 = ⟨(⟨#[102]⟩ : ByteArray).data.toList, T.data.toList, T.data.toList.length⟩ from by
        unfold stayF stayN
        have e : T.data.toList.length + min (1000 : Int).toNat (T.data.toList.length - T.data.toList.length) = T.data.toList.length := by omega
        simp only [e, List.take_length])
      have L0 := Lib.hid (show (catL [s0]).length ≤ 300 from by rw [catL_one, l0]; exact hz0)
      have L1 := Lib.hid (show (catL [s1]).length ≤ 300 from by rw [catL_one, l1]; exact hz1)
      have HC := Lib.hid (show (⟨T.data⟩ : ByteArray).toList = (s0 ++ s1.extract 0 m).toList from by
        rw [ByteArray.toList_eq, ByteArray.toList_eq]
        show T.data.toList = _
        rw [hTs]
        simp [ByteArray.data_append, ByteArray.data_extract])
      have HTL := Lib.hid hTl
      have HM := Lib.hid hm
      clear hT l0 l1 hTs hTl hm h0 h1
      go_enter Try.func5, Try.ntmps5
      go_upto_region 4 with (first
        | (go_at_call 9/-f-/; (with_reducible refine AW.out.mono ?_); rintro e w1 ⟨rfl, hb⟩; have HB := Lib.hid hb; clear hb)
        | (go_at_call 10/-f-/; (with_reducible refine (one_made _ 1000 (by decide) (by decide)).mono ?_); rintro e w2 ⟨d, rfl, h⟩; have H := Lib.hid h; clear h))
      go_upto_region 6 with (first
        | (go_at_call 23/-f-/; (with_reducible refine ((H1.out.step (below_al _ _)).sync (by decide) (by decide) (by decide) (by decide) _ _ (StrT.one _ _ _ rfl)).mono ?_); rintro e w4 ⟨rfl, h⟩; have H2 := Lib.hid h; clear h)
        | (go_at_call 20/-f-/; (with_reducible refine ((H2.out.step (below_al _ _)).more (by decide) (by decide) (by decide) (by decide) (by decide) (by decide) _ 1 1 [s1] rfl (by decide) (StrT.one _ _ _ rfl) (by have := L0.out; have := L1.out; omega)).mono ?_); rintro e w5 ⟨rfl, h⟩; have H3 := Lib.hid h; clear h)
        | (go_at_call 20/-f-/; (with_reducible refine ((H.out.step (below_al _ _)).append (by decide) (by decide) (by decide) (by decide) ⟨#[102]⟩ (by decide) (by decide) _ 1 1 [s0] rfl (by decide) (StrT.one _ _ _ rfl) (by have := L0.out; omega)).mono ?_); rintro e w3 ⟨rfl, h⟩; have H1 := Lib.hid h; clear h))
      go_upto_region 8 with (first
        | (go_at_call 24/-f-/; (with_reducible refine ((H3.out.step (below_al _ _)).crash _ _ a2 (IntT.one _ _ _ rfl)).mono ?_); rintro e w6 ⟨rfl, h⟩; rw [ST.out] at h; have H4 := Lib.hid h; clear h)
        | (go_at_call 25/-f-/; (with_reducible refine (H4.out.read (by decide)).mono ?_); rintro e w7 ⟨rfl, rfl⟩))
      have hmi : min (max a2 0) (s1.size : Int) = m := by have := HM.out; omega
      have hm0 : (0 : Int) ≤ (m : Int) := by omega
      have hm1 : (m : Int) ≤ (s1.size : Int) := by have := HM.out; omega
      go_upto_region 11 with (first
        | (go_at_call 24/-f-/; (with_reducible refine ((H4.out.step (below_al _ _)).crash _ _ 1000 (IntT.one _ _ _ rfl)).mono ?_); rintro e w8 ⟨rfl, h⟩; rw [ST2.out] at h; have H5 := Lib.hid h; clear h)
        | (go_at_call 25/-f-/; (with_reducible refine (H5.out.read (by decide)).mono ?_); rintro e w9 ⟨rfl, rfl⟩))
      go_wp2_with (go_at_call 26/-f-/; (with_reducible refine (H5.out.used).mono ?_); rintro e w10 ⟨rfl, h⟩; have H6 := Lib.hid h; clear h)
      all_goals first
        | (exfalso; rename_i hne; exact hne HC.out)
        | skip
      go_ret
      refine ⟨ret_bool ?_, HB.out.trans ((below_of H6.out).mono HB.out.size)⟩
      rw [usedF_one]
      show (((T.data.toList.length : Nat) : Int) == ((T.size : Nat) : Int)) = true
      rw [len_of T]
      exact beq_self_eq_true _
theorem own : ownKnob Try.prog.godebug = none := by kernel_rfl
theorem laidOut : laidOutB Try.prog = true := by kernel_rfl
set_option maxRecDepth 100000 in
theorem lifted (os : Os) (started : os.Started) (H : Type) (enc : TypeId × Value → H) :
    ReturnsInHanded {} Try.checked os 5 .any (Rows.diskKeepsSpec.pre6 enc Try.prog Try.f5 Rows.diskKeepsRow.domain false) (Rows.diskKeepsSpec.post enc Try.prog Try.f5 false true false false) := by
  refine returnsInHanded_of_change (C := Try.checked) own started (by kernel_rfl) Try.func5
    (ChangeSpec.witness6 (enc := enc) (C := Try.checked) false ⟨#[], #[.string ⟨#[]⟩, .string ⟨#[]⟩, .int .i64 0], []⟩ 8 (by kernel_rfl) (by kernel_rfl) (by kernel_rfl) (by kernel_rfl)) ?_
  intro W base args ds gs before hval0 hW hcnd _
  have hval : ∀ (j : Nat) t v, Try.f5.params[j]? = some t → args[j]? = some v → Value.okWide Try.prog W .any base t v := hval0
  have hW' := hW
  obtain ⟨p, q, hA0, hV, rfl, hfz, hnd⟩ := hW
  have hA : DataW.TrodAll enc Try.prog W 0 (fun _ => true) true Try.f5.params.toList args.toList ds p := hA0
  rw [Try.params5] at hA hval
  obtain ⟨v0, vs0, d0, ds0, p0, q0, hargs, rfl, rfl, h0, r0⟩ := trodAll_cons hA
  obtain ⟨v1, vs1, d1, ds1, p1, q1, rfl, rfl, rfl, h1, r1⟩ := trodAll_cons r0
  obtain ⟨v2, vs2, d2, ds2, p2, q2, rfl, rfl, rfl, h2, r2⟩ := trodAll_cons r1
  obtain ⟨rfl, rfl, rfl⟩ := trodAll_nil r2
  obtain rfl : args = #[v0, v1, v2] := by cases args; simp_all
  obtain ⟨rfl, rfl⟩ := trodVars_none hV
  obtain ⟨s0, rfl, rfl, rfl, z0⟩ := Go.ChangeMaps.open_string Try.underlying9 (hval 0 9 v0 rfl rfl) h0
  obtain ⟨s1, rfl, rfl, rfl, z1⟩ := Go.ChangeMaps.open_string Try.underlying9 (hval 1 9 v1 rfl rfl) h1
  obtain ⟨a2, rfl, rfl, rfl, w2⟩ := open_int Try.underlying3 (hval 2 3 v2 rfl rfl) h2
  have b2 := bounds_i64 w2
  clear hA0 hval0
  refine (walk s0 s1 a2 W).mono fun e W' ⟨he, bel⟩ => ?_
  subst he
  exact ⟨_, rfl, _, _, _, [], _, [], hW', trodAll_mk1 (shut_bool Try.underlying4 _), (trodAll_cons_mk (Go.ChangeMaps.shut_string Try.underlying9 z0) (trodAll_cons_mk (Go.ChangeMaps.shut_string Try.underlying9 z1) (trodAll_cons_mk (shut_int Try.underlying3 w2) trodAll_mk0))), rfl, bel.frame _, fun h => by cases h⟩

theorem over : Rows.diskKeepsRow.holds Try.pinned (OpenSpec.ofChange Rows.diskKeepsSpec) :=
  OpenClaim.holds_of_wide 5 Try.f5 rfl rfl rfl rfl rfl rfl rfl ⟨rfl, rfl, rfl, rfl, rfl⟩ rfl rfl rfl rfl rfl (by kernel_rfl) Try.func5 (by kernel_rfl)
    (of_decide_eq_true (by kernel_rfl)) (by unfold Func.isWrapper; first | (rw [if_pos (by decide +kernel)]; kernel_rfl) | (rw [if_neg (by decide +kernel)]; exact ⟨rfl, rfl⟩))
    (fun os started H enc _ => lifted os started H enc)

theorem proved : Rows.DiskKeepsSaid := over

end Go.Proofs.Ytlhfamdandpkgaa.DiskKeeps

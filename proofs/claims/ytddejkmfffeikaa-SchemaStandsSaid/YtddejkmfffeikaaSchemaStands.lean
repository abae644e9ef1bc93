/- SchemaStands: whatever schema, rows and index: of rows that fit the keys by any index stand as what they pick, and where that is the same as the first index'. No condition. -/
import Derived.Test.YtddejkmfffeikaaRows
import Derived.Test.YtddejkmfffeikaaStm
import Derived.Deep.CutBlock
import Derived.Deep.DeepCutAuto
import Derived.Deep.RegionHeld3
namespace Go.Proofs.Ytddejkmfffeikaa.SchemaStands
open Go.ChangeShapes Go.WideShapes Go.ChangeAt Go.RowKit
set_option linter.unusedVariables false
theorem fits_two {cs : List Col} {vs : List Val} (h : fitsB cs vs = true) : vs.length = cs.length ∧ rall vs = true := by
  unfold fitsB at h
  simp only [Bool.and_eq_true, decide_eq_true_eq] at h
  exact h.1
set_option maxRecDepth 100000 in
set_option maxHeartbeats 32000000 in
theorem walk (v : Value) (s : Sch) (A B : Option Addr) (n m c d : Nat) (us bs : List Val) (i : Int) (w : World) (hv : SchV w v s) (hf : FitS s) (hA : Vals w A us) (hB : Vals w B bs) (hn : us.length = n) (hm : bs.length = m) (hfa : ∀ x ∈ us, FitV x) (hfb : ∀ x ∈ bs, FitV x) (hs : n ≤ 9223372036854775807) (hs' : m ≤ 9223372036854775807) (hi0 : -9223372036854775808 ≤ i) (hi1 : i ≤ 9223372036854775807) :
    Calls Try.prog 6/-f-/ #[v, .slice A n c, .slice B m d, .int .i64 i] w fun e w' => e = .returned (.bool true) ∧ Below w.heap.size w w' := by
  subst hn hm
  have HV := Lib.hid hv
  have HF := Lib.hid hf
  have HA := Lib.hid hA
  have HB := Lib.hid hB
  have HFA := Lib.hid hfa
  have HFB := Lib.hid hfb
  obtain ⟨I, J, c1, c2, rfl, hC, hI, hc1, hc2⟩ := hv.is
  have HI := Lib.hid hI
  have HB0 := Lib.hid ((Below.refl w.heap.size w).alloc (Nat.le_refl _) (.cells #[.string s.nm, .slice I s.cols.length c1, .slice J s.idx.length c2, .int .i64 s.limit, .int .i64 s.parts, .int .i64 s.by_] 25))
  have BL := Lib.hid (Blk.new w 25 #[.string s.nm, .slice I s.cols.length c1, .slice J s.idx.length c2, .int .i64 s.limit, .int .i64 s.parts, .int .i64 s.by_])
  have G1' := fun W hW => great_sch (.agg #[.string s.nm, .slice I s.cols.length c1, .slice J s.idx.length c2, .int .i64 s.limit, .int .i64 s.parts, .int .i64 s.by_]) s W hW HF.out
  have GA' := fun W hW => refgreat_any A us.length c us W hW rfl HFA.out hs
  have GB' := fun W hW => refgreat_any B bs.length d bs W hW rfl HFB.out hs'
  clear hC hI hA hB hfa hfb hf hv
  obtain ⟨q1, hq1⟩ : ∃ q, q = greatS s := ⟨_, rfl⟩
  obtain ⟨q2, hq2⟩ : ∃ q, q = greatB us := ⟨_, rfl⟩
  obtain ⟨q3, hq3⟩ : ∃ q, q = greatB bs := ⟨_, rfl⟩
  rw [← hq1] at G1'
  rw [← hq2] at GA'
  rw [← hq3] at GB'
  have HQ1 := Lib.hid hq1
  have HQ2 := Lib.hid hq2
  have HQ3 := Lib.hid hq3
  have G1 := Lib.hid G1'
  have GA := Lib.hid GA'
  have GB := Lib.hid GB'
  clear hq1 hq2 hq3 G1' GA' GB'
  cases q1 with
  | true =>
    go_enter Try.func6, Try.ntmps6
    go_wp2_with (first
      | (go_at_call 7/-f-/; (with_reducible refine (G1.out _ (HV.out.keep HB0.out)).mono ?_); rintro e w1 ⟨rfl, hb⟩; have H1 := Lib.hid (HB0.out.trans (hb.mono HB0.out.size)); have K1 := BL.out.below hb BL.out.lt; have d0 := K1.cell 0; have d1 := K1.cell 1; have d2 := K1.cell 2; have d3 := K1.cell 3; have d4 := K1.cell 4; have d5 := K1.cell 5; have dl := K1.lt; simp only [List.getElem?_toArray, List.getElem?_cons_zero, List.getElem?_cons_succ] at d0 d1 d2 d3 d4 d5; have HK1 := Lib.hid K1; clear K1; clear hb)
      | (go_at_call 19/-f-/; (with_reducible refine (GA.out _ (HA.out.keep H1.out)).mono ?_); rintro e wx ⟨rfl, rfl⟩)
      | (go_at_call 19/-f-/; (with_reducible refine (GB.out _ (HB.out.keep H1.out)).mono ?_); rintro e wx ⟨rfl, rfl⟩)
      | (go_at_call 23/-f-/; (with_reducible refine (FA.out _ (HV.out.keep H1.out) (HA.out.keep H1.out)).mono ?_); rintro e w2 ⟨rfl, hb⟩; have H2 := Lib.hid (H1.out.trans (hb.mono H1.out.size)); have K2 := HK1.out.below hb HK1.out.lt; have e0 := K2.cell 0; have e1 := K2.cell 1; have e2 := K2.cell 2; have e3 := K2.cell 3; have e4 := K2.cell 4; have e5 := K2.cell 5; have el := K2.lt; simp only [List.getElem?_toArray, List.getElem?_cons_zero, List.getElem?_cons_succ] at e0 e1 e2 e3 e4 e5; have HK2 := Lib.hid K2; clear K2; clear hb)
      | (go_at_call 23/-f-/; (with_reducible refine (FB.out _ (HV.out.keep H2.out) (HB.out.keep H2.out)).mono ?_); rintro e w3 ⟨rfl, hb⟩; have H3 := Lib.hid (H2.out.trans (hb.mono H2.out.size)); have K3 := HK2.out.below hb HK2.out.lt; have f0 := K3.cell 0; have f1 := K3.cell 1; have f2 := K3.cell 2; have f3 := K3.cell 3; have f4 := K3.cell 4; have f5 := K3.cell 5; have fl := K3.lt; simp only [List.getElem?_toArray, List.getElem?_cons_zero, List.getElem?_cons_succ] at f0 f1 f2 f3 f4 f5; have HK3 := Lib.hid K3; clear K3; clear hb)
      | (go_at_call 8/-f-/; (with_reducible refine (awake_any _).mono ?_); rintro e w9 ⟨rfl, hb⟩; have H9 := Lib.hid (show Below w.heap.size w w9 from by first | exact H3.out.trans (hb.mono H3.out.size) | exact H2.out.trans (hb.mono H2.out.size) | exact H1.out.trans (hb.mono H1.out.size)); clear hb))
    go_ret
    exact ⟨rfl, H9.out⟩
  | false =>
  cases q2 with
  | true =>
    go_enter Try.func6, Try.ntmps6
    go_wp2_with (first
      | (go_at_call 7/-f-/; (with_reducible refine (G1.out _ (HV.out.keep HB0.out)).mono ?_); rintro e w1 ⟨rfl, hb⟩; have H1 := Lib.hid (HB0.out.trans (hb.mono HB0.out.size)); have K1 := BL.out.below hb BL.out.lt; have d0 := K1.cell 0; have d1 := K1.cell 1; have d2 := K1.cell 2; have d3 := K1.cell 3; have d4 := K1.cell 4; have d5 := K1.cell 5; have dl := K1.lt; simp only [List.getElem?_toArray, List.getElem?_cons_zero, List.getElem?_cons_succ] at d0 d1 d2 d3 d4 d5; have HK1 := Lib.hid K1; clear K1; clear hb)
      | (go_at_call 19/-f-/; (with_reducible refine (GA.out _ (HA.out.keep H1.out)).mono ?_); rintro e wx ⟨rfl, rfl⟩)
      | (go_at_call 19/-f-/; (with_reducible refine (GB.out _ (HB.out.keep H1.out)).mono ?_); rintro e wx ⟨rfl, rfl⟩)
      | (go_at_call 23/-f-/; (with_reducible refine (FA.out _ (HV.out.keep H1.out) (HA.out.keep H1.out)).mono ?_); rintro e w2 ⟨rfl, hb⟩; have H2 := Lib.hid (H1.out.trans (hb.mono H1.out.size)); have K2 := HK1.out.below hb HK1.out.lt; have e0 := K2.cell 0; have e1 := K2.cell 1; have e2 := K2.cell 2; have e3 := K2.cell 3; have e4 := K2.cell 4; have e5 := K2.cell 5; have el := K2.lt; simp only [List.getElem?_toArray, List.getElem?_cons_zero, List.getElem?_cons_succ] at e0 e1 e2 e3 e4 e5; have HK2 := Lib.hid K2; clear K2; clear hb)
      | (go_at_call 23/-f-/; (with_reducible refine (FB.out _ (HV.out.keep H2.out) (HB.out.keep H2.out)).mono ?_); rintro e w3 ⟨rfl, hb⟩; have H3 := Lib.hid (H2.out.trans (hb.mono H2.out.size)); have K3 := HK2.out.below hb HK2.out.lt; have f0 := K3.cell 0; have f1 := K3.cell 1; have f2 := K3.cell 2; have f3 := K3.cell 3; have f4 := K3.cell 4; have f5 := K3.cell 5; have fl := K3.lt; simp only [List.getElem?_toArray, List.getElem?_cons_zero, List.getElem?_cons_succ] at f0 f1 f2 f3 f4 f5; have HK3 := Lib.hid K3; clear K3; clear hb)
      | (go_at_call 8/-f-/; (with_reducible refine (awake_any _).mono ?_); rintro e w9 ⟨rfl, hb⟩; have H9 := Lib.hid (show Below w.heap.size w w9 from by first | exact H3.out.trans (hb.mono H3.out.size) | exact H2.out.trans (hb.mono H2.out.size) | exact H1.out.trans (hb.mono H1.out.size)); clear hb))
    go_ret
    exact ⟨rfl, H9.out⟩
  | false =>
  cases q3 with
  | true =>
    go_enter Try.func6, Try.ntmps6
    go_wp2_with (first
      | (go_at_call 7/-f-/; (with_reducible refine (G1.out _ (HV.out.keep HB0.out)).mono ?_); rintro e w1 ⟨rfl, hb⟩; have H1 := Lib.hid (HB0.out.trans (hb.mono HB0.out.size)); have K1 := BL.out.below hb BL.out.lt; have d0 := K1.cell 0; have d1 := K1.cell 1; have d2 := K1.cell 2; have d3 := K1.cell 3; have d4 := K1.cell 4; have d5 := K1.cell 5; have dl := K1.lt; simp only [List.getElem?_toArray, List.getElem?_cons_zero, List.getElem?_cons_succ] at d0 d1 d2 d3 d4 d5; have HK1 := Lib.hid K1; clear K1; clear hb)
      | (go_at_call 19/-f-/; (with_reducible refine (GA.out _ (HA.out.keep H1.out)).mono ?_); rintro e wx ⟨rfl, rfl⟩)
      | (go_at_call 19/-f-/; (with_reducible refine (GB.out _ (HB.out.keep H1.out)).mono ?_); rintro e wx ⟨rfl, rfl⟩)
      | (go_at_call 23/-f-/; (with_reducible refine (FA.out _ (HV.out.keep H1.out) (HA.out.keep H1.out)).mono ?_); rintro e w2 ⟨rfl, hb⟩; have H2 := Lib.hid (H1.out.trans (hb.mono H1.out.size)); have K2 := HK1.out.below hb HK1.out.lt; have e0 := K2.cell 0; have e1 := K2.cell 1; have e2 := K2.cell 2; have e3 := K2.cell 3; have e4 := K2.cell 4; have e5 := K2.cell 5; have el := K2.lt; simp only [List.getElem?_toArray, List.getElem?_cons_zero, List.getElem?_cons_succ] at e0 e1 e2 e3 e4 e5; have HK2 := Lib.hid K2; clear K2; clear hb)
      | (go_at_call 23/-f-/; (with_reducible refine (FB.out _ (HV.out.keep H2.out) (HB.out.keep H2.out)).mono ?_); rintro e w3 ⟨rfl, hb⟩; have H3 := Lib.hid (H2.out.trans (hb.mono H2.out.size)); have K3 := HK2.out.below hb HK2.out.lt; have f0 := K3.cell 0; have f1 := K3.cell 1; have f2 := K3.cell 2; have f3 := K3.cell 3; have f4 := K3.cell 4; have f5 := K3.cell 5; have fl := K3.lt; simp only [List.getElem?_toArray, List.getElem?_cons_zero, List.getElem?_cons_succ] at f0 f1 f2 f3 f4 f5; have HK3 := Lib.hid K3; clear K3; clear hb)
      | (go_at_call 8/-f-/; (with_reducible refine (awake_any _).mono ?_); rintro e w9 ⟨rfl, hb⟩; have H9 := Lib.hid (show Below w.heap.size w w9 from by first | exact H3.out.trans (hb.mono H3.out.size) | exact H2.out.trans (hb.mono H2.out.size) | exact H1.out.trans (hb.mono H1.out.size)); clear hb))
    go_ret
    exact ⟨rfl, H9.out⟩
  | false =>
  have HSN := Lib.hid (greatS_no HQ1.out.symm)
  have HAN := Lib.hid (great_no HQ2.out.symm)
  have HBN := Lib.hid (great_no HQ3.out.symm)
  have hal := HAN.out.1
  have hbl := HBN.out.1
  have FA' := fun W hW hW2 => fits_sch (.agg #[.string s.nm, .slice I s.cols.length c1, .slice J s.idx.length c2, .int .i64 s.limit, .int .i64 s.parts, .int .i64 s.by_]) s A us.length c us W hW HF.out hW2 rfl HFA.out (by omega)
  have FB' := fun W hW hW2 => fits_sch (.agg #[.string s.nm, .slice I s.cols.length c1, .slice J s.idx.length c2, .int .i64 s.limit, .int .i64 s.parts, .int .i64 s.by_]) s B bs.length d bs W hW HF.out hW2 rfl HFB.out (by omega)
  obtain ⟨q4, hq4⟩ : ∃ q, q = (schB s && fitsB s.cols us) := ⟨_, rfl⟩
  obtain ⟨q5, hq5⟩ : ∃ q, q = (schB s && fitsB s.cols bs) := ⟨_, rfl⟩
  rw [← hq4] at FA'
  rw [← hq5] at FB'
  have HQ4 := Lib.hid hq4
  have HQ5 := Lib.hid hq5
  have FA := Lib.hid FA'
  have FB := Lib.hid FB'
  clear hq4 hq5 FA' FB'
  cases q4 with
  | false =>
    go_enter Try.func6, Try.ntmps6
    go_wp2_with (first
      | (go_at_call 7/-f-/; (with_reducible refine (G1.out _ (HV.out.keep HB0.out)).mono ?_); rintro e w1 ⟨rfl, hb⟩; have H1 := Lib.hid (HB0.out.trans (hb.mono HB0.out.size)); have K1 := BL.out.below hb BL.out.lt; have d0 := K1.cell 0; have d1 := K1.cell 1; have d2 := K1.cell 2; have d3 := K1.cell 3; have d4 := K1.cell 4; have d5 := K1.cell 5; have dl := K1.lt; simp only [List.getElem?_toArray, List.getElem?_cons_zero, List.getElem?_cons_succ] at d0 d1 d2 d3 d4 d5; have HK1 := Lib.hid K1; clear K1; clear hb)
      | (go_at_call 19/-f-/; (with_reducible refine (GA.out _ (HA.out.keep H1.out)).mono ?_); rintro e wx ⟨rfl, rfl⟩)
      | (go_at_call 19/-f-/; (with_reducible refine (GB.out _ (HB.out.keep H1.out)).mono ?_); rintro e wx ⟨rfl, rfl⟩)
      | (go_at_call 23/-f-/; (with_reducible refine (FA.out _ (HV.out.keep H1.out) (HA.out.keep H1.out)).mono ?_); rintro e w2 ⟨rfl, hb⟩; have H2 := Lib.hid (H1.out.trans (hb.mono H1.out.size)); have K2 := HK1.out.below hb HK1.out.lt; have e0 := K2.cell 0; have e1 := K2.cell 1; have e2 := K2.cell 2; have e3 := K2.cell 3; have e4 := K2.cell 4; have e5 := K2.cell 5; have el := K2.lt; simp only [List.getElem?_toArray, List.getElem?_cons_zero, List.getElem?_cons_succ] at e0 e1 e2 e3 e4 e5; have HK2 := Lib.hid K2; clear K2; clear hb)
      | (go_at_call 23/-f-/; (with_reducible refine (FB.out _ (HV.out.keep H2.out) (HB.out.keep H2.out)).mono ?_); rintro e w3 ⟨rfl, hb⟩; have H3 := Lib.hid (H2.out.trans (hb.mono H2.out.size)); have K3 := HK2.out.below hb HK2.out.lt; have f0 := K3.cell 0; have f1 := K3.cell 1; have f2 := K3.cell 2; have f3 := K3.cell 3; have f4 := K3.cell 4; have f5 := K3.cell 5; have fl := K3.lt; simp only [List.getElem?_toArray, List.getElem?_cons_zero, List.getElem?_cons_succ] at f0 f1 f2 f3 f4 f5; have HK3 := Lib.hid K3; clear K3; clear hb)
      | (go_at_call 8/-f-/; (with_reducible refine (awake_any _).mono ?_); rintro e w9 ⟨rfl, hb⟩; have H9 := Lib.hid (show Below w.heap.size w w9 from by first | exact H3.out.trans (hb.mono H3.out.size) | exact H2.out.trans (hb.mono H2.out.size) | exact H1.out.trans (hb.mono H1.out.size)); clear hb))
    go_ret
    exact ⟨rfl, H9.out⟩
  | true =>
  cases q5 with
  | false =>
    go_enter Try.func6, Try.ntmps6
    go_wp2_with (first
      | (go_at_call 7/-f-/; (with_reducible refine (G1.out _ (HV.out.keep HB0.out)).mono ?_); rintro e w1 ⟨rfl, hb⟩; have H1 := Lib.hid (HB0.out.trans (hb.mono HB0.out.size)); have K1 := BL.out.below hb BL.out.lt; have d0 := K1.cell 0; have d1 := K1.cell 1; have d2 := K1.cell 2; have d3 := K1.cell 3; have d4 := K1.cell 4; have d5 := K1.cell 5; have dl := K1.lt; simp only [List.getElem?_toArray, List.getElem?_cons_zero, List.getElem?_cons_succ] at d0 d1 d2 d3 d4 d5; have HK1 := Lib.hid K1; clear K1; clear hb)
      | (go_at_call 19/-f-/; (with_reducible refine (GA.out _ (HA.out.keep H1.out)).mono ?_); rintro e wx ⟨rfl, rfl⟩)
      | (go_at_call 19/-f-/; (with_reducible refine (GB.out _ (HB.out.keep H1.out)).mono ?_); rintro e wx ⟨rfl, rfl⟩)
      | (go_at_call 23/-f-/; (with_reducible refine (FA.out _ (HV.out.keep H1.out) (HA.out.keep H1.out)).mono ?_); rintro e w2 ⟨rfl, hb⟩; have H2 := Lib.hid (H1.out.trans (hb.mono H1.out.size)); have K2 := HK1.out.below hb HK1.out.lt; have e0 := K2.cell 0; have e1 := K2.cell 1; have e2 := K2.cell 2; have e3 := K2.cell 3; have e4 := K2.cell 4; have e5 := K2.cell 5; have el := K2.lt; simp only [List.getElem?_toArray, List.getElem?_cons_zero, List.getElem?_cons_succ] at e0 e1 e2 e3 e4 e5; have HK2 := Lib.hid K2; clear K2; clear hb)
      | (go_at_call 23/-f-/; (with_reducible refine (FB.out _ (HV.out.keep H2.out) (HB.out.keep H2.out)).mono ?_); rintro e w3 ⟨rfl, hb⟩; have H3 := Lib.hid (H2.out.trans (hb.mono H2.out.size)); have K3 := HK2.out.below hb HK2.out.lt; have f0 := K3.cell 0; have f1 := K3.cell 1; have f2 := K3.cell 2; have f3 := K3.cell 3; have f4 := K3.cell 4; have f5 := K3.cell 5; have fl := K3.lt; simp only [List.getElem?_toArray, List.getElem?_cons_zero, List.getElem?_cons_succ] at f0 f1 f2 f3 f4 f5; have HK3 := Lib.hid K3; clear K3; clear hb)
      | (go_at_call 8/-f-/; (with_reducible refine (awake_any _).mono ?_); rintro e w9 ⟨rfl, hb⟩; have H9 := Lib.hid (show Below w.heap.size w w9 from by first | exact H3.out.trans (hb.mono H3.out.size) | exact H2.out.trans (hb.mono H2.out.size) | exact H1.out.trans (hb.mono H1.out.size)); clear hb))
    go_ret
    exact ⟨rfl, H9.out⟩
  | true =>
  have h4 := HQ4.out.symm
  have h5 := HQ5.out.symm
  rw [Bool.and_eq_true] at h4 h5
  have HP := Lib.hid (schB_parts h4.1)
  have TA := Lib.hid (fits_two h4.2)
  have TB := Lib.hid (fits_two h5.2)
  have hi1' := HP.out.i1
  have hi4' := HP.out.i4
  obtain ⟨p, hp⟩ : ∃ p : Nat, p = ((i % 18446744073709551616) % s.idx.length).toNat := ⟨_, rfl⟩
  have hpl : p < s.idx.length := by have := Int.emod_lt_of_pos (i % 18446744073709551616) (show (0 : Int) < s.idx.length by omega); have := Int.emod_nonneg (i % 18446744073709551616) (show (s.idx.length : Int) ≠ 0 by omega); omega
  have hpv : ((i % 18446744073709551616) % s.idx.length) = p := by have := Int.emod_nonneg (i % 18446744073709551616) (show (s.idx.length : Int) ≠ 0 by omega); omega
  have HHAS : hasB s p = true := by unfold hasB; rw [decide_eq_true (show (0 : Int) ≤ p by omega), decide_eq_true (show (p : Int) < s.idx.length by omega)]; rfl
  have KA' := fun W hW hW2 => skey_any (.agg #[.string s.nm, .slice I s.cols.length c1, .slice J s.idx.length c2, .int .i64 s.limit, .int .i64 s.parts, .int .i64 s.by_]) s p A us.length c us W hW HF.out hW2 rfl HFA.out HAN.out.2 (by omega) (by omega) (by omega)
  have KB' := fun W hW hW2 => skey_any (.agg #[.string s.nm, .slice I s.cols.length c1, .slice J s.idx.length c2, .int .i64 s.limit, .int .i64 s.parts, .int .i64 s.by_]) s p B bs.length d bs W hW HF.out hW2 rfl HFB.out HBN.out.2 (by omega) (by omega) (by omega)
  have eA : keyE s p us = 0 := by unfold keyE; rw [h4.1, HHAS, h4.2]; rfl
  have eB : keyE s p bs = 0 := by unfold keyE; rw [h4.1, HHAS, h5.2]; rfl
  have sA : keyS s p us = ⟨(keyX s.idx p us).toArray⟩ := by unfold keyS; rw [h4.1, HHAS, h4.2]; rfl
  have sB : keyS s p bs = ⟨(keyX s.idx p bs).toArray⟩ := by unfold keyS; rw [h4.1, HHAS, h5.2]; rfl
  have hca := (HP.out.ix _ (getD_in s.idx p hpl)).2
  have hcb := (HP.out.ix _ (getD_in s.idx p hpl)).2
  have hc0a := (HP.out.ix _ (getD_in s.idx 0 (by omega))).2
  have hc0b := hc0a
  rw [← TA.out.1] at hca hc0a
  rw [← TB.out.1] at hcb hc0b
  have hW := way_keys s.idx p us bs HFA.out HFB.out TA.out.2 TB.out.2 hca hcb
  rw [eA, sA] at KA'
  rw [eB, sB] at KB'
  have lA := keyU_len us (s.idx.getD p default) HAN.out.2 (by have := (HP.out.ix _ (getD_in s.idx p hpl)).1; omega)
  clear eA eB sA sB
  generalize (⟨(keyX s.idx p us).toArray⟩ : ByteArray) = x at *
  generalize (⟨(keyX s.idx p bs).toArray⟩ : ByteArray) = y at *
  have KA := Lib.hid KA'
  have KB := Lib.hid KB'
  have hpc := (HP.out.ix _ (getD_in s.idx p hpl)).1
  have hqc := (HP.out.ix _ (getD_in s.idx 0 (by omega))).1
  have hfp := (HF.out.idx _ (getD_in s.idx p hpl)).cols
  have hfq := (HF.out.idx _ (getD_in s.idx 0 (by omega))).cols
  rcases HI.out with h | ⟨b, off, rfl, hbw, hcell⟩
  · rw [h] at hpl; simp at hpl
  obtain ⟨Ap, kp, x0, x1, HXP, _⟩ := hcell p hpl
  obtain ⟨Aq, kq, z0, _, HXQ, _⟩ := hcell 0 (by omega)
  rw [Nat.zero_mul, Nat.add_zero] at z0
  have hl := hW.lss
  have he := hW.eql
  have hr := hW.rng
  unfold wayF at hl he hr
  clear hcell KA' KB' HHAS h4 h5 hW lA HQ4 HQ5
  have HCA := Lib.hid hca
  have HCB := Lib.hid hcb
  have HC0A := Lib.hid hc0a
  have HC0B := Lib.hid hc0b
  clear hca hcb hc0a hc0b
  generalize s.idx.getD p default = X at *
  generalize s.idx.getD 0 default = Z at *
  obtain ⟨X, uq⟩ := X
  obtain ⟨Z, uz⟩ := Z
  simp only at x0 x1 z0 HXP HXQ hl he hr hpc hqc hfp hfq HCA HCB HC0A HC0B
  have Ppa := Lib.hid (fun W (hW : Below w.heap.size w W) => pick_any A Ap us.length c X.length kp us X W (HA.out.keep hW) (HXP.keep hW) rfl rfl hfp (by omega) (by omega))
  have Ppb := Lib.hid (fun W (hW : Below w.heap.size w W) => pick_any B Ap bs.length d X.length kp bs X W (HB.out.keep hW) (HXP.keep hW) rfl rfl hfp (by omega) (by omega))
  have Pqa := Lib.hid (fun W (hW : Below w.heap.size w W) => pick_any A Aq us.length c Z.length kq us Z W (HA.out.keep hW) (HXQ.keep hW) rfl rfl hfq (by omega) (by omega))
  have Pqb := Lib.hid (fun W (hW : Below w.heap.size w W) => pick_any B Aq bs.length d Z.length kq bs Z W (HB.out.keep hW) (HXQ.keep hW) rfl rfl hfq (by omega) (by omega))
  have L1 := pick_len us X
  have L2 := pick_len bs X
  have L3 := pick_len us Z
  have L4 := pick_len bs Z
  generalize pickL us X = pa at *
  generalize pickL bs X = pb at *
  generalize pickL us Z = qa at *
  generalize pickL bs Z = qb at *
  have Rp' := fun W A6 A7 k6 k7 hW hW2 => refrows_any A6 A7 pa.length k6 pb.length k7 pa pb W hW hW2 rfl rfl (by omega) (by omega)
  have Rq' := fun W A6 A7 k6 k7 hW hW2 => refrows_any A6 A7 qa.length k6 qb.length k7 qa qb W hW hW2 rfl rfl (by omega) (by omega)
  generalize valRows pa pb = W1 at *
  generalize valRows qa qb = W0 at *
  have Rp := Lib.hid Rp'
  have Rq := Lib.hid Rq'
  have HL := Lib.hid hl
  have HE := Lib.hid he
  have HRN := Lib.hid hr
  have X0 := Lib.hid x0
  have X1 := Lib.hid x1
  have Z0 := Lib.hid z0
  have hpv0 : wrap64 ((IntKind.u64.wrap i).tmod (s.idx.length : Int)) = (p : Int) := by
    rw [IntKind.wrap_u64, Int.tmod_eq_emod_of_nonneg (by omega), hpv]; unfold wrap64; omega
  have HPV := Lib.hid hpv0
  clear Rp' Rq' HXP HXQ hl he hr hfp hfq x0 x1 z0 hpv0 hp hpv
  go_enter Try.func6, Try.ntmps6
  go_upto_region 3 with (first
      | (go_at_call 7/-f-/; (with_reducible refine (G1.out _ (HV.out.keep HB0.out)).mono ?_); rintro e w1 ⟨rfl, hb⟩; have H1 := Lib.hid (HB0.out.trans (hb.mono HB0.out.size)); have K1 := BL.out.below hb BL.out.lt; have d0 := K1.cell 0; have d1 := K1.cell 1; have d2 := K1.cell 2; have d3 := K1.cell 3; have d4 := K1.cell 4; have d5 := K1.cell 5; have dl := K1.lt; simp only [List.getElem?_toArray, List.getElem?_cons_zero, List.getElem?_cons_succ] at d0 d1 d2 d3 d4 d5; have HK1 := Lib.hid K1; clear K1; clear hb)
      | (go_at_call 19/-f-/; (with_reducible refine (GA.out _ (HA.out.keep H1.out)).mono ?_); rintro e wx ⟨rfl, rfl⟩)
      | (go_at_call 19/-f-/; (with_reducible refine (GB.out _ (HB.out.keep H1.out)).mono ?_); rintro e wx ⟨rfl, rfl⟩)
      | (go_at_call 23/-f-/; (with_reducible refine (FA.out _ (HV.out.keep H1.out) (HA.out.keep H1.out)).mono ?_); rintro e w2 ⟨rfl, hb⟩; have H2 := Lib.hid (H1.out.trans (hb.mono H1.out.size)); have K2 := HK1.out.below hb HK1.out.lt; have e0 := K2.cell 0; have e1 := K2.cell 1; have e2 := K2.cell 2; have e3 := K2.cell 3; have e4 := K2.cell 4; have e5 := K2.cell 5; have el := K2.lt; simp only [List.getElem?_toArray, List.getElem?_cons_zero, List.getElem?_cons_succ] at e0 e1 e2 e3 e4 e5; have HK2 := Lib.hid K2; clear K2; clear hb)
      | (go_at_call 23/-f-/; (with_reducible refine (FB.out _ (HV.out.keep H2.out) (HB.out.keep H2.out)).mono ?_); rintro e w3 ⟨rfl, hb⟩; have H3 := Lib.hid (H2.out.trans (hb.mono H2.out.size)); have K3 := HK2.out.below hb HK2.out.lt; have f0 := K3.cell 0; have f1 := K3.cell 1; have f2 := K3.cell 2; have f3 := K3.cell 3; have f4 := K3.cell 4; have f5 := K3.cell 5; have fl := K3.lt; simp only [List.getElem?_toArray, List.getElem?_cons_zero, List.getElem?_cons_succ] at f0 f1 f2 f3 f4 f5; have HK3 := Lib.hid K3; clear K3; clear hb))
  go_upto_region 4 with fail
  rw [HPV.out]
  have hpi : (p : Int) < s.idx.length := by omega
  go_upto_region 6 with (first
      | (go_at_call 20/-f-/; (with_reducible refine (KA.out _ (HV.out.keep H3.out) (HA.out.keep H3.out)).mono ?_); rintro e w4 ⟨rfl, hb⟩; have H4 := Lib.hid (H3.out.trans (hb.mono H3.out.size)); have K4 := HK3.out.below hb HK3.out.lt; have g0 := K4.cell 0; have g1 := K4.cell 1; have g2 := K4.cell 2; have g3 := K4.cell 3; have g4 := K4.cell 4; have g5 := K4.cell 5; have gl := K4.lt; simp only [List.getElem?_toArray, List.getElem?_cons_zero, List.getElem?_cons_succ] at g0 g1 g2 g3 g4 g5; have HK4 := Lib.hid K4; clear K4; clear hb)
      | (go_at_call 20/-f-/; (with_reducible refine (KB.out _ (HV.out.keep H4.out) (HB.out.keep H4.out)).mono ?_); rintro e w5 ⟨rfl, hb⟩; have H5 := Lib.hid (H4.out.trans (hb.mono H4.out.size)); have K5 := HK4.out.below hb HK4.out.lt; have h0 := K5.cell 0; have h1 := K5.cell 1; have h2 := K5.cell 2; have h3 := K5.cell 3; have h4 := K5.cell 4; have h5 := K5.cell 5; have hl := K5.lt; simp only [List.getElem?_toArray, List.getElem?_cons_zero, List.getElem?_cons_succ] at h0 h1 h2 h3 h4 h5; have HK5 := Lib.hid K5; clear K5; clear hb))
  have s2 := h2
  have slt := hl
  have sx := (H5.out.cell (p := ⟨b, off + p * 2, none⟩) hbw).trans X0.out
  have sbl : b < w5.heap.size := Nat.lt_of_lt_of_le hbw H5.out.size
  clear h0 h1 h2 h3 h4 h5 hl g0 g1 g2 g3 g4 g5 gl f0 f1 f2 f3 f4 f5 fl e0 e1 e2 e3 e4 e5 el d0 d1 d2 d3 d4 d5 dl
  go_cut [14] (fun t wx => t = .int .i64 W1 ∧ Below w.heap.size w wx ∧ Blk wx w.heap.size 25 #[.string s.nm, .slice I s.cols.length c1, .slice (some ⟨b, off, none⟩) s.idx.length c2, .int .i64 s.limit, .int .i64 s.parts, .int .i64 s.by_])
  case first =>
    go_region_held3 (fun W => W.cell? ⟨w.heap.size, 2, none⟩ = some (.slice (some ⟨b, off, none⟩) s.idx.length c2) ∧ W.cell? ⟨b, off + p * 2, none⟩ = some (.slice Ap X.length kp))
      (first | exact ⟨s2, sx⟩ | exact ⟨d2, dx⟩ | exact ⟨e2, ex⟩ | exact ⟨f2, fx⟩)
      (first
      | (go_at_call 26/-f-/; (with_reducible refine (Ppa.out _ H5.out.drew).mono ?_); rintro e w6 ⟨⟨u, rfl, hu⟩, hb⟩; obtain ⟨A6, k6, rfl, hv6, _⟩ := hu.vals; have H6 := Lib.hid (show Below w.heap.size w w6 from H5.out.drew.trans (hb.mono H5.out.drew.size)); have HV6 := Lib.hid hv6; have d2 := (hb.cell (p := ⟨w.heap.size, 2, none⟩) slt).trans s2; have dx := (hb.cell (p := ⟨b, off + p * 2, none⟩) sbl).trans sx; have dlt := Nat.lt_of_lt_of_le slt hb.size; have dbl := Nat.lt_of_lt_of_le sbl hb.size; have HI2 := Lib.hid ((show Blk w5.drew w.heap.size 25 #[.string s.nm, .slice I s.cols.length c1, .slice (some ⟨b, off, none⟩) s.idx.length c2, .int .i64 s.limit, .int .i64 s.parts, .int .i64 s.by_] from HK5.out).below hb HK5.out.lt); clear hu hb hv6)
      | (go_at_call 26/-f-/; (with_reducible refine (Ppb.out _ H6.out).mono ?_); rintro e w7 ⟨⟨u, rfl, hu⟩, hb⟩; obtain ⟨A7, k7, rfl, hv7, _⟩ := hu.vals; have H7 := Lib.hid (H6.out.trans (hb.mono H6.out.size)); have HV7 := Lib.hid hv7; have HV67 := Lib.hid (HV6.out.keep hb); have e2 := (hb.cell (p := ⟨w.heap.size, 2, none⟩) dlt).trans d2; have ex := (hb.cell (p := ⟨b, off + p * 2, none⟩) dbl).trans dx; have elt := Nat.lt_of_lt_of_le dlt hb.size; have ebl := Nat.lt_of_lt_of_le dbl hb.size; have HI3 := Lib.hid (HI2.out.below hb HI2.out.lt); clear hu hb hv7)
      | (go_at_call 29/-f-/; (with_reducible refine (Rp.out _ A6 A7 k6 k7 HV67.out HV7.out).mono ?_); rintro e w8 ⟨rfl, hb⟩; have H8' := Lib.hid (show Below w.heap.size w w8 from H7.out.trans (hb.mono H7.out.size)); have f2 := (hb.cell (p := ⟨w.heap.size, 2, none⟩) elt).trans e2; have fx := (hb.cell (p := ⟨b, off + p * 2, none⟩) ebl).trans ex; have flt := Nat.lt_of_lt_of_le elt hb.size; have fbl := Nat.lt_of_lt_of_le ebl hb.size; have HI4 := Lib.hid (HI3.out.below hb HI3.out.lt); clear hb))
    all_goals
      go_wp2_with fail
      go_meet
      exact ⟨rfl, H8'.out, HI4.out⟩
  case rest =>
    obtain ⟨rfl, hbx, hbk⟩ := hcut
    have H8 := Lib.hid hbx
    have HK8 := Lib.hid hbk
    have j2 := hbk.cell 2
    have jl := hbk.lt
    simp only [List.getElem?_toArray, List.getElem?_cons_zero, List.getElem?_cons_succ] at j2
    have jx := (hbx.cell (p := ⟨b, off + p * 2 + 1, none⟩) hbw).trans X1.out
    have jz := (hbx.cell (p := ⟨b, off, none⟩) hbw).trans Z0.out
    have jb := Nat.lt_of_lt_of_le hbw hbx.size
    clear hbx hbk
    have hl := HL.out
    have he := HE.out
    have hr := HRN.out
    clear s2 slt sx sbl
    by_cases h0 : W1 = 0
    · subst h0
      cases uq with
      | false =>
        rw [if_pos ⟨rfl, rfl⟩] at hl he hr
        go_upto_region 8 with fail
        have hz00 : 0 < s.idx.length := by omega
        have hz01 := len_ne s.idx hz00
        have s2 := j2
        have slt := jl
        have sx := jz
        have sbl := jb
        go_cut [14] (fun t wx => t = .int .i64 W0 ∧ Below w.heap.size w wx)
        case first =>
          go_region_held3 (fun W => W.cell? ⟨w.heap.size, 2, none⟩ = some (.slice (some ⟨b, off, none⟩) s.idx.length c2) ∧ W.cell? ⟨b, off, none⟩ = some (.slice Aq Z.length kq))
      (first | exact ⟨s2, sx⟩ | exact ⟨d2, dx⟩ | exact ⟨e2, ex⟩ | exact ⟨f2, fx⟩)
      (first
      | (go_at_call 26/-f-/; (with_reducible refine (Pqa.out _ H8.out.drew).mono ?_); rintro e w6 ⟨⟨u, rfl, hu⟩, hb⟩; obtain ⟨A6, k6, rfl, hv6, _⟩ := hu.vals; have H6 := Lib.hid (show Below w.heap.size w w6 from H8.out.drew.trans (hb.mono H8.out.drew.size)); have HV6 := Lib.hid hv6; have d2 := (hb.cell (p := ⟨w.heap.size, 2, none⟩) slt).trans s2; have dx := (hb.cell (p := ⟨b, off, none⟩) sbl).trans sx; have dlt := Nat.lt_of_lt_of_le slt hb.size; have dbl := Nat.lt_of_lt_of_le sbl hb.size; have HI2 := Lib.hid ((show Blk wc.drew w.heap.size 25 #[.string s.nm, .slice I s.cols.length c1, .slice (some ⟨b, off, none⟩) s.idx.length c2, .int .i64 s.limit, .int .i64 s.parts, .int .i64 s.by_] from HK8.out).below hb HK8.out.lt); clear hu hb hv6)
      | (go_at_call 26/-f-/; (with_reducible refine (Pqb.out _ H6.out).mono ?_); rintro e w7 ⟨⟨u, rfl, hu⟩, hb⟩; obtain ⟨A7, k7, rfl, hv7, _⟩ := hu.vals; have H7 := Lib.hid (H6.out.trans (hb.mono H6.out.size)); have HV7 := Lib.hid hv7; have HV67 := Lib.hid (HV6.out.keep hb); have e2 := (hb.cell (p := ⟨w.heap.size, 2, none⟩) dlt).trans d2; have ex := (hb.cell (p := ⟨b, off, none⟩) dbl).trans dx; have elt := Nat.lt_of_lt_of_le dlt hb.size; have ebl := Nat.lt_of_lt_of_le dbl hb.size; have HI3 := Lib.hid (HI2.out.below hb HI2.out.lt); clear hu hb hv7)
      | (go_at_call 29/-f-/; (with_reducible refine (Rq.out _ A6 A7 k6 k7 HV67.out HV7.out).mono ?_); rintro e w8 ⟨rfl, hb⟩; have H8' := Lib.hid (show Below w.heap.size w w8 from H7.out.trans (hb.mono H7.out.size)); have f2 := (hb.cell (p := ⟨w.heap.size, 2, none⟩) elt).trans e2; have fx := (hb.cell (p := ⟨b, off, none⟩) ebl).trans ex; have flt := Nat.lt_of_lt_of_le elt hb.size; have fbl := Nat.lt_of_lt_of_le ebl hb.size; have HI4 := Lib.hid (HI3.out.below hb HI3.out.lt); clear hb))
          all_goals
            go_wp2_with fail
            go_meet
            exact ⟨rfl, H8'.out⟩
        case rest =>
          obtain ⟨rfl, hbx⟩ := hcut
          have H8' := Lib.hid hbx
          clear hbx
          rcases hr with rfl | rfl | rfl
          all_goals
            simp only [show ((-1 : Int) < 0) = True from by simp, show ((0 : Int) < 0) = False from by simp, show ((1 : Int) < 0) = False from by simp, show ((-1 : Int) = 0) = False from by simp, show ((0 : Int) = 0) = True from by simp, show ((1 : Int) = 0) = False from by simp, decide_true, decide_false] at hl he
            go_wp2_with (go_at_call 8/-f-/; (with_reducible refine (awake_any _).mono ?_); rintro e w9 ⟨rfl, hb⟩; have H9 := Lib.hid (show Below w.heap.size w w9 from by first | exact H8'.out.trans (hb.mono H8'.out.size)); clear hb)
            go_ret
            exact ⟨rfl, H9.out⟩
      | true =>
        rw [if_neg (by simp)] at hl he hr
        simp only [show ((-1 : Int) < 0) = True from by simp, show ((0 : Int) < 0) = False from by simp, show ((1 : Int) < 0) = False from by simp, show ((-1 : Int) = 0) = False from by simp, show ((0 : Int) = 0) = True from by simp, show ((1 : Int) = 0) = False from by simp, decide_true, decide_false] at hl he
        go_wp2_with (go_at_call 8/-f-/; (with_reducible refine (awake_any _).mono ?_); rintro e w9 ⟨rfl, hb⟩; have H9 := Lib.hid (show Below w.heap.size w w9 from by first | exact H8.out.trans (hb.mono H8.out.size)); clear hb)
        go_ret
        exact ⟨rfl, H9.out⟩
    · rw [if_neg (by rintro ⟨h1, _⟩; exact h0 h1)] at hl he hr
      rcases hr with rfl | rfl | rfl
      · simp only [show ((-1 : Int) < 0) = True from by simp, show ((0 : Int) < 0) = False from by simp, show ((1 : Int) < 0) = False from by simp, show ((-1 : Int) = 0) = False from by simp, show ((0 : Int) = 0) = True from by simp, show ((1 : Int) = 0) = False from by simp, decide_true, decide_false] at hl he
        go_wp2_with (go_at_call 8/-f-/; (with_reducible refine (awake_any _).mono ?_); rintro e w9 ⟨rfl, hb⟩; have H9 := Lib.hid (show Below w.heap.size w w9 from by first | exact H8.out.trans (hb.mono H8.out.size)); clear hb)
        go_ret
        exact ⟨rfl, H9.out⟩
      · exact absurd rfl h0
      · simp only [show ((-1 : Int) < 0) = True from by simp, show ((0 : Int) < 0) = False from by simp, show ((1 : Int) < 0) = False from by simp, show ((-1 : Int) = 0) = False from by simp, show ((0 : Int) = 0) = True from by simp, show ((1 : Int) = 0) = False from by simp, decide_true, decide_false] at hl he
        go_wp2_with (go_at_call 8/-f-/; (with_reducible refine (awake_any _).mono ?_); rintro e w9 ⟨rfl, hb⟩; have H9 := Lib.hid (show Below w.heap.size w w9 from by first | exact H8.out.trans (hb.mono H8.out.size)); clear hb)
        go_ret
        exact ⟨rfl, H9.out⟩
theorem own : ownKnob Try.prog.godebug = none := by kernel_rfl
theorem laidOut : laidOutB Try.prog = true := by kernel_rfl
set_option maxRecDepth 100000 in
theorem lifted (os : Os) (started : os.Started) (H : Type) (enc : TypeId × Value → H) :
    ReturnsInHanded {} Try.checked os 6 .any (Rows.schemaStandsSpec.pre6 enc Try.prog Try.f6 Rows.schemaStandsRow.domain false) (Rows.schemaStandsSpec.post enc Try.prog Try.f6 false true false false) := by
  refine returnsInHanded_of_change (C := Try.checked) own started (by kernel_rfl) Try.func6
    (ChangeSpec.witness6 (enc := enc) (C := Try.checked) false ⟨#[], #[.agg #[.string ⟨#[]⟩, .slice none 0 0, .slice none 0 0, .int .i64 0, .int .i64 0, .int .i64 0], .slice none 0 0, .slice none 0 0, .int .i64 0], []⟩ 8 (by kernel_rfl) (by kernel_rfl) (by kernel_rfl) (by kernel_rfl)) ?_
  intro W base args ds gs before hval0 hW hcnd _
  have hval : ∀ (j : Nat) t v, Try.f6.params[j]? = some t → args[j]? = some v → Value.okWide Try.prog W .any base t v := hval0
  have hW' := hW
  obtain ⟨p, q, hA0, hV, rfl, hfz, hnd⟩ := hW
  have hA : DataW.TrodAll enc Try.prog W 0 (fun _ => true) true Try.f6.params.toList args.toList ds p := hA0
  rw [Try.params6] at hA hval
  obtain ⟨v0, vs0, d0, ds0, p0, q0, hargs, rfl, rfl, h0, r0⟩ := trodAll_cons hA
  obtain ⟨v1, vs1, d1, ds1, p1, q1, rfl, rfl, rfl, h1, r1⟩ := trodAll_cons r0
  obtain ⟨v2, vs2, d2, ds2, p2, q2, rfl, rfl, rfl, h2, r2⟩ := trodAll_cons r1
  obtain ⟨v3, vs3, d3, ds3, p3, q3, rfl, rfl, rfl, h3, r3⟩ := trodAll_cons r2
  obtain ⟨rfl, rfl, rfl⟩ := trodAll_nil r3
  obtain rfl : args = #[v0, v1, v2, v3] := by cases args; simp_all
  obtain ⟨rfl, rfl⟩ := trodVars_none hV
  have k0 := h0
  have lt0 : ∀ x ∈ p0, x.block < W.heap.size := by obtain ⟨m, hm⟩ := k0; exact DataW.trod_lt m _ _ _ hm
  obtain ⟨s0, S0, f0⟩ := open_sch (hval 0 25 v0 rfl rfl) h0
  obtain ⟨a1, len1, cap1, rfl⟩ := okWide_slice Try.underlying35 (hval 1 35 v1 rfl rfl)
  have k1 := h1
  have lt1 : ∀ x ∈ p1, x.block < W.heap.size := by obtain ⟨m, hm⟩ := k1; exact DataW.trod_lt m _ _ _ hm
  obtain ⟨fuel1, hf1⟩ := h1
  have hg1 : DataW.trod enc Try.prog W 0 (fun _ => true) true fuel1 35 [.slice a1 len1 cap1] = some (d1, p1) := by simpa [Value.cells] using hf1
  have o1 := open_vals hg1
  obtain ⟨le1, lc1, vs1, ln1, V1, ff1⟩ := o1
  obtain ⟨a2, len2, cap2, rfl⟩ := okWide_slice Try.underlying35 (hval 2 35 v2 rfl rfl)
  have k2 := h2
  have lt2 : ∀ x ∈ p2, x.block < W.heap.size := by obtain ⟨m, hm⟩ := k2; exact DataW.trod_lt m _ _ _ hm
  obtain ⟨fuel2, hf2⟩ := h2
  have hg2 : DataW.trod enc Try.prog W 0 (fun _ => true) true fuel2 35 [.slice a2 len2 cap2] = some (d2, p2) := by simpa [Value.cells] using hf2
  have o2 := open_vals hg2
  obtain ⟨le2, lc2, vs2, ln2, V2, ff2⟩ := o2
  obtain ⟨a3, rfl, rfl, rfl, w3⟩ := open_int Try.underlying3 (hval 3 3 v3 rfl rfl) h3
  have b3 := bounds_i64 w3
  clear hA0 hval0
  refine (walk v0 s0 a1 a2 len1 len2 cap1 cap2 vs1 vs2 a3 W S0 f0 V1 V2 ln1 ln2 ff1 ff2 le1 le2 b3.1 b3.2).mono fun e W' ⟨he, bel⟩ => ?_
  subst he
  exact ⟨_, rfl, _, _, _, [], _, [], hW', trodAll_mk1 (shut_bool Try.underlying4 _), (trodAll_cons_mk (Below.trod laidOut (by kernel_rfl) (of_decide_eq_true (by kernel_rfl)) k0 bel lt0) (trodAll_cons_mk (Below.trod laidOut (by kernel_rfl) (of_decide_eq_true (by kernel_rfl)) k1 bel lt1) (trodAll_cons_mk (Below.trod laidOut (by kernel_rfl) (of_decide_eq_true (by kernel_rfl)) k2 bel lt2) (trodAll_cons_mk (shut_int Try.underlying3 w3) trodAll_mk0)))), rfl, bel.frame _, fun h => by cases h⟩

theorem over : Rows.schemaStandsRow.holds Try.pinned (OpenSpec.ofChange Rows.schemaStandsSpec) :=
  OpenClaim.holds_of_wide 6 Try.f6 rfl rfl rfl rfl rfl rfl rfl ⟨rfl, rfl, rfl, rfl, rfl⟩ rfl rfl rfl rfl rfl (by kernel_rfl) Try.func6 (by kernel_rfl)
    (of_decide_eq_true (by kernel_rfl)) (by unfold Func.isWrapper; first | (rw [if_pos (by decide +kernel)]; kernel_rfl) | (rw [if_neg (by decide +kernel)]; exact ⟨rfl, rfl⟩))
    (fun os started H enc _ => lifted os started H enc)

theorem proved : Rows.SchemaStandsSaid := over

end Go.Proofs.Ytddejkmfffeikaa.SchemaStands

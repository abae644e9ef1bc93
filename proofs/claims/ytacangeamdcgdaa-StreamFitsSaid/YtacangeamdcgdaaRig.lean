/- Contracts of package schema: whether a schema is right, whole. -/
import Derived.Test.YtacangeamdcgdaaUiz
namespace Go.Proofs.Ytacangeamdcgdaa
open Go.ChangeShapes Go.WideShapes Go.ChangeAt Go.RowKit
/-- Whether a schema is right. -/
def schB (s : Sch) : Bool := namB s.nm && colsB s.cols && idxsB s.cols.length s.idx && decide (1 ≤ s.limit) && decide (s.limit ≤ 1000) && decide (1 ≤ s.parts) && decide (s.parts ≤ 8) && decide (0 ≤ s.by_) && decide (s.by_ < s.cols.length)
theorem colsB_len {cs : List Col} (h : colsB cs = true) : 1 ≤ cs.length ∧ cs.length ≤ 8 := by
  unfold colsB at h
  simp only [Bool.and_eq_true, decide_eq_true_eq] at h
  exact h.1.1
set_option maxRecDepth 100000 in
set_option maxHeartbeats 16000000 in
theorem right_sch (v : Value) (s : Sch) (w : World) (hv : SchV w v s) (hf : FitS s) :
    Calls Try.prog 64/-f-/ #[v] w fun e w' => e = .returned (.bool (schB s)) ∧ Below w.heap.size w w' := by
  have HV := Lib.hid hv
  have HF := Lib.hid hf
  obtain ⟨A, B, c, d, rfl, hC, hI, hc, hd⟩ := hv.is
  obtain ⟨nm, cols, is, li, pa, by_⟩ := s
  have hns := hf.nm
  have hcl := hf.clen
  have hcf := Lib.hid hf.cols
  have hli := hf.limit
  have hpa := hf.parts
  have hby := hf.by_
  simp only at hC hI hc hd hns hcl hcf hli hpa hby HV ⊢
  obtain ⟨r, hr⟩ : ∃ r, r = schB ⟨nm, cols, is, li, pa, by_⟩ := ⟨_, rfl⟩
  rw [← hr]
  have HR := Lib.hid hr
  clear hr hf hI
  have HB0 := Lib.hid ((Below.refl w.heap.size w).alloc (Nat.le_refl _) (.cells #[.string nm, .slice A cols.length c, .slice B is.length d, .int .i64 li, .int .i64 pa, .int .i64 by_] 74))
  have BL := Lib.hid (Blk.new w 74 #[.string nm, .slice A cols.length c, .slice B is.length d, .int .i64 li, .int .i64 pa, .int .i64 by_])
  have C1 := Lib.hid (fun W => named_any nm W hns)
  have C2 := Lib.hid (fun W hW => rightCols_any A cols.length c cols W hW rfl hc hcl hcf.out)
  have HC := Lib.hid hC
  clear hC
  obtain ⟨q1, hq1⟩ : ∃ q, q = namB nm := ⟨_, rfl⟩
  obtain ⟨q2, hq2⟩ : ∃ q, q = colsB cols := ⟨_, rfl⟩
  rw [← hq1] at C1
  rw [← hq2] at C2
  have HQ1 := Lib.hid hq1
  have HQ2 := Lib.hid hq2
  clear hq1 hq2
  cases q1 with
  | false =>
    have HX := Lib.hid (show r = false from by rw [HR.out]; unfold schB; simp only; rw [← HQ1.out]; rfl)
    go_enter Try.func64, Try.ntmps64
    go_wp2_with (first
      | (go_at_call 82/-f-/; refine (C1.out _).mono ?_; rintro e w1 ⟨rfl, rfl⟩))
    go_ret
    exact ⟨ret_bool HX.out.symm, HB0.out⟩
  | true =>
  cases q2 with
  | false =>
    have HX := Lib.hid (show r = false from by rw [HR.out]; unfold schB; simp only; rw [← HQ1.out, ← HQ2.out]; rfl)
    go_enter Try.func64, Try.ntmps64
    go_wp2_with (first
      | (go_at_call 82/-f-/; refine (C1.out _).mono ?_; rintro e w1 ⟨rfl, rfl⟩)
      | (go_at_call 83/-f-/; refine (C2.out _ (HC.out.keep HB0.out)).mono ?_; rintro e w2 ⟨rfl, hb2⟩; have HB2 := Lib.hid (HB0.out.trans (hb2.mono HB0.out.size)); have BL2 := BL.out.below hb2 BL.out.lt; have c0 := BL2.cell 0; have c1 := BL2.cell 1; have c2 := BL2.cell 2; have c3 := BL2.cell 3; have c4 := BL2.cell 4; have c5 := BL2.cell 5; have hlt2 := BL2.lt; simp only [List.getElem?_toArray, List.getElem?_cons_zero, List.getElem?_cons_succ] at c0 c1 c2 c3 c4 c5; have HBL2 := Lib.hid BL2; clear hb2 BL2))
    go_ret
    exact ⟨ret_bool HX.out.symm, HB2.out⟩
  | true =>
  have h8 := colsB_len HQ2.out.symm
  have C3 := Lib.hid (fun W hW => rightIndexes_any (.agg #[.string nm, .slice A cols.length c, .slice B is.length d, .int .i64 li, .int .i64 pa, .int .i64 by_]) ⟨nm, cols, is, li, pa, by_⟩ W hW HF.out (by simp only; omega))
  simp only at C3
  obtain ⟨q3, hq3⟩ : ∃ q, q = idxsB cols.length is := ⟨_, rfl⟩
  rw [← hq3] at C3
  have HQ3 := Lib.hid hq3
  clear hq3
  cases q3 with
  | false =>
    have HX := Lib.hid (show r = false from by rw [HR.out]; unfold schB; simp only; rw [← HQ1.out, ← HQ2.out, ← HQ3.out]; rfl)
    go_enter Try.func64, Try.ntmps64
    go_wp2_with (first
      | (go_at_call 82/-f-/; refine (C1.out _).mono ?_; rintro e w1 ⟨rfl, rfl⟩)
      | (go_at_call 83/-f-/; refine (C2.out _ (HC.out.keep HB0.out)).mono ?_; rintro e w2 ⟨rfl, hb2⟩; have HB2 := Lib.hid (HB0.out.trans (hb2.mono HB0.out.size)); have BL2 := BL.out.below hb2 BL.out.lt; have c0 := BL2.cell 0; have c1 := BL2.cell 1; have c2 := BL2.cell 2; have c3 := BL2.cell 3; have c4 := BL2.cell 4; have c5 := BL2.cell 5; have hlt2 := BL2.lt; simp only [List.getElem?_toArray, List.getElem?_cons_zero, List.getElem?_cons_succ] at c0 c1 c2 c3 c4 c5; have HBL2 := Lib.hid BL2; clear hb2 BL2)
      | (go_at_call 84/-f-/; refine (C3.out _ (HV.out.keep HB2.out)).mono ?_; rintro e w3 ⟨rfl, hb3⟩; have HB3 := Lib.hid (HB2.out.trans (hb3.mono HB2.out.size)); have BL3 := HBL2.out.below hb3 HBL2.out.lt; have d0 := BL3.cell 0; have d1 := BL3.cell 1; have d2 := BL3.cell 2; have d3 := BL3.cell 3; have d4 := BL3.cell 4; have d5 := BL3.cell 5; have hlt3 := BL3.lt; simp only [List.getElem?_toArray, List.getElem?_cons_zero, List.getElem?_cons_succ] at d0 d1 d2 d3 d4 d5; clear hb3 BL3))
    go_ret
    exact ⟨ret_bool HX.out.symm, HB3.out⟩
  | true =>
  have HB := Lib.hid (show r = (decide (1 ≤ li) && decide (li ≤ 1000) && decide (1 ≤ pa) && decide (pa ≤ 8) && decide (0 ≤ by_) && decide (by_ < cols.length)) from by rw [HR.out]; unfold schB; simp only; rw [← HQ1.out, ← HQ2.out, ← HQ3.out]; simp)
  clear HR
  by_cases n0 : 1 ≤ li
  rotate_left
  · have e0 : decide (1 ≤ li) = false := decide_eq_false (by omega)
    have HX := Lib.hid (show r = false from by rw [HB.out]; simp [show ¬ 1 ≤ li by omega])
    go_enter Try.func64, Try.ntmps64
    go_wp2_with (first
      | (go_at_call 82/-f-/; refine (C1.out _).mono ?_; rintro e w1 ⟨rfl, rfl⟩)
      | (go_at_call 83/-f-/; refine (C2.out _ (HC.out.keep HB0.out)).mono ?_; rintro e w2 ⟨rfl, hb2⟩; have HB2 := Lib.hid (HB0.out.trans (hb2.mono HB0.out.size)); have BL2 := BL.out.below hb2 BL.out.lt; have c0 := BL2.cell 0; have c1 := BL2.cell 1; have c2 := BL2.cell 2; have c3 := BL2.cell 3; have c4 := BL2.cell 4; have c5 := BL2.cell 5; have hlt2 := BL2.lt; simp only [List.getElem?_toArray, List.getElem?_cons_zero, List.getElem?_cons_succ] at c0 c1 c2 c3 c4 c5; have HBL2 := Lib.hid BL2; clear hb2 BL2)
      | (go_at_call 84/-f-/; refine (C3.out _ (HV.out.keep HB2.out)).mono ?_; rintro e w3 ⟨rfl, hb3⟩; have HB3 := Lib.hid (HB2.out.trans (hb3.mono HB2.out.size)); have BL3 := HBL2.out.below hb3 HBL2.out.lt; have d0 := BL3.cell 0; have d1 := BL3.cell 1; have d2 := BL3.cell 2; have d3 := BL3.cell 3; have d4 := BL3.cell 4; have d5 := BL3.cell 5; have hlt3 := BL3.lt; simp only [List.getElem?_toArray, List.getElem?_cons_zero, List.getElem?_cons_succ] at d0 d1 d2 d3 d4 d5; clear hb3 BL3))
    go_ret
    exact ⟨ret_bool HX.out.symm, HB3.out⟩
  by_cases n1 : li ≤ 1000
  rotate_left
  · have e1 : decide (li ≤ 1000) = false := decide_eq_false (by omega)
    have HX := Lib.hid (show r = false from by rw [HB.out]; simp [show ¬ li ≤ 1000 by omega])
    go_enter Try.func64, Try.ntmps64
    go_wp2_with (first
      | (go_at_call 82/-f-/; refine (C1.out _).mono ?_; rintro e w1 ⟨rfl, rfl⟩)
      | (go_at_call 83/-f-/; refine (C2.out _ (HC.out.keep HB0.out)).mono ?_; rintro e w2 ⟨rfl, hb2⟩; have HB2 := Lib.hid (HB0.out.trans (hb2.mono HB0.out.size)); have BL2 := BL.out.below hb2 BL.out.lt; have c0 := BL2.cell 0; have c1 := BL2.cell 1; have c2 := BL2.cell 2; have c3 := BL2.cell 3; have c4 := BL2.cell 4; have c5 := BL2.cell 5; have hlt2 := BL2.lt; simp only [List.getElem?_toArray, List.getElem?_cons_zero, List.getElem?_cons_succ] at c0 c1 c2 c3 c4 c5; have HBL2 := Lib.hid BL2; clear hb2 BL2)
      | (go_at_call 84/-f-/; refine (C3.out _ (HV.out.keep HB2.out)).mono ?_; rintro e w3 ⟨rfl, hb3⟩; have HB3 := Lib.hid (HB2.out.trans (hb3.mono HB2.out.size)); have BL3 := HBL2.out.below hb3 HBL2.out.lt; have d0 := BL3.cell 0; have d1 := BL3.cell 1; have d2 := BL3.cell 2; have d3 := BL3.cell 3; have d4 := BL3.cell 4; have d5 := BL3.cell 5; have hlt3 := BL3.lt; simp only [List.getElem?_toArray, List.getElem?_cons_zero, List.getElem?_cons_succ] at d0 d1 d2 d3 d4 d5; clear hb3 BL3))
    go_ret
    exact ⟨ret_bool HX.out.symm, HB3.out⟩
  by_cases n2 : 1 ≤ pa
  rotate_left
  · have e2 : decide (1 ≤ pa) = false := decide_eq_false (by omega)
    have HX := Lib.hid (show r = false from by rw [HB.out]; simp [show ¬ 1 ≤ pa by omega])
    go_enter Try.func64, Try.ntmps64
    go_wp2_with (first
      | (go_at_call 82/-f-/; refine (C1.out _).mono ?_; rintro e w1 ⟨rfl, rfl⟩)
      | (go_at_call 83/-f-/; refine (C2.out _ (HC.out.keep HB0.out)).mono ?_; rintro e w2 ⟨rfl, hb2⟩; have HB2 := Lib.hid (HB0.out.trans (hb2.mono HB0.out.size)); have BL2 := BL.out.below hb2 BL.out.lt; have c0 := BL2.cell 0; have c1 := BL2.cell 1; have c2 := BL2.cell 2; have c3 := BL2.cell 3; have c4 := BL2.cell 4; have c5 := BL2.cell 5; have hlt2 := BL2.lt; simp only [List.getElem?_toArray, List.getElem?_cons_zero, List.getElem?_cons_succ] at c0 c1 c2 c3 c4 c5; have HBL2 := Lib.hid BL2; clear hb2 BL2)
      | (go_at_call 84/-f-/; refine (C3.out _ (HV.out.keep HB2.out)).mono ?_; rintro e w3 ⟨rfl, hb3⟩; have HB3 := Lib.hid (HB2.out.trans (hb3.mono HB2.out.size)); have BL3 := HBL2.out.below hb3 HBL2.out.lt; have d0 := BL3.cell 0; have d1 := BL3.cell 1; have d2 := BL3.cell 2; have d3 := BL3.cell 3; have d4 := BL3.cell 4; have d5 := BL3.cell 5; have hlt3 := BL3.lt; simp only [List.getElem?_toArray, List.getElem?_cons_zero, List.getElem?_cons_succ] at d0 d1 d2 d3 d4 d5; clear hb3 BL3))
    go_ret
    exact ⟨ret_bool HX.out.symm, HB3.out⟩
  by_cases n3 : pa ≤ 8
  rotate_left
  · have e3 : decide (pa ≤ 8) = false := decide_eq_false (by omega)
    have HX := Lib.hid (show r = false from by rw [HB.out]; simp [show ¬ pa ≤ 8 by omega])
    go_enter Try.func64, Try.ntmps64
    go_wp2_with (first
      | (go_at_call 82/-f-/; refine (C1.out _).mono ?_; rintro e w1 ⟨rfl, rfl⟩)
      | (go_at_call 83/-f-/; refine (C2.out _ (HC.out.keep HB0.out)).mono ?_; rintro e w2 ⟨rfl, hb2⟩; have HB2 := Lib.hid (HB0.out.trans (hb2.mono HB0.out.size)); have BL2 := BL.out.below hb2 BL.out.lt; have c0 := BL2.cell 0; have c1 := BL2.cell 1; have c2 := BL2.cell 2; have c3 := BL2.cell 3; have c4 := BL2.cell 4; have c5 := BL2.cell 5; have hlt2 := BL2.lt; simp only [List.getElem?_toArray, List.getElem?_cons_zero, List.getElem?_cons_succ] at c0 c1 c2 c3 c4 c5; have HBL2 := Lib.hid BL2; clear hb2 BL2)
      | (go_at_call 84/-f-/; refine (C3.out _ (HV.out.keep HB2.out)).mono ?_; rintro e w3 ⟨rfl, hb3⟩; have HB3 := Lib.hid (HB2.out.trans (hb3.mono HB2.out.size)); have BL3 := HBL2.out.below hb3 HBL2.out.lt; have d0 := BL3.cell 0; have d1 := BL3.cell 1; have d2 := BL3.cell 2; have d3 := BL3.cell 3; have d4 := BL3.cell 4; have d5 := BL3.cell 5; have hlt3 := BL3.lt; simp only [List.getElem?_toArray, List.getElem?_cons_zero, List.getElem?_cons_succ] at d0 d1 d2 d3 d4 d5; clear hb3 BL3))
    go_ret
    exact ⟨ret_bool HX.out.symm, HB3.out⟩
  by_cases n4 : 0 ≤ by_
  rotate_left
  · have e4 : decide (0 ≤ by_) = false := decide_eq_false (by omega)
    have HX := Lib.hid (show r = false from by rw [HB.out]; simp [show ¬ 0 ≤ by_ by omega])
    go_enter Try.func64, Try.ntmps64
    go_wp2_with (first
      | (go_at_call 82/-f-/; refine (C1.out _).mono ?_; rintro e w1 ⟨rfl, rfl⟩)
      | (go_at_call 83/-f-/; refine (C2.out _ (HC.out.keep HB0.out)).mono ?_; rintro e w2 ⟨rfl, hb2⟩; have HB2 := Lib.hid (HB0.out.trans (hb2.mono HB0.out.size)); have BL2 := BL.out.below hb2 BL.out.lt; have c0 := BL2.cell 0; have c1 := BL2.cell 1; have c2 := BL2.cell 2; have c3 := BL2.cell 3; have c4 := BL2.cell 4; have c5 := BL2.cell 5; have hlt2 := BL2.lt; simp only [List.getElem?_toArray, List.getElem?_cons_zero, List.getElem?_cons_succ] at c0 c1 c2 c3 c4 c5; have HBL2 := Lib.hid BL2; clear hb2 BL2)
      | (go_at_call 84/-f-/; refine (C3.out _ (HV.out.keep HB2.out)).mono ?_; rintro e w3 ⟨rfl, hb3⟩; have HB3 := Lib.hid (HB2.out.trans (hb3.mono HB2.out.size)); have BL3 := HBL2.out.below hb3 HBL2.out.lt; have d0 := BL3.cell 0; have d1 := BL3.cell 1; have d2 := BL3.cell 2; have d3 := BL3.cell 3; have d4 := BL3.cell 4; have d5 := BL3.cell 5; have hlt3 := BL3.lt; simp only [List.getElem?_toArray, List.getElem?_cons_zero, List.getElem?_cons_succ] at d0 d1 d2 d3 d4 d5; clear hb3 BL3))
    go_ret
    exact ⟨ret_bool HX.out.symm, HB3.out⟩
  by_cases n5 : by_ < (cols.length : Int)
  rotate_left
  · have e5 : decide (by_ < (cols.length : Int)) = false := decide_eq_false (by omega)
    have HX := Lib.hid (show r = false from by rw [HB.out]; simp [show ¬ by_ < (cols.length : Int) by omega])
    go_enter Try.func64, Try.ntmps64
    go_wp2_with (first
      | (go_at_call 82/-f-/; refine (C1.out _).mono ?_; rintro e w1 ⟨rfl, rfl⟩)
      | (go_at_call 83/-f-/; refine (C2.out _ (HC.out.keep HB0.out)).mono ?_; rintro e w2 ⟨rfl, hb2⟩; have HB2 := Lib.hid (HB0.out.trans (hb2.mono HB0.out.size)); have BL2 := BL.out.below hb2 BL.out.lt; have c0 := BL2.cell 0; have c1 := BL2.cell 1; have c2 := BL2.cell 2; have c3 := BL2.cell 3; have c4 := BL2.cell 4; have c5 := BL2.cell 5; have hlt2 := BL2.lt; simp only [List.getElem?_toArray, List.getElem?_cons_zero, List.getElem?_cons_succ] at c0 c1 c2 c3 c4 c5; have HBL2 := Lib.hid BL2; clear hb2 BL2)
      | (go_at_call 84/-f-/; refine (C3.out _ (HV.out.keep HB2.out)).mono ?_; rintro e w3 ⟨rfl, hb3⟩; have HB3 := Lib.hid (HB2.out.trans (hb3.mono HB2.out.size)); have BL3 := HBL2.out.below hb3 HBL2.out.lt; have d0 := BL3.cell 0; have d1 := BL3.cell 1; have d2 := BL3.cell 2; have d3 := BL3.cell 3; have d4 := BL3.cell 4; have d5 := BL3.cell 5; have hlt3 := BL3.lt; simp only [List.getElem?_toArray, List.getElem?_cons_zero, List.getElem?_cons_succ] at d0 d1 d2 d3 d4 d5; clear hb3 BL3))
    go_ret
    exact ⟨ret_bool HX.out.symm, HB3.out⟩
  have HX := Lib.hid (show r = true from by rw [HB.out]; simp [n0, n1, n2, n3, n4, n5])
  go_enter Try.func64, Try.ntmps64
  go_wp2_with (first
    | (go_at_call 82/-f-/; refine (C1.out _).mono ?_; rintro e w1 ⟨rfl, rfl⟩)
    | (go_at_call 83/-f-/; refine (C2.out _ (HC.out.keep HB0.out)).mono ?_; rintro e w2 ⟨rfl, hb2⟩; have HB2 := Lib.hid (HB0.out.trans (hb2.mono HB0.out.size)); have BL2 := BL.out.below hb2 BL.out.lt; have c0 := BL2.cell 0; have c1 := BL2.cell 1; have c2 := BL2.cell 2; have c3 := BL2.cell 3; have c4 := BL2.cell 4; have c5 := BL2.cell 5; have hlt2 := BL2.lt; simp only [List.getElem?_toArray, List.getElem?_cons_zero, List.getElem?_cons_succ] at c0 c1 c2 c3 c4 c5; have HBL2 := Lib.hid BL2; clear hb2 BL2)
    | (go_at_call 84/-f-/; refine (C3.out _ (HV.out.keep HB2.out)).mono ?_; rintro e w3 ⟨rfl, hb3⟩; have HB3 := Lib.hid (HB2.out.trans (hb3.mono HB2.out.size)); have BL3 := HBL2.out.below hb3 HBL2.out.lt; have d0 := BL3.cell 0; have d1 := BL3.cell 1; have d2 := BL3.cell 2; have d3 := BL3.cell 3; have d4 := BL3.cell 4; have d5 := BL3.cell 5; have hlt3 := BL3.lt; simp only [List.getElem?_toArray, List.getElem?_cons_zero, List.getElem?_cons_succ] at d0 d1 d2 d3 d4 d5; clear hb3 BL3))
  go_ret
  exact ⟨ret_bool HX.out.symm, HB3.out⟩
end Go.Proofs.Ytacangeamdcgdaa

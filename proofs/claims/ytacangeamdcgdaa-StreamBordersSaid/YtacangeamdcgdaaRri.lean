/- Contracts of the document's schema: whether a schema is right. -/
import Derived.Test.YtacangeamdcgdaaRrp
namespace Go.Proofs.Ytacangeamdcgdaa
open Go.ChangeShapes Go.WideShapes Go.ChangeAt Go.RowKit
set_option maxRecDepth 100000 in
set_option maxHeartbeats 32000000 in
theorem refright_sch (v : Value) (s : Sch) (w : World) (hv : SchV w v s) (hf : FitS s) :
    Calls Try.prog 40/-f-/ #[v] w fun e w' => e = .returned (.bool (schB s)) ∧ Below w.heap.size w w' := by
  obtain ⟨A, B, c, d, rfl, hC, hI, hc, hd⟩ := hv.is
  have hns := hf.nm
  have hcl := hf.clen
  have hil := hf.ilen
  have HFC := Lib.hid hf.cols
  have HFI := Lib.hid hf.idx
  have hli := hf.limit
  have hpa := hf.parts
  have hby := hf.by_
  obtain ⟨r, hr⟩ : ∃ r, r = schB s := ⟨_, rfl⟩
  rw [← hr]
  have HR := Lib.hid hr
  clear hr hv
  have HB0 := Lib.hid ((Below.refl w.heap.size w).alloc (Nat.le_refl _) (.cells #[.string s.nm, .slice A s.cols.length c, .slice B s.idx.length d, .int .i64 s.limit, .int .i64 s.parts, .int .i64 s.by_] 74))
  have C1 := Lib.hid (fun W => refnamed_any s.nm W hns)
  have HC := Lib.hid hC
  clear hC
  obtain ⟨q1, hq1⟩ : ∃ q, q = namB s.nm := ⟨_, rfl⟩
  rw [← hq1] at C1
  have HQ1 := Lib.hid hq1
  clear hq1
  cases q1 with
  | false =>
    have HX := Lib.hid (show r = false from by rw [HR.out]; unfold schB; rw [← HQ1.out]; rfl)
    go_enter Try.func40, Try.ntmps40
    go_wp2_with (go_at_call 66/-f-/; (with_reducible refine (C1.out _).mono ?_); rintro e w1 ⟨rfl, rfl⟩)
    go_ret
    exact ⟨ret_bool HX.out.symm, HB0.out⟩
  | true =>
  by_cases n0 : 1 ≤ s.cols.length
  rotate_left
  · have HX := Lib.hid (show r = false from by rw [HR.out]; unfold schB colsB idxsB; simp [show ¬ 1 ≤ s.cols.length from n0])
    go_enter Try.func40, Try.ntmps40
    go_wp2_with (go_at_call 66/-f-/; (with_reducible refine (C1.out _).mono ?_); rintro e w1 ⟨rfl, rfl⟩)
    go_ret
    exact ⟨ret_bool HX.out.symm, HB0.out⟩
  by_cases n1 : s.cols.length ≤ 8
  rotate_left
  · have HX := Lib.hid (show r = false from by rw [HR.out]; unfold schB colsB idxsB; simp [show ¬ s.cols.length ≤ 8 from n1])
    go_enter Try.func40, Try.ntmps40
    go_wp2_with (go_at_call 66/-f-/; (with_reducible refine (C1.out _).mono ?_); rintro e w1 ⟨rfl, rfl⟩)
    go_ret
    exact ⟨ret_bool HX.out.symm, HB0.out⟩
  by_cases n2 : 1 ≤ s.idx.length
  rotate_left
  · have HX := Lib.hid (show r = false from by rw [HR.out]; unfold schB colsB idxsB; simp [show ¬ 1 ≤ s.idx.length from n2])
    go_enter Try.func40, Try.ntmps40
    go_wp2_with (go_at_call 66/-f-/; (with_reducible refine (C1.out _).mono ?_); rintro e w1 ⟨rfl, rfl⟩)
    go_ret
    exact ⟨ret_bool HX.out.symm, HB0.out⟩
  by_cases n3 : s.idx.length ≤ 4
  rotate_left
  · have HX := Lib.hid (show r = false from by rw [HR.out]; unfold schB colsB idxsB; simp [show ¬ s.idx.length ≤ 4 from n3])
    go_enter Try.func40, Try.ntmps40
    go_wp2_with (go_at_call 66/-f-/; (with_reducible refine (C1.out _).mono ?_); rintro e w1 ⟨rfl, rfl⟩)
    go_ret
    exact ⟨ret_bool HX.out.symm, HB0.out⟩
  by_cases n4 : 1 ≤ s.limit
  rotate_left
  · have HX := Lib.hid (show r = false from by rw [HR.out]; unfold schB colsB idxsB; simp [show ¬ 1 ≤ s.limit from n4])
    go_enter Try.func40, Try.ntmps40
    go_wp2_with (go_at_call 66/-f-/; (with_reducible refine (C1.out _).mono ?_); rintro e w1 ⟨rfl, rfl⟩)
    go_ret
    exact ⟨ret_bool HX.out.symm, HB0.out⟩
  by_cases n5 : s.limit ≤ 1000
  rotate_left
  · have HX := Lib.hid (show r = false from by rw [HR.out]; unfold schB colsB idxsB; simp [show ¬ s.limit ≤ 1000 from n5])
    go_enter Try.func40, Try.ntmps40
    go_wp2_with (go_at_call 66/-f-/; (with_reducible refine (C1.out _).mono ?_); rintro e w1 ⟨rfl, rfl⟩)
    go_ret
    exact ⟨ret_bool HX.out.symm, HB0.out⟩
  by_cases n6 : 1 ≤ s.parts
  rotate_left
  · have HX := Lib.hid (show r = false from by rw [HR.out]; unfold schB colsB idxsB; simp [show ¬ 1 ≤ s.parts from n6])
    go_enter Try.func40, Try.ntmps40
    go_wp2_with (go_at_call 66/-f-/; (with_reducible refine (C1.out _).mono ?_); rintro e w1 ⟨rfl, rfl⟩)
    go_ret
    exact ⟨ret_bool HX.out.symm, HB0.out⟩
  by_cases n7 : s.parts ≤ 8
  rotate_left
  · have HX := Lib.hid (show r = false from by rw [HR.out]; unfold schB colsB idxsB; simp [show ¬ s.parts ≤ 8 from n7])
    go_enter Try.func40, Try.ntmps40
    go_wp2_with (go_at_call 66/-f-/; (with_reducible refine (C1.out _).mono ?_); rintro e w1 ⟨rfl, rfl⟩)
    go_ret
    exact ⟨ret_bool HX.out.symm, HB0.out⟩
  by_cases n8 : 0 ≤ s.by_
  rotate_left
  · have HX := Lib.hid (show r = false from by rw [HR.out]; unfold schB colsB idxsB; simp [show ¬ 0 ≤ s.by_ from n8])
    go_enter Try.func40, Try.ntmps40
    go_wp2_with (go_at_call 66/-f-/; (with_reducible refine (C1.out _).mono ?_); rintro e w1 ⟨rfl, rfl⟩)
    go_ret
    exact ⟨ret_bool HX.out.symm, HB0.out⟩
  by_cases n9 : s.by_ < (s.cols.length : Int)
  rotate_left
  · have HX := Lib.hid (show r = false from by rw [HR.out]; unfold schB colsB idxsB; simp [show ¬ s.by_ < (s.cols.length : Int) from n9])
    go_enter Try.func40, Try.ntmps40
    go_wp2_with (go_at_call 66/-f-/; (with_reducible refine (C1.out _).mono ?_); rintro e w1 ⟨rfl, rfl⟩)
    go_ret
    exact ⟨ret_bool HX.out.symm, HB0.out⟩
  have G := refright_pos A B c d s w HC.out hI (by assumption) HQ1.out.symm n0 n1 n2 n3 n4 n5 n6 n7 n8 n9
  rw [← HR.out] at G
  exact G
end Go.Proofs.Ytacangeamdcgdaa

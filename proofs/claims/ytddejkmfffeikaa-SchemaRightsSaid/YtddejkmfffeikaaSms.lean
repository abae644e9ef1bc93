/- Contracts of package schema: whether two schemas are the same. -/
import Derived.Test.YtddejkmfffeikaaEqu
namespace Go.Proofs.Ytddejkmfffeikaa
open Go.ChangeShapes Go.WideShapes Go.ChangeAt Go.RowKit
def sameS (s t : Sch) : Bool := decide (s.nm = t.nm) && decide (s.cols = t.cols) && sameL s.idx t.idx && decide (s.limit = t.limit) && decide (s.parts = t.parts) && decide (s.by_ = t.by_)
set_option maxRecDepth 100000 in
set_option maxHeartbeats 16000000 in
theorem same_sch (v u : Value) (s t : Sch) (w : World) (hv : SchV w v s) (hu : SchV w u t) (hf : FitS s) (hf' : FitS t) (hi : s.idx.length ≤ 1000000) (hi' : t.idx.length ≤ 1000000) :
    Calls Try.prog 11/-f-/ #[v, u] w fun e w' => e = .returned (.bool (sameS s t)) ∧ Below w.heap.size w w' := by
  obtain ⟨A, B, c, d, rfl, hC, hI, _, _⟩ := hv.is
  obtain ⟨A', B', c', d', rfl, hC', hI', _, _⟩ := hu.is
  obtain ⟨nm, cols, is, li, pa, by_⟩ := s
  obtain ⟨nm', cols', is', li', pa', by_'⟩ := t
  have hcl := hf.clen
  have hcl' := hf'.clen
  have hfi := hf.idx
  have hfi' := hf'.idx
  simp only at hC hC' hI hI' hcl hcl' hfi hfi' hi hi' ⊢
  obtain ⟨r, hr⟩ : ∃ r, r = sameS ⟨nm, cols, is, li, pa, by_⟩ ⟨nm', cols', is', li', pa', by_'⟩ := ⟨_, rfl⟩
  rw [← hr]
  have HR := Lib.hid (show r = (decide (nm = nm') && decide (cols = cols') && sameL is is' && decide (li = li') && decide (pa = pa') && decide (by_ = by_')) from hr)
  clear hr hf hf' hv hu
  obtain ⟨WW, hWW⟩ : ∃ WW, WW = (w.alloc (.cells #[.string nm, .slice A cols.length c, .slice B is.length d, .int .i64 li, .int .i64 pa, .int .i64 by_] 25)).alloc (.cells #[.string nm', .slice A' cols'.length c', .slice B' is'.length d', .int .i64 li', .int .i64 pa', .int .i64 by_'] 25) := ⟨_, rfl⟩
  have HB0 := Lib.hid (show Below w.heap.size w WW from by rw [hWW]; exact ((Below.refl w.heap.size w).alloc (Nat.le_refl _) _).alloc (by simp) _)
  have BL1 := Lib.hid (show Blk WW w.heap.size 25 #[.string nm, .slice A cols.length c, .slice B is.length d, .int .i64 li, .int .i64 pa, .int .i64 by_] from by rw [hWW]; exact (Blk.new w 25 _).alloc _)
  have BL2 := Lib.hid (show Blk WW (w.heap.size + 1) 25 #[.string nm', .slice A' cols'.length c', .slice B' is'.length d', .int .i64 li', .int .i64 pa', .int .i64 by_'] from by rw [hWW]; have := Blk.new (w.alloc (.cells #[.string nm, .slice A cols.length c, .slice B is.length d, .int .i64 li, .int .i64 pa, .int .i64 by_] 25)) 25 #[.string nm', .slice A' cols'.length c', .slice B' is'.length d', .int .i64 li', .int .i64 pa', .int .i64 by_']; simpa using this)
  have HD := Lib.hid (fun k => below_drewN HB0.out k)
  have KD1 := Lib.hid (fun k => BL1.out.drewN k)
  have KD2 := Lib.hid (fun k => BL2.out.drewN k)
  have Q2' := equalC_any A A' cols.length c cols'.length c' cols cols' WW (hC.keep HB0.out) (hC'.keep HB0.out) rfl rfl hcl hcl'
  have Q3' := fun k => equalF_any B B' is.length d is'.length d' is is' (WW.drewN k) (hI.keep (HD.out k)) (hI'.keep (HD.out k)) rfl rfl hi hi' hfi hfi'
  obtain ⟨q2, hq2⟩ : ∃ q, q = decide (cols = cols') := ⟨_, rfl⟩
  obtain ⟨q3, hq3⟩ : ∃ q, q = sameL is is' := ⟨_, rfl⟩
  rw [← hq2] at Q2'
  rw [← hq3] at Q3'
  have HR2 := Lib.hid (show r = (decide (nm = nm') && q2 && q3 && decide (li = li') && decide (pa = pa') && decide (by_ = by_')) from by rw [HR.out, hq2, hq3])
  have b1 := BL1.out.cell 1
  have b2 := BL1.out.cell 2
  rw [hWW] at HB0 HD KD1 KD2 Q2' Q3'
  have Q2 := Lib.hid Q2'
  have Q3 := Lib.hid Q3'
  clear hq2 hq3 Q2' Q3' HR hC hC' hI hI' hfi hfi' b1 b2 BL1 BL2 hWW WW
  by_cases hn : nm = nm'
  rotate_left
  · have e1 : (nm.toList == nm'.toList) = false := by rw [str_eq_dec]; exact decide_eq_false hn
    have HX := Lib.hid (show r = false from by rw [HR2.out, decide_eq_false hn]; rfl)
    go_enter Try.func11, Try.ntmps11
    go_wp2_with fail
    go_ret
    exact ⟨ret_bool HX.out.symm, HB0.out⟩
  subst hn
  cases q2 with
  | false =>
    have HX := Lib.hid (show r = false from by rw [HR2.out]; simp)
    go_enter Try.func11, Try.ntmps11
    go_wp2_with (first
      | (go_at_call 34/-f-/; (with_reducible refine Q2.out.mono ?_); rintro e w1 ⟨rfl, k1, rfl⟩))
    go_ret
    exact ⟨ret_bool HX.out.symm, HD.out k1⟩
  | true =>
  cases q3 with
  | false =>
    have HX := Lib.hid (show r = false from by rw [HR2.out]; simp)
    go_enter Try.func11, Try.ntmps11
    go_wp2_with (first
      | (go_at_call 34/-f-/; (with_reducible refine Q2.out.mono ?_); rintro e w1 ⟨rfl, k1, rfl⟩)
      | (go_at_call 35/-f-/; (with_reducible refine (Q3.out k1).mono ?_); rintro e w2 ⟨rfl, hb⟩; have H2 := Lib.hid (HD.out k1 |>.trans (hb.mono (HD.out k1).size)); have K2 := (KD1.out k1).below hb (KD1.out k1).lt; have d1 := K2.cell 1; have d2 := K2.cell 2; have d3 := K2.cell 3; have d4 := K2.cell 4; have d5 := K2.cell 5; have dl := K2.lt; simp only [List.getElem?_toArray, List.getElem?_cons_zero, List.getElem?_cons_succ] at d1 d2 d3 d4 d5; have HK2 := Lib.hid K2; clear K2; have L2 := (KD2.out k1).below hb (KD2.out k1).lt; have e1 := L2.cell 1; have e2 := L2.cell 2; have e3 := L2.cell 3; have e4 := L2.cell 4; have e5 := L2.cell 5; have el := L2.lt; simp only [List.getElem?_toArray, List.getElem?_cons_zero, List.getElem?_cons_succ] at e1 e2 e3 e4 e5; have HL2 := Lib.hid L2; clear L2; clear hb))
    go_ret
    exact ⟨ret_bool HX.out.symm, H2.out⟩
  | true =>
  by_cases hli : li = li'
  rotate_left
  · have eli : (li == li') = false := beq_eq_false_iff_ne.2 hli
    have HX := Lib.hid (show r = false from by rw [HR2.out]; simp [hli])
    go_enter Try.func11, Try.ntmps11
    go_wp2_with (first
      | (go_at_call 34/-f-/; (with_reducible refine Q2.out.mono ?_); rintro e w1 ⟨rfl, k1, rfl⟩)
      | (go_at_call 35/-f-/; (with_reducible refine (Q3.out k1).mono ?_); rintro e w2 ⟨rfl, hb⟩; have H2 := Lib.hid (HD.out k1 |>.trans (hb.mono (HD.out k1).size)); have K2 := (KD1.out k1).below hb (KD1.out k1).lt; have d1 := K2.cell 1; have d2 := K2.cell 2; have d3 := K2.cell 3; have d4 := K2.cell 4; have d5 := K2.cell 5; have dl := K2.lt; simp only [List.getElem?_toArray, List.getElem?_cons_zero, List.getElem?_cons_succ] at d1 d2 d3 d4 d5; have HK2 := Lib.hid K2; clear K2; have L2 := (KD2.out k1).below hb (KD2.out k1).lt; have e1 := L2.cell 1; have e2 := L2.cell 2; have e3 := L2.cell 3; have e4 := L2.cell 4; have e5 := L2.cell 5; have el := L2.lt; simp only [List.getElem?_toArray, List.getElem?_cons_zero, List.getElem?_cons_succ] at e1 e2 e3 e4 e5; have HL2 := Lib.hid L2; clear L2; clear hb))
    go_ret
    exact ⟨ret_bool HX.out.symm, H2.out⟩
  subst hli
  by_cases hpa : pa = pa'
  rotate_left
  · have epa : (pa == pa') = false := beq_eq_false_iff_ne.2 hpa
    have HX := Lib.hid (show r = false from by rw [HR2.out]; simp [hpa])
    go_enter Try.func11, Try.ntmps11
    go_wp2_with (first
      | (go_at_call 34/-f-/; (with_reducible refine Q2.out.mono ?_); rintro e w1 ⟨rfl, k1, rfl⟩)
      | (go_at_call 35/-f-/; (with_reducible refine (Q3.out k1).mono ?_); rintro e w2 ⟨rfl, hb⟩; have H2 := Lib.hid (HD.out k1 |>.trans (hb.mono (HD.out k1).size)); have K2 := (KD1.out k1).below hb (KD1.out k1).lt; have d1 := K2.cell 1; have d2 := K2.cell 2; have d3 := K2.cell 3; have d4 := K2.cell 4; have d5 := K2.cell 5; have dl := K2.lt; simp only [List.getElem?_toArray, List.getElem?_cons_zero, List.getElem?_cons_succ] at d1 d2 d3 d4 d5; have HK2 := Lib.hid K2; clear K2; have L2 := (KD2.out k1).below hb (KD2.out k1).lt; have e1 := L2.cell 1; have e2 := L2.cell 2; have e3 := L2.cell 3; have e4 := L2.cell 4; have e5 := L2.cell 5; have el := L2.lt; simp only [List.getElem?_toArray, List.getElem?_cons_zero, List.getElem?_cons_succ] at e1 e2 e3 e4 e5; have HL2 := Lib.hid L2; clear L2; clear hb))
    go_ret
    exact ⟨ret_bool HX.out.symm, H2.out⟩
  subst hpa
  by_cases hby_ : by_ = by_'
  rotate_left
  · have eby_ : (by_ == by_') = false := beq_eq_false_iff_ne.2 hby_
    have HX := Lib.hid (show r = false from by rw [HR2.out]; simp [hby_])
    go_enter Try.func11, Try.ntmps11
    go_wp2_with (first
      | (go_at_call 34/-f-/; (with_reducible refine Q2.out.mono ?_); rintro e w1 ⟨rfl, k1, rfl⟩)
      | (go_at_call 35/-f-/; (with_reducible refine (Q3.out k1).mono ?_); rintro e w2 ⟨rfl, hb⟩; have H2 := Lib.hid (HD.out k1 |>.trans (hb.mono (HD.out k1).size)); have K2 := (KD1.out k1).below hb (KD1.out k1).lt; have d1 := K2.cell 1; have d2 := K2.cell 2; have d3 := K2.cell 3; have d4 := K2.cell 4; have d5 := K2.cell 5; have dl := K2.lt; simp only [List.getElem?_toArray, List.getElem?_cons_zero, List.getElem?_cons_succ] at d1 d2 d3 d4 d5; have HK2 := Lib.hid K2; clear K2; have L2 := (KD2.out k1).below hb (KD2.out k1).lt; have e1 := L2.cell 1; have e2 := L2.cell 2; have e3 := L2.cell 3; have e4 := L2.cell 4; have e5 := L2.cell 5; have el := L2.lt; simp only [List.getElem?_toArray, List.getElem?_cons_zero, List.getElem?_cons_succ] at e1 e2 e3 e4 e5; have HL2 := Lib.hid L2; clear L2; clear hb))
    go_ret
    exact ⟨ret_bool HX.out.symm, H2.out⟩
  subst hby_
  have HX := Lib.hid (show r = true from by rw [HR2.out]; simp)
  go_enter Try.func11, Try.ntmps11
  go_wp2_with (first
    | (go_at_call 34/-f-/; (with_reducible refine Q2.out.mono ?_); rintro e w1 ⟨rfl, k1, rfl⟩)
    | (go_at_call 35/-f-/; (with_reducible refine (Q3.out k1).mono ?_); rintro e w2 ⟨rfl, hb⟩; have H2 := Lib.hid (HD.out k1 |>.trans (hb.mono (HD.out k1).size)); have K2 := (KD1.out k1).below hb (KD1.out k1).lt; have d1 := K2.cell 1; have d2 := K2.cell 2; have d3 := K2.cell 3; have d4 := K2.cell 4; have d5 := K2.cell 5; have dl := K2.lt; simp only [List.getElem?_toArray, List.getElem?_cons_zero, List.getElem?_cons_succ] at d1 d2 d3 d4 d5; have HK2 := Lib.hid K2; clear K2; have L2 := (KD2.out k1).below hb (KD2.out k1).lt; have e1 := L2.cell 1; have e2 := L2.cell 2; have e3 := L2.cell 3; have e4 := L2.cell 4; have e5 := L2.cell 5; have el := L2.lt; simp only [List.getElem?_toArray, List.getElem?_cons_zero, List.getElem?_cons_succ] at e1 e2 e3 e4 e5; have HL2 := Lib.hid L2; clear L2; clear hb))
  go_ret
  exact ⟨ret_bool HX.out.symm, H2.out⟩
end Go.Proofs.Ytddejkmfffeikaa

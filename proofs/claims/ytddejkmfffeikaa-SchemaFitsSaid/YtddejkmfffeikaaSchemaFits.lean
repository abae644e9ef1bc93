/- SchemaFits: whatever schema, row and index: whether the row fits, its keys, its partition are the document's; or why not. No condition. -/
import Derived.Test.YtddejkmfffeikaaRows
import Derived.Test.YtddejkmfffeikaaKys
import Derived.Test.YtddejkmfffeikaaRri
namespace Go.Proofs.Ytddejkmfffeikaa.SchemaFits
open Go.ChangeShapes Go.WideShapes Go.ChangeAt Go.RowKit
set_option linter.unusedVariables false
theorem keysI_at (s : Sch) (vs : List Val) (n k : Nat) (h : k < n) : (keysI s vs n).getD k ⟨#[]⟩ = ⟨(keyX s.idx k vs).toArray⟩ := by simp [keysI, List.getD, h]
theorem right_s {k n : Int} {t : ByteArray} (h : rightB k n t = true) : k = 2 ∨ t = ⟨#[]⟩ := by
  rcases right_cases h with ⟨_, h⟩ | ⟨h, _⟩ | ⟨_, _, h⟩
  · exact .inr h
  · exact .inl h
  · exact .inr h
set_option maxRecDepth 100000 in
set_option maxHeartbeats 64000000 in
theorem walk (v : Value) (s : Sch) (D : Option Addr) (n cd : Nat) (vs : List Val) (i : Int) (w : World) (hv : SchV w v s) (hf : FitS s) (hA : Vals w D vs) (hn : vs.length = n) (hfv : ∀ x ∈ vs, FitV x) (hs : n ≤ 9223372036854775807) (hi0 : -9223372036854775808 ≤ i) (hi1 : i ≤ 9223372036854775807) :
    Calls Try.prog 4/-f-/ #[v, .slice D n cd, .int .i64 i] w fun e w' => e = .returned (.bool true) ∧ Below w.heap.size w w' := by
  subst hn
  have HV := Lib.hid hv
  have HF := Lib.hid hf
  have HA := Lib.hid hA
  have HFV := Lib.hid hfv
  obtain ⟨I, J, c1', c2', rfl, hC, hI, hc1, hc2⟩ := hv.is
  have HH := Lib.hid ((Below.refl w.heap.size w).alloc (Nat.le_refl _) (.cells #[.string s.nm, .slice I s.cols.length c1', .slice J s.idx.length c2', .int .i64 s.limit, .int .i64 s.parts, .int .i64 s.by_] 25))
  have KK := Lib.hid (Blk.new w 25 #[.string s.nm, .slice I s.cols.length c1', .slice J s.idx.length c2', .int .i64 s.limit, .int .i64 s.parts, .int .i64 s.by_])
  have c0 := KK.out.cell 0
  have c1 := KK.out.cell 1
  have c2 := KK.out.cell 2
  have c3 := KK.out.cell 3
  have c4 := KK.out.cell 4
  have c5 := KK.out.cell 5
  have cl := KK.out.lt
  have G1' := fun W hW => great_sch (.agg #[.string s.nm, .slice I s.cols.length c1', .slice J s.idx.length c2', .int .i64 s.limit, .int .i64 s.parts, .int .i64 s.by_]) s W hW HF.out
  have GA' := fun W hW => refgreat_any D vs.length cd vs W hW rfl HFV.out hs
  clear hC hI hA hfv hf hv
  obtain ⟨q1, hq1⟩ : ∃ q, q = greatS s := ⟨_, rfl⟩
  obtain ⟨q2, hq2⟩ : ∃ q, q = greatB vs := ⟨_, rfl⟩
  rw [← hq1] at G1'
  rw [← hq2] at GA'
  have HQ1 := Lib.hid hq1
  have HQ2 := Lib.hid hq2
  have G1 := Lib.hid G1'
  have GA := Lib.hid GA'
  clear hq1 hq2 G1' GA'
  cases q1 with
  | true =>
    go_enter Try.func4, Try.ntmps4
    go_wp2_with (first
      | (go_at_call 7/-f-/; (with_reducible refine (G1.out _ (HV.out.keep HH.out)).mono ?_); rintro e wx ⟨rfl, hb⟩; replace KK := Lib.hid (KK.out.below hb KK.out.lt); replace HH := Lib.hid (HH.out.trans (hb.mono HH.out.size)); (try replace ST := Lib.hid (Strs.keep ST.out hb)); replace c0 := KK.out.cell 0; replace c1 := KK.out.cell 1; replace c2 := KK.out.cell 2; replace c3 := KK.out.cell 3; replace c4 := KK.out.cell 4; replace c5 := KK.out.cell 5; replace cl := KK.out.lt; simp only [List.getElem?_toArray, List.getElem?_cons_zero, List.getElem?_cons_succ] at c0 c1 c2 c3 c4 c5; clear hb)
      | (go_at_call 19/-f-/; (with_reducible refine (GA.out _ (HA.out.keep HH.out)).mono ?_); rintro e wx ⟨rfl, rfl⟩)
      | (go_at_call 8/-f-/; (with_reducible refine (awake_any _).mono ?_); rintro e w9 ⟨rfl, hb⟩; have H9 := Lib.hid (HH.out.trans (hb.mono HH.out.size)); clear hb))
    go_ret
    exact ⟨rfl, H9.out⟩
  | false =>
  cases q2 with
  | true =>
    go_enter Try.func4, Try.ntmps4
    go_wp2_with (first
      | (go_at_call 7/-f-/; (with_reducible refine (G1.out _ (HV.out.keep HH.out)).mono ?_); rintro e wx ⟨rfl, hb⟩; replace KK := Lib.hid (KK.out.below hb KK.out.lt); replace HH := Lib.hid (HH.out.trans (hb.mono HH.out.size)); (try replace ST := Lib.hid (Strs.keep ST.out hb)); replace c0 := KK.out.cell 0; replace c1 := KK.out.cell 1; replace c2 := KK.out.cell 2; replace c3 := KK.out.cell 3; replace c4 := KK.out.cell 4; replace c5 := KK.out.cell 5; replace cl := KK.out.lt; simp only [List.getElem?_toArray, List.getElem?_cons_zero, List.getElem?_cons_succ] at c0 c1 c2 c3 c4 c5; clear hb)
      | (go_at_call 19/-f-/; (with_reducible refine (GA.out _ (HA.out.keep HH.out)).mono ?_); rintro e wx ⟨rfl, rfl⟩)
      | (go_at_call 8/-f-/; (with_reducible refine (awake_any _).mono ?_); rintro e w9 ⟨rfl, hb⟩; have H9 := Lib.hid (HH.out.trans (hb.mono HH.out.size)); clear hb))
    go_ret
    exact ⟨rfl, H9.out⟩
  | false =>
  have hvn := great_no HQ2.out.symm
  have hvl := hvn.1
  have HZ := Lib.hid hvn.2
  clear hvn
  have RR' := fun W hW => refright_sch (.agg #[.string s.nm, .slice I s.cols.length c1', .slice J s.idx.length c2', .int .i64 s.limit, .int .i64 s.parts, .int .i64 s.by_]) s W hW HF.out
  have RF' := fun W hW hW2 => reffits_sch (.agg #[.string s.nm, .slice I s.cols.length c1', .slice J s.idx.length c2', .int .i64 s.limit, .int .i64 s.parts, .int .i64 s.by_]) s D vs.length cd vs W hW HF.out hW2 rfl HFV.out (by omega)
  have KY' := fun W hW hW2 => skey_any (.agg #[.string s.nm, .slice I s.cols.length c1', .slice J s.idx.length c2', .int .i64 s.limit, .int .i64 s.parts, .int .i64 s.by_]) s i D vs.length cd vs W hW HF.out hW2 rfl HFV.out HZ.out (by omega) hi0 hi1
  have KS' := fun W hW hW2 => keys_any (.agg #[.string s.nm, .slice I s.cols.length c1', .slice J s.idx.length c2', .int .i64 s.limit, .int .i64 s.parts, .int .i64 s.by_]) s D vs.length cd vs W hW HF.out hW2 rfl HFV.out HZ.out (by omega)
  have PT' := fun W hW hW2 => part_any (.agg #[.string s.nm, .slice I s.cols.length c1', .slice J s.idx.length c2', .int .i64 s.limit, .int .i64 s.parts, .int .i64 s.by_]) s D vs.length cd vs W hW HF.out hW2 rfl HFV.out (by omega)
  have FT' := fun W hW hW2 => fits_sch (.agg #[.string s.nm, .slice I s.cols.length c1', .slice J s.idx.length c2', .int .i64 s.limit, .int .i64 s.parts, .int .i64 s.by_]) s D vs.length cd vs W hW HF.out hW2 rfl HFV.out (by omega)
  have eK : keyE s i vs = if schB s && hasB s i then (if fitsB s.cols vs then 0 else 13) else 1 := rfl
  have sK : keyS s i vs = if schB s && hasB s i && fitsB s.cols vs then ⟨(keyX s.idx i.toNat vs).toArray⟩ else ⟨#[]⟩ := rfl
  have eC : chkE s vs = if schB s then (if fitsB s.cols vs then 0 else 13) else 1 := rfl
  have eP : partV s vs = if chkE s vs = 0 then spreadV (vs.getD s.by_.toNat default) s.parts.toNat else 0 := rfl
  obtain ⟨q3, hq3⟩ : ∃ q, q = schB s := ⟨_, rfl⟩
  obtain ⟨q4, hq4⟩ : ∃ q, q = fitsB s.cols vs := ⟨_, rfl⟩
  obtain ⟨q5, hq5⟩ : ∃ q, q = hasB s i := ⟨_, rfl⟩
  have h5 : q5 = (decide (0 ≤ i) && decide (i < s.idx.length)) := hq5
  rw [← hq3] at RR' FT' eK sK eC
  rw [← hq4] at RF' FT' eK sK eC
  rw [← hq5] at eK sK
  have HQ3 := Lib.hid hq3
  have HQ4 := Lib.hid hq4
  clear hq3 hq4 hq5
  cases q3 with
  | false =>
    simp only [Bool.false_and, Bool.false_eq_true, if_false] at eK sK eC FT'
    rw [eC, if_neg (by decide)] at eP
    rw [eK, sK] at KY'
    rw [eC] at KS' PT'
    rw [eP] at PT'
    simp only [show ((1 : Int) = 0) = False from by simp, if_false] at KS'
    have RR := Lib.hid RR'
    have RF := Lib.hid RF'
    have KY := Lib.hid KY'
    have KS := Lib.hid KS'
    have PT := Lib.hid PT'
    have FT := Lib.hid FT'
    clear RR' RF' KY' KS' PT' FT' eK sK eC eP h5
    go_enter Try.func4, Try.ntmps4
    go_wp2_with (first
      | (go_at_call 7/-f-/; (with_reducible refine (G1.out _ (HV.out.keep HH.out)).mono ?_); rintro e wx ⟨rfl, hb⟩; replace KK := Lib.hid (KK.out.below hb KK.out.lt); replace HH := Lib.hid (HH.out.trans (hb.mono HH.out.size)); (try replace ST := Lib.hid (Strs.keep ST.out hb)); replace c0 := KK.out.cell 0; replace c1 := KK.out.cell 1; replace c2 := KK.out.cell 2; replace c3 := KK.out.cell 3; replace c4 := KK.out.cell 4; replace c5 := KK.out.cell 5; replace cl := KK.out.lt; simp only [List.getElem?_toArray, List.getElem?_cons_zero, List.getElem?_cons_succ] at c0 c1 c2 c3 c4 c5; clear hb)
      | (go_at_call 19/-f-/; (with_reducible refine (GA.out _ (HA.out.keep HH.out)).mono ?_); rintro e wx ⟨rfl, rfl⟩)
      | (go_at_call 13/-f-/; (with_reducible refine (RR.out _ (HV.out.keep HH.out)).mono ?_); rintro e wx ⟨rfl, hb⟩; replace KK := Lib.hid (KK.out.below hb KK.out.lt); replace HH := Lib.hid (HH.out.trans (hb.mono HH.out.size)); (try replace ST := Lib.hid (Strs.keep ST.out hb)); replace c0 := KK.out.cell 0; replace c1 := KK.out.cell 1; replace c2 := KK.out.cell 2; replace c3 := KK.out.cell 3; replace c4 := KK.out.cell 4; replace c5 := KK.out.cell 5; replace cl := KK.out.lt; simp only [List.getElem?_toArray, List.getElem?_cons_zero, List.getElem?_cons_succ] at c0 c1 c2 c3 c4 c5; clear hb)
      | (go_at_call 14/-f-/; (with_reducible refine (RF.out _ (HV.out.keep HH.out) (HA.out.keep HH.out)).mono ?_); rintro e wx ⟨rfl, hb⟩; replace KK := Lib.hid (KK.out.below hb KK.out.lt); replace HH := Lib.hid (HH.out.trans (hb.mono HH.out.size)); (try replace ST := Lib.hid (Strs.keep ST.out hb)); replace c0 := KK.out.cell 0; replace c1 := KK.out.cell 1; replace c2 := KK.out.cell 2; replace c3 := KK.out.cell 3; replace c4 := KK.out.cell 4; replace c5 := KK.out.cell 5; replace cl := KK.out.lt; simp only [List.getElem?_toArray, List.getElem?_cons_zero, List.getElem?_cons_succ] at c0 c1 c2 c3 c4 c5; clear hb)
      | (go_at_call 20/-f-/; (with_reducible refine (KY.out _ (HV.out.keep HH.out) (HA.out.keep HH.out)).mono ?_); rintro e wx ⟨rfl, hb⟩; replace KK := Lib.hid (KK.out.below hb KK.out.lt); replace HH := Lib.hid (HH.out.trans (hb.mono HH.out.size)); (try replace ST := Lib.hid (Strs.keep ST.out hb)); replace c0 := KK.out.cell 0; replace c1 := KK.out.cell 1; replace c2 := KK.out.cell 2; replace c3 := KK.out.cell 3; replace c4 := KK.out.cell 4; replace c5 := KK.out.cell 5; replace cl := KK.out.lt; simp only [List.getElem?_toArray, List.getElem?_cons_zero, List.getElem?_cons_succ] at c0 c1 c2 c3 c4 c5; clear hb)
      | (go_at_call 21/-f-/; (with_reducible refine (KS.out _ (HV.out.keep HH.out) (HA.out.keep HH.out)).mono ?_); rintro e wx ⟨⟨A5, k5, rfl, hst⟩, hb⟩; have ST9 := Lib.hid hst; clear hst; replace KK := Lib.hid (KK.out.below hb KK.out.lt); replace HH := Lib.hid (HH.out.trans (hb.mono HH.out.size)); (try replace ST := Lib.hid (Strs.keep ST.out hb)); replace c0 := KK.out.cell 0; replace c1 := KK.out.cell 1; replace c2 := KK.out.cell 2; replace c3 := KK.out.cell 3; replace c4 := KK.out.cell 4; replace c5 := KK.out.cell 5; replace cl := KK.out.lt; simp only [List.getElem?_toArray, List.getElem?_cons_zero, List.getElem?_cons_succ] at c0 c1 c2 c3 c4 c5; clear hb; have ST := ST9; clear ST9)
      | (go_at_call 22/-f-/; (with_reducible refine (PT.out _ (HV.out.keep HH.out) (HA.out.keep HH.out)).mono ?_); rintro e wx ⟨rfl, hb⟩; replace KK := Lib.hid (KK.out.below hb KK.out.lt); replace HH := Lib.hid (HH.out.trans (hb.mono HH.out.size)); (try replace ST := Lib.hid (Strs.keep ST.out hb)); replace c0 := KK.out.cell 0; replace c1 := KK.out.cell 1; replace c2 := KK.out.cell 2; replace c3 := KK.out.cell 3; replace c4 := KK.out.cell 4; replace c5 := KK.out.cell 5; replace cl := KK.out.lt; simp only [List.getElem?_toArray, List.getElem?_cons_zero, List.getElem?_cons_succ] at c0 c1 c2 c3 c4 c5; clear hb)
      | (go_at_call 23/-f-/; (with_reducible refine (FT.out _ (HV.out.keep HH.out) (HA.out.keep HH.out)).mono ?_); rintro e wx ⟨rfl, hb⟩; replace KK := Lib.hid (KK.out.below hb KK.out.lt); replace HH := Lib.hid (HH.out.trans (hb.mono HH.out.size)); (try replace ST := Lib.hid (Strs.keep ST.out hb)); replace c0 := KK.out.cell 0; replace c1 := KK.out.cell 1; replace c2 := KK.out.cell 2; replace c3 := KK.out.cell 3; replace c4 := KK.out.cell 4; replace c5 := KK.out.cell 5; replace cl := KK.out.lt; simp only [List.getElem?_toArray, List.getElem?_cons_zero, List.getElem?_cons_succ] at c0 c1 c2 c3 c4 c5; clear hb)
      | (go_at_call 8/-f-/; (with_reducible refine (awake_any _).mono ?_); rintro e w9 ⟨rfl, hb⟩; have H9 := Lib.hid (HH.out.trans (hb.mono HH.out.size)); clear hb))
    go_ret
    exact ⟨rfl, H9.out⟩
  | true =>
  have HP := Lib.hid (schB_parts HQ3.out.symm)
  have hil0 := HP.out.i1
  have hil1 := HP.out.i4
  simp only [Bool.true_and, if_true] at eK sK eC FT'
  cases q4 with
  | false =>
    simp only [Bool.and_false, Bool.false_eq_true, if_false] at eK sK eC
    rw [eC, if_neg (by decide)] at eP
    rw [sK] at KY'
    rw [eC] at KS' PT'
    rw [eP] at PT'
    simp only [show ((13 : Int) = 0) = False from by simp, if_false] at KS'
    have RR := Lib.hid RR'
    have RF := Lib.hid RF'
    have KS := Lib.hid KS'
    have PT := Lib.hid PT'
    have FT := Lib.hid FT'
    clear RR' RF' KS' PT' FT' sK eC eP
    by_cases hlo : 0 ≤ i
    · by_cases hup : i < s.idx.length
      · rw [decide_eq_true hlo, decide_eq_true hup] at h5
        rw [h5] at eK
        simp only [Bool.and_self, if_true] at eK
        rw [eK] at KY'
        have KY := Lib.hid KY'
        clear KY' eK h5
        go_enter Try.func4, Try.ntmps4
        go_wp2_with (first
      | (go_at_call 7/-f-/; (with_reducible refine (G1.out _ (HV.out.keep HH.out)).mono ?_); rintro e wx ⟨rfl, hb⟩; replace KK := Lib.hid (KK.out.below hb KK.out.lt); replace HH := Lib.hid (HH.out.trans (hb.mono HH.out.size)); (try replace ST := Lib.hid (Strs.keep ST.out hb)); replace c0 := KK.out.cell 0; replace c1 := KK.out.cell 1; replace c2 := KK.out.cell 2; replace c3 := KK.out.cell 3; replace c4 := KK.out.cell 4; replace c5 := KK.out.cell 5; replace cl := KK.out.lt; simp only [List.getElem?_toArray, List.getElem?_cons_zero, List.getElem?_cons_succ] at c0 c1 c2 c3 c4 c5; clear hb)
      | (go_at_call 19/-f-/; (with_reducible refine (GA.out _ (HA.out.keep HH.out)).mono ?_); rintro e wx ⟨rfl, rfl⟩)
      | (go_at_call 13/-f-/; (with_reducible refine (RR.out _ (HV.out.keep HH.out)).mono ?_); rintro e wx ⟨rfl, hb⟩; replace KK := Lib.hid (KK.out.below hb KK.out.lt); replace HH := Lib.hid (HH.out.trans (hb.mono HH.out.size)); (try replace ST := Lib.hid (Strs.keep ST.out hb)); replace c0 := KK.out.cell 0; replace c1 := KK.out.cell 1; replace c2 := KK.out.cell 2; replace c3 := KK.out.cell 3; replace c4 := KK.out.cell 4; replace c5 := KK.out.cell 5; replace cl := KK.out.lt; simp only [List.getElem?_toArray, List.getElem?_cons_zero, List.getElem?_cons_succ] at c0 c1 c2 c3 c4 c5; clear hb)
      | (go_at_call 14/-f-/; (with_reducible refine (RF.out _ (HV.out.keep HH.out) (HA.out.keep HH.out)).mono ?_); rintro e wx ⟨rfl, hb⟩; replace KK := Lib.hid (KK.out.below hb KK.out.lt); replace HH := Lib.hid (HH.out.trans (hb.mono HH.out.size)); (try replace ST := Lib.hid (Strs.keep ST.out hb)); replace c0 := KK.out.cell 0; replace c1 := KK.out.cell 1; replace c2 := KK.out.cell 2; replace c3 := KK.out.cell 3; replace c4 := KK.out.cell 4; replace c5 := KK.out.cell 5; replace cl := KK.out.lt; simp only [List.getElem?_toArray, List.getElem?_cons_zero, List.getElem?_cons_succ] at c0 c1 c2 c3 c4 c5; clear hb)
      | (go_at_call 20/-f-/; (with_reducible refine (KY.out _ (HV.out.keep HH.out) (HA.out.keep HH.out)).mono ?_); rintro e wx ⟨rfl, hb⟩; replace KK := Lib.hid (KK.out.below hb KK.out.lt); replace HH := Lib.hid (HH.out.trans (hb.mono HH.out.size)); (try replace ST := Lib.hid (Strs.keep ST.out hb)); replace c0 := KK.out.cell 0; replace c1 := KK.out.cell 1; replace c2 := KK.out.cell 2; replace c3 := KK.out.cell 3; replace c4 := KK.out.cell 4; replace c5 := KK.out.cell 5; replace cl := KK.out.lt; simp only [List.getElem?_toArray, List.getElem?_cons_zero, List.getElem?_cons_succ] at c0 c1 c2 c3 c4 c5; clear hb)
      | (go_at_call 21/-f-/; (with_reducible refine (KS.out _ (HV.out.keep HH.out) (HA.out.keep HH.out)).mono ?_); rintro e wx ⟨⟨A5, k5, rfl, hst⟩, hb⟩; have ST9 := Lib.hid hst; clear hst; replace KK := Lib.hid (KK.out.below hb KK.out.lt); replace HH := Lib.hid (HH.out.trans (hb.mono HH.out.size)); (try replace ST := Lib.hid (Strs.keep ST.out hb)); replace c0 := KK.out.cell 0; replace c1 := KK.out.cell 1; replace c2 := KK.out.cell 2; replace c3 := KK.out.cell 3; replace c4 := KK.out.cell 4; replace c5 := KK.out.cell 5; replace cl := KK.out.lt; simp only [List.getElem?_toArray, List.getElem?_cons_zero, List.getElem?_cons_succ] at c0 c1 c2 c3 c4 c5; clear hb; have ST := ST9; clear ST9)
      | (go_at_call 22/-f-/; (with_reducible refine (PT.out _ (HV.out.keep HH.out) (HA.out.keep HH.out)).mono ?_); rintro e wx ⟨rfl, hb⟩; replace KK := Lib.hid (KK.out.below hb KK.out.lt); replace HH := Lib.hid (HH.out.trans (hb.mono HH.out.size)); (try replace ST := Lib.hid (Strs.keep ST.out hb)); replace c0 := KK.out.cell 0; replace c1 := KK.out.cell 1; replace c2 := KK.out.cell 2; replace c3 := KK.out.cell 3; replace c4 := KK.out.cell 4; replace c5 := KK.out.cell 5; replace cl := KK.out.lt; simp only [List.getElem?_toArray, List.getElem?_cons_zero, List.getElem?_cons_succ] at c0 c1 c2 c3 c4 c5; clear hb)
      | (go_at_call 23/-f-/; (with_reducible refine (FT.out _ (HV.out.keep HH.out) (HA.out.keep HH.out)).mono ?_); rintro e wx ⟨rfl, hb⟩; replace KK := Lib.hid (KK.out.below hb KK.out.lt); replace HH := Lib.hid (HH.out.trans (hb.mono HH.out.size)); (try replace ST := Lib.hid (Strs.keep ST.out hb)); replace c0 := KK.out.cell 0; replace c1 := KK.out.cell 1; replace c2 := KK.out.cell 2; replace c3 := KK.out.cell 3; replace c4 := KK.out.cell 4; replace c5 := KK.out.cell 5; replace cl := KK.out.lt; simp only [List.getElem?_toArray, List.getElem?_cons_zero, List.getElem?_cons_succ] at c0 c1 c2 c3 c4 c5; clear hb)
      | (go_at_call 8/-f-/; (with_reducible refine (awake_any _).mono ?_); rintro e w9 ⟨rfl, hb⟩; have H9 := Lib.hid (HH.out.trans (hb.mono HH.out.size)); clear hb))
        go_ret
        exact ⟨rfl, H9.out⟩
      · rw [decide_eq_false hup, Bool.and_false] at h5
        rw [h5] at eK
        simp only [Bool.false_eq_true, if_false] at eK
        rw [eK] at KY'
        have KY := Lib.hid KY'
        clear KY' eK h5
        go_enter Try.func4, Try.ntmps4
        go_wp2_with (first
      | (go_at_call 7/-f-/; (with_reducible refine (G1.out _ (HV.out.keep HH.out)).mono ?_); rintro e wx ⟨rfl, hb⟩; replace KK := Lib.hid (KK.out.below hb KK.out.lt); replace HH := Lib.hid (HH.out.trans (hb.mono HH.out.size)); (try replace ST := Lib.hid (Strs.keep ST.out hb)); replace c0 := KK.out.cell 0; replace c1 := KK.out.cell 1; replace c2 := KK.out.cell 2; replace c3 := KK.out.cell 3; replace c4 := KK.out.cell 4; replace c5 := KK.out.cell 5; replace cl := KK.out.lt; simp only [List.getElem?_toArray, List.getElem?_cons_zero, List.getElem?_cons_succ] at c0 c1 c2 c3 c4 c5; clear hb)
      | (go_at_call 19/-f-/; (with_reducible refine (GA.out _ (HA.out.keep HH.out)).mono ?_); rintro e wx ⟨rfl, rfl⟩)
      | (go_at_call 13/-f-/; (with_reducible refine (RR.out _ (HV.out.keep HH.out)).mono ?_); rintro e wx ⟨rfl, hb⟩; replace KK := Lib.hid (KK.out.below hb KK.out.lt); replace HH := Lib.hid (HH.out.trans (hb.mono HH.out.size)); (try replace ST := Lib.hid (Strs.keep ST.out hb)); replace c0 := KK.out.cell 0; replace c1 := KK.out.cell 1; replace c2 := KK.out.cell 2; replace c3 := KK.out.cell 3; replace c4 := KK.out.cell 4; replace c5 := KK.out.cell 5; replace cl := KK.out.lt; simp only [List.getElem?_toArray, List.getElem?_cons_zero, List.getElem?_cons_succ] at c0 c1 c2 c3 c4 c5; clear hb)
      | (go_at_call 14/-f-/; (with_reducible refine (RF.out _ (HV.out.keep HH.out) (HA.out.keep HH.out)).mono ?_); rintro e wx ⟨rfl, hb⟩; replace KK := Lib.hid (KK.out.below hb KK.out.lt); replace HH := Lib.hid (HH.out.trans (hb.mono HH.out.size)); (try replace ST := Lib.hid (Strs.keep ST.out hb)); replace c0 := KK.out.cell 0; replace c1 := KK.out.cell 1; replace c2 := KK.out.cell 2; replace c3 := KK.out.cell 3; replace c4 := KK.out.cell 4; replace c5 := KK.out.cell 5; replace cl := KK.out.lt; simp only [List.getElem?_toArray, List.getElem?_cons_zero, List.getElem?_cons_succ] at c0 c1 c2 c3 c4 c5; clear hb)
      | (go_at_call 20/-f-/; (with_reducible refine (KY.out _ (HV.out.keep HH.out) (HA.out.keep HH.out)).mono ?_); rintro e wx ⟨rfl, hb⟩; replace KK := Lib.hid (KK.out.below hb KK.out.lt); replace HH := Lib.hid (HH.out.trans (hb.mono HH.out.size)); (try replace ST := Lib.hid (Strs.keep ST.out hb)); replace c0 := KK.out.cell 0; replace c1 := KK.out.cell 1; replace c2 := KK.out.cell 2; replace c3 := KK.out.cell 3; replace c4 := KK.out.cell 4; replace c5 := KK.out.cell 5; replace cl := KK.out.lt; simp only [List.getElem?_toArray, List.getElem?_cons_zero, List.getElem?_cons_succ] at c0 c1 c2 c3 c4 c5; clear hb)
      | (go_at_call 21/-f-/; (with_reducible refine (KS.out _ (HV.out.keep HH.out) (HA.out.keep HH.out)).mono ?_); rintro e wx ⟨⟨A5, k5, rfl, hst⟩, hb⟩; have ST9 := Lib.hid hst; clear hst; replace KK := Lib.hid (KK.out.below hb KK.out.lt); replace HH := Lib.hid (HH.out.trans (hb.mono HH.out.size)); (try replace ST := Lib.hid (Strs.keep ST.out hb)); replace c0 := KK.out.cell 0; replace c1 := KK.out.cell 1; replace c2 := KK.out.cell 2; replace c3 := KK.out.cell 3; replace c4 := KK.out.cell 4; replace c5 := KK.out.cell 5; replace cl := KK.out.lt; simp only [List.getElem?_toArray, List.getElem?_cons_zero, List.getElem?_cons_succ] at c0 c1 c2 c3 c4 c5; clear hb; have ST := ST9; clear ST9)
      | (go_at_call 22/-f-/; (with_reducible refine (PT.out _ (HV.out.keep HH.out) (HA.out.keep HH.out)).mono ?_); rintro e wx ⟨rfl, hb⟩; replace KK := Lib.hid (KK.out.below hb KK.out.lt); replace HH := Lib.hid (HH.out.trans (hb.mono HH.out.size)); (try replace ST := Lib.hid (Strs.keep ST.out hb)); replace c0 := KK.out.cell 0; replace c1 := KK.out.cell 1; replace c2 := KK.out.cell 2; replace c3 := KK.out.cell 3; replace c4 := KK.out.cell 4; replace c5 := KK.out.cell 5; replace cl := KK.out.lt; simp only [List.getElem?_toArray, List.getElem?_cons_zero, List.getElem?_cons_succ] at c0 c1 c2 c3 c4 c5; clear hb)
      | (go_at_call 23/-f-/; (with_reducible refine (FT.out _ (HV.out.keep HH.out) (HA.out.keep HH.out)).mono ?_); rintro e wx ⟨rfl, hb⟩; replace KK := Lib.hid (KK.out.below hb KK.out.lt); replace HH := Lib.hid (HH.out.trans (hb.mono HH.out.size)); (try replace ST := Lib.hid (Strs.keep ST.out hb)); replace c0 := KK.out.cell 0; replace c1 := KK.out.cell 1; replace c2 := KK.out.cell 2; replace c3 := KK.out.cell 3; replace c4 := KK.out.cell 4; replace c5 := KK.out.cell 5; replace cl := KK.out.lt; simp only [List.getElem?_toArray, List.getElem?_cons_zero, List.getElem?_cons_succ] at c0 c1 c2 c3 c4 c5; clear hb)
      | (go_at_call 8/-f-/; (with_reducible refine (awake_any _).mono ?_); rintro e w9 ⟨rfl, hb⟩; have H9 := Lib.hid (HH.out.trans (hb.mono HH.out.size)); clear hb))
        go_ret
        exact ⟨rfl, H9.out⟩
    · rw [decide_eq_false hlo, Bool.false_and] at h5
      rw [h5] at eK
      simp only [Bool.false_eq_true, if_false] at eK
      rw [eK] at KY'
      have KY := Lib.hid KY'
      clear KY' eK h5
      go_enter Try.func4, Try.ntmps4
      go_wp2_with (first
      | (go_at_call 7/-f-/; (with_reducible refine (G1.out _ (HV.out.keep HH.out)).mono ?_); rintro e wx ⟨rfl, hb⟩; replace KK := Lib.hid (KK.out.below hb KK.out.lt); replace HH := Lib.hid (HH.out.trans (hb.mono HH.out.size)); (try replace ST := Lib.hid (Strs.keep ST.out hb)); replace c0 := KK.out.cell 0; replace c1 := KK.out.cell 1; replace c2 := KK.out.cell 2; replace c3 := KK.out.cell 3; replace c4 := KK.out.cell 4; replace c5 := KK.out.cell 5; replace cl := KK.out.lt; simp only [List.getElem?_toArray, List.getElem?_cons_zero, List.getElem?_cons_succ] at c0 c1 c2 c3 c4 c5; clear hb)
      | (go_at_call 19/-f-/; (with_reducible refine (GA.out _ (HA.out.keep HH.out)).mono ?_); rintro e wx ⟨rfl, rfl⟩)
      | (go_at_call 13/-f-/; (with_reducible refine (RR.out _ (HV.out.keep HH.out)).mono ?_); rintro e wx ⟨rfl, hb⟩; replace KK := Lib.hid (KK.out.below hb KK.out.lt); replace HH := Lib.hid (HH.out.trans (hb.mono HH.out.size)); (try replace ST := Lib.hid (Strs.keep ST.out hb)); replace c0 := KK.out.cell 0; replace c1 := KK.out.cell 1; replace c2 := KK.out.cell 2; replace c3 := KK.out.cell 3; replace c4 := KK.out.cell 4; replace c5 := KK.out.cell 5; replace cl := KK.out.lt; simp only [List.getElem?_toArray, List.getElem?_cons_zero, List.getElem?_cons_succ] at c0 c1 c2 c3 c4 c5; clear hb)
      | (go_at_call 14/-f-/; (with_reducible refine (RF.out _ (HV.out.keep HH.out) (HA.out.keep HH.out)).mono ?_); rintro e wx ⟨rfl, hb⟩; replace KK := Lib.hid (KK.out.below hb KK.out.lt); replace HH := Lib.hid (HH.out.trans (hb.mono HH.out.size)); (try replace ST := Lib.hid (Strs.keep ST.out hb)); replace c0 := KK.out.cell 0; replace c1 := KK.out.cell 1; replace c2 := KK.out.cell 2; replace c3 := KK.out.cell 3; replace c4 := KK.out.cell 4; replace c5 := KK.out.cell 5; replace cl := KK.out.lt; simp only [List.getElem?_toArray, List.getElem?_cons_zero, List.getElem?_cons_succ] at c0 c1 c2 c3 c4 c5; clear hb)
      | (go_at_call 20/-f-/; (with_reducible refine (KY.out _ (HV.out.keep HH.out) (HA.out.keep HH.out)).mono ?_); rintro e wx ⟨rfl, hb⟩; replace KK := Lib.hid (KK.out.below hb KK.out.lt); replace HH := Lib.hid (HH.out.trans (hb.mono HH.out.size)); (try replace ST := Lib.hid (Strs.keep ST.out hb)); replace c0 := KK.out.cell 0; replace c1 := KK.out.cell 1; replace c2 := KK.out.cell 2; replace c3 := KK.out.cell 3; replace c4 := KK.out.cell 4; replace c5 := KK.out.cell 5; replace cl := KK.out.lt; simp only [List.getElem?_toArray, List.getElem?_cons_zero, List.getElem?_cons_succ] at c0 c1 c2 c3 c4 c5; clear hb)
      | (go_at_call 21/-f-/; (with_reducible refine (KS.out _ (HV.out.keep HH.out) (HA.out.keep HH.out)).mono ?_); rintro e wx ⟨⟨A5, k5, rfl, hst⟩, hb⟩; have ST9 := Lib.hid hst; clear hst; replace KK := Lib.hid (KK.out.below hb KK.out.lt); replace HH := Lib.hid (HH.out.trans (hb.mono HH.out.size)); (try replace ST := Lib.hid (Strs.keep ST.out hb)); replace c0 := KK.out.cell 0; replace c1 := KK.out.cell 1; replace c2 := KK.out.cell 2; replace c3 := KK.out.cell 3; replace c4 := KK.out.cell 4; replace c5 := KK.out.cell 5; replace cl := KK.out.lt; simp only [List.getElem?_toArray, List.getElem?_cons_zero, List.getElem?_cons_succ] at c0 c1 c2 c3 c4 c5; clear hb; have ST := ST9; clear ST9)
      | (go_at_call 22/-f-/; (with_reducible refine (PT.out _ (HV.out.keep HH.out) (HA.out.keep HH.out)).mono ?_); rintro e wx ⟨rfl, hb⟩; replace KK := Lib.hid (KK.out.below hb KK.out.lt); replace HH := Lib.hid (HH.out.trans (hb.mono HH.out.size)); (try replace ST := Lib.hid (Strs.keep ST.out hb)); replace c0 := KK.out.cell 0; replace c1 := KK.out.cell 1; replace c2 := KK.out.cell 2; replace c3 := KK.out.cell 3; replace c4 := KK.out.cell 4; replace c5 := KK.out.cell 5; replace cl := KK.out.lt; simp only [List.getElem?_toArray, List.getElem?_cons_zero, List.getElem?_cons_succ] at c0 c1 c2 c3 c4 c5; clear hb)
      | (go_at_call 23/-f-/; (with_reducible refine (FT.out _ (HV.out.keep HH.out) (HA.out.keep HH.out)).mono ?_); rintro e wx ⟨rfl, hb⟩; replace KK := Lib.hid (KK.out.below hb KK.out.lt); replace HH := Lib.hid (HH.out.trans (hb.mono HH.out.size)); (try replace ST := Lib.hid (Strs.keep ST.out hb)); replace c0 := KK.out.cell 0; replace c1 := KK.out.cell 1; replace c2 := KK.out.cell 2; replace c3 := KK.out.cell 3; replace c4 := KK.out.cell 4; replace c5 := KK.out.cell 5; replace cl := KK.out.lt; simp only [List.getElem?_toArray, List.getElem?_cons_zero, List.getElem?_cons_succ] at c0 c1 c2 c3 c4 c5; clear hb)
      | (go_at_call 8/-f-/; (with_reducible refine (awake_any _).mono ?_); rintro e w9 ⟨rfl, hb⟩; have H9 := Lib.hid (HH.out.trans (hb.mono HH.out.size)); clear hb))
      go_ret
      exact ⟨rfl, H9.out⟩
  | true =>
    simp only [Bool.and_true, if_true] at eK sK eC
    rw [eC, if_pos rfl] at eP
    rw [eC] at KS' PT'
    simp only [if_true] at KS'
    have hfb := fits_both HQ4.out.symm
    obtain ⟨r, hr⟩ : ∃ r : Nat, s.by_ = r := ⟨s.by_.toNat, by have := HP.out.b0; omega⟩
    obtain ⟨m, hm⟩ : ∃ m : Nat, s.parts = m := ⟨s.parts.toNat, by have := HP.out.p1; omega⟩
    have hrl : r < vs.length := by have := HP.out.b1; omega
    have hm0 : 0 < m := by have := HP.out.p1; omega
    have hm1 : m ≤ 1000000 := by have := HP.out.p8; omega
    have hri : (r : Int) < vs.length := by omega
    rcases HA.out with h | ⟨b, off, rfl, hbw, hcell⟩
    · rw [h] at hrl; simp at hrl
    obtain ⟨x0, x1, x2⟩ := hcell r hrl
    have hmem := getD_mem vs r hrl
    have hrb : rightB (vs.getD r default).k (vs.getD r default).n (vs.getD r default).s = true := by
      have := hfb.2
      unfold rall at this
      exact List.all_eq_true.1 this _ hmem
    rw [hr, hm] at eP
    simp only [Int.toNat_natCast] at eP
    rw [eP] at PT'
    have SP' := fun W => refspread_any (vs.getD r default) m W (HFV.out _ hmem) (right_s hrb) (HZ.out _ hmem) hm0 hm1
    have RK := Lib.hid (fun W (k : Nat) (hk : k < s.idx.length) hW hW2 => refkey_sch (.agg #[.string s.nm, .slice I s.cols.length c1', .slice J s.idx.length c2', .int .i64 s.limit, .int .i64 s.parts, .int .i64 s.by_]) s k (some ⟨b, off, none⟩) vs.length cd vs W hW HF.out hW2 rfl HFV.out HZ.out (by omega) HP.out hk hfb.1 hfb.2)
    have hrr := Lib.hid hr
    have hmm := Lib.hid hm
    have X0 := Lib.hid x0
    have X1 := Lib.hid x1
    have X2 := Lib.hid x2
    have RR := Lib.hid RR'
    have RF := Lib.hid RF'
    have KS := Lib.hid KS'
    have FT := Lib.hid FT'
    clear hcell hmem hrb hr hm hfb x0 x1 x2 RR' RF' KS' FT' eC eP
    generalize vs.getD r default = x at *
    generalize spreadV x m = RV at *
    have PT := Lib.hid PT'
    have SP := Lib.hid SP'
    clear PT' SP'
    by_cases hlo : 0 ≤ i
    · by_cases hup : i < s.idx.length
      · rw [decide_eq_true hlo, decide_eq_true hup] at h5
        rw [h5] at eK sK
        simp only [Bool.and_self, if_true] at eK sK
        rw [eK, sK] at KY'
        obtain ⟨p, hp⟩ : ∃ p : Nat, i = p := ⟨i.toNat, by omega⟩
        subst hp
        have hpl : p < s.idx.length := by omega
        simp only [Int.toNat_natCast] at KY'
        have RKp' := fun W hW hW2 => RK.out W p hpl hW hW2
        obtain ⟨T0, hT0⟩ : ∃ T : ByteArray, T = ⟨(keyX s.idx p vs).toArray⟩ := ⟨_, rfl⟩
        rw [← hT0] at KY' RKp'
        have KY := Lib.hid KY'
        have RKp := Lib.hid RKp'
        clear KY' eK sK h5 hT0 RKp'
        go_enter Try.func4, Try.ntmps4
        go_upto_region 18 with (first
              | (go_at_call 7/-f-/; (with_reducible refine (G1.out _ (HV.out.keep HH.out)).mono ?_); rintro e wx ⟨rfl, hb⟩; replace KK := Lib.hid (KK.out.below hb KK.out.lt); replace HH := Lib.hid (HH.out.trans (hb.mono HH.out.size)); (try replace ST := Lib.hid (Strs.keep ST.out hb)); replace c0 := KK.out.cell 0; replace c1 := KK.out.cell 1; replace c2 := KK.out.cell 2; replace c3 := KK.out.cell 3; replace c4 := KK.out.cell 4; replace c5 := KK.out.cell 5; replace cl := KK.out.lt; simp only [List.getElem?_toArray, List.getElem?_cons_zero, List.getElem?_cons_succ] at c0 c1 c2 c3 c4 c5; clear hb)
              | (go_at_call 19/-f-/; (with_reducible refine (GA.out _ (HA.out.keep HH.out)).mono ?_); rintro e wx ⟨rfl, rfl⟩)
              | (go_at_call 13/-f-/; (with_reducible refine (RR.out _ (HV.out.keep HH.out)).mono ?_); rintro e wx ⟨rfl, hb⟩; replace KK := Lib.hid (KK.out.below hb KK.out.lt); replace HH := Lib.hid (HH.out.trans (hb.mono HH.out.size)); (try replace ST := Lib.hid (Strs.keep ST.out hb)); replace c0 := KK.out.cell 0; replace c1 := KK.out.cell 1; replace c2 := KK.out.cell 2; replace c3 := KK.out.cell 3; replace c4 := KK.out.cell 4; replace c5 := KK.out.cell 5; replace cl := KK.out.lt; simp only [List.getElem?_toArray, List.getElem?_cons_zero, List.getElem?_cons_succ] at c0 c1 c2 c3 c4 c5; clear hb)
              | (go_at_call 14/-f-/; (with_reducible refine (RF.out _ (HV.out.keep HH.out) (HA.out.keep HH.out)).mono ?_); rintro e wx ⟨rfl, hb⟩; replace KK := Lib.hid (KK.out.below hb KK.out.lt); replace HH := Lib.hid (HH.out.trans (hb.mono HH.out.size)); (try replace ST := Lib.hid (Strs.keep ST.out hb)); replace c0 := KK.out.cell 0; replace c1 := KK.out.cell 1; replace c2 := KK.out.cell 2; replace c3 := KK.out.cell 3; replace c4 := KK.out.cell 4; replace c5 := KK.out.cell 5; replace cl := KK.out.lt; simp only [List.getElem?_toArray, List.getElem?_cons_zero, List.getElem?_cons_succ] at c0 c1 c2 c3 c4 c5; clear hb)
              | (go_at_call 20/-f-/; (with_reducible refine (KY.out _ (HV.out.keep HH.out) (HA.out.keep HH.out)).mono ?_); rintro e wx ⟨rfl, hb⟩; replace KK := Lib.hid (KK.out.below hb KK.out.lt); replace HH := Lib.hid (HH.out.trans (hb.mono HH.out.size)); (try replace ST := Lib.hid (Strs.keep ST.out hb)); replace c0 := KK.out.cell 0; replace c1 := KK.out.cell 1; replace c2 := KK.out.cell 2; replace c3 := KK.out.cell 3; replace c4 := KK.out.cell 4; replace c5 := KK.out.cell 5; replace cl := KK.out.lt; simp only [List.getElem?_toArray, List.getElem?_cons_zero, List.getElem?_cons_succ] at c0 c1 c2 c3 c4 c5; clear hb)
              | (go_at_call 21/-f-/; (with_reducible refine (KS.out _ (HV.out.keep HH.out) (HA.out.keep HH.out)).mono ?_); rintro e wx ⟨⟨A5, k5, rfl, hst⟩, hb⟩; have ST9 := Lib.hid hst; clear hst; replace KK := Lib.hid (KK.out.below hb KK.out.lt); replace HH := Lib.hid (HH.out.trans (hb.mono HH.out.size)); (try replace ST := Lib.hid (Strs.keep ST.out hb)); replace c0 := KK.out.cell 0; replace c1 := KK.out.cell 1; replace c2 := KK.out.cell 2; replace c3 := KK.out.cell 3; replace c4 := KK.out.cell 4; replace c5 := KK.out.cell 5; replace cl := KK.out.lt; simp only [List.getElem?_toArray, List.getElem?_cons_zero, List.getElem?_cons_succ] at c0 c1 c2 c3 c4 c5; clear hb; have ST := ST9; clear ST9)
              | (go_at_call 22/-f-/; (with_reducible refine (PT.out _ (HV.out.keep HH.out) (HA.out.keep HH.out)).mono ?_); rintro e wx ⟨rfl, hb⟩; replace KK := Lib.hid (KK.out.below hb KK.out.lt); replace HH := Lib.hid (HH.out.trans (hb.mono HH.out.size)); (try replace ST := Lib.hid (Strs.keep ST.out hb)); replace c0 := KK.out.cell 0; replace c1 := KK.out.cell 1; replace c2 := KK.out.cell 2; replace c3 := KK.out.cell 3; replace c4 := KK.out.cell 4; replace c5 := KK.out.cell 5; replace cl := KK.out.lt; simp only [List.getElem?_toArray, List.getElem?_cons_zero, List.getElem?_cons_succ] at c0 c1 c2 c3 c4 c5; clear hb)
              | (go_at_call 23/-f-/; (with_reducible refine (FT.out _ (HV.out.keep HH.out) (HA.out.keep HH.out)).mono ?_); rintro e wx ⟨rfl, hb⟩; replace KK := Lib.hid (KK.out.below hb KK.out.lt); replace HH := Lib.hid (HH.out.trans (hb.mono HH.out.size)); (try replace ST := Lib.hid (Strs.keep ST.out hb)); replace c0 := KK.out.cell 0; replace c1 := KK.out.cell 1; replace c2 := KK.out.cell 2; replace c3 := KK.out.cell 3; replace c4 := KK.out.cell 4; replace c5 := KK.out.cell 5; replace cl := KK.out.lt; simp only [List.getElem?_toArray, List.getElem?_cons_zero, List.getElem?_cons_succ] at c0 c1 c2 c3 c4 c5; clear hb)
              | (go_at_call 24/-f-/; (with_reducible refine (RKp.out _ (HV.out.keep HH.out) (HA.out.keep HH.out)).mono ?_); rintro e wx ⟨rfl, hb⟩; replace KK := Lib.hid (KK.out.below hb KK.out.lt); replace HH := Lib.hid (HH.out.trans (hb.mono HH.out.size)); (try replace ST := Lib.hid (Strs.keep ST.out hb)); replace c0 := KK.out.cell 0; replace c1 := KK.out.cell 1; replace c2 := KK.out.cell 2; replace c3 := KK.out.cell 3; replace c4 := KK.out.cell 4; replace c5 := KK.out.cell 5; replace cl := KK.out.lt; simp only [List.getElem?_toArray, List.getElem?_cons_zero, List.getElem?_cons_succ] at c0 c1 c2 c3 c4 c5; clear hb))
        have HST := ST
        clear ST
        have KK1 := KK
        have HH1 := HH
        clear KK HH
        go_wp2
        go_loopw [17] (fun j wr => ∃ k : Nat, k ≤ s.idx.length ∧ j = .int .i64 k ∧ Below w.heap.size w wr ∧ Blk wr w.heap.size 25 #[.string s.nm, .slice I s.cols.length c1', .slice J s.idx.length c2', .int .i64 s.limit, .int .i64 s.parts, .int .i64 s.by_] ∧ Strs wr A5 (keysI s vs s.idx.length)) (fun j _ => s.idx.length - (intOf j).toNat)
        case atStart => exact ⟨0, Nat.zero_le _, rfl, HH1.out, KK1.out, HST.out⟩
        case round =>
          clear c0 c1 c2 c3 c4 c5 cl
          obtain ⟨k, hk, rfl, hbl, hbk, hst⟩ := hrel
          have hsz := hbl.size
          have c0 := hbk.cell 0
          have c1 := hbk.cell 1
          have c2 := hbk.cell 2
          have c3 := hbk.cell 3
          have c4 := hbk.cell 4
          have c5 := hbk.cell 5
          have cl := hbk.lt
          simp only [List.getElem?_toArray, List.getElem?_cons_zero, List.getElem?_cons_succ] at c0 c1 c2 c3 c4 c5
          have KK := Lib.hid hbk
          have HH := Lib.hid hbl
          have HST2 := Lib.hid hst
          clear hbk hst
          by_cases hlt : k < s.idx.length
          · have hlti : (k : Int) < s.idx.length := by omega
            rcases HST2.out with h | ⟨b5, off5, rfl, hb5, hc5⟩
            · have := keysI_len s vs s.idx.length
              rw [h] at this; simp at this; omega
            have z0 := hc5 k (by rw [keysI_len]; exact hlt)
            rw [keysI_at s vs s.idx.length k hlt] at z0
            have RKk := Lib.hid (fun W hW hW2 => RK.out W k hlt hW hW2)
            clear hc5
            obtain ⟨T, hT⟩ : ∃ T : ByteArray, T = ⟨(keyX s.idx k vs).toArray⟩ := ⟨_, rfl⟩
            rw [← hT] at z0 RKk
            clear hT
            go_upto_region 21 with fail
            go_region_held3 (fun W => W.cell? ⟨b5, off5 + k, none⟩ = some (.string T) ∧ W.cell? ⟨w.heap.size, 0, none⟩ = some (.string s.nm) ∧ W.cell? ⟨w.heap.size, 1, none⟩ = some (.slice I s.cols.length c1') ∧ W.cell? ⟨w.heap.size, 2, none⟩ = some (.slice J s.idx.length c2') ∧ W.cell? ⟨w.heap.size, 3, none⟩ = some (.int .i64 s.limit) ∧ W.cell? ⟨w.heap.size, 4, none⟩ = some (.int .i64 s.parts) ∧ W.cell? ⟨w.heap.size, 5, none⟩ = some (.int .i64 s.by_))
              (first | exact ⟨z0, c0, c1, c2, c3, c4, c5⟩ | exact ⟨d6, d0, d1, d2, d3, d4, d5⟩)
              (first
                | (go_at_call 24/-f-/; (with_reducible refine (RKk.out _ (HV.out.keep HH.out.drew) (HA.out.keep HH.out.drew)).mono ?_); rintro e wy ⟨rfl, hb⟩; have d6 := (hb.cell (p := ⟨b5, off5 + k, none⟩) hb5).trans z0; have d0 := (hb.cell (p := ⟨w.heap.size, 0, none⟩) cl).trans c0; have d1 := (hb.cell (p := ⟨w.heap.size, 1, none⟩) cl).trans c1; have d2 := (hb.cell (p := ⟨w.heap.size, 2, none⟩) cl).trans c2; have d3 := (hb.cell (p := ⟨w.heap.size, 3, none⟩) cl).trans c3; have d4 := (hb.cell (p := ⟨w.heap.size, 4, none⟩) cl).trans c4; have d5 := (hb.cell (p := ⟨w.heap.size, 5, none⟩) cl).trans c5; have H9 := Lib.hid (HH.out.drew.trans (hb.mono HH.out.drew.size)); have K9 := Lib.hid ((show Blk wr.drew w.heap.size 25 #[.string s.nm, .slice I s.cols.length c1', .slice J s.idx.length c2', .int .i64 s.limit, .int .i64 s.parts, .int .i64 s.by_] from KK.out).below hb cl); have S9 := Lib.hid ((show Strs wr.drew (some ⟨b5, off5, none⟩) (keysI s vs s.idx.length) from HST2.out).keep hb); clear hb))
            go_wp2
            go_roundw
            case rel => exact ⟨k + 1, by omega, by go_num, H9.out, K9.out, S9.out⟩
            case measure => simp [intOf]; omega
          · have hkl : k = s.idx.length := by omega
            subst hkl
            go_upto_region 23 with fail
            have y0 := (hbl.cell (p := ⟨b, off + r * 3, none⟩) hbw).trans X0.out
            have y1 := (hbl.cell (p := ⟨b, off + r * 3 + 1, none⟩) hbw).trans X1.out
            have y2 := (hbl.cell (p := ⟨b, off + r * 3 + 2, none⟩) hbw).trans X2.out
            have hbx : b < wr.heap.size := Nat.lt_of_lt_of_le hbw hsz
            rw [hrr.out] at c5
            rw [hmm.out] at c4
            go_region_held3 (fun W => W.cell? ⟨w.heap.size, 5, none⟩ = some (.int .i64 r) ∧ W.cell? ⟨w.heap.size, 4, none⟩ = some (.int .i64 m) ∧ W.cell? ⟨b, off + r * 3, none⟩ = some (.int .i64 x.k) ∧ W.cell? ⟨b, off + r * 3 + 1, none⟩ = some (.int .i64 x.n) ∧ W.cell? ⟨b, off + r * 3 + 2, none⟩ = some (.string x.s))
              (first | exact ⟨c5, c4, y0, y1, y2⟩ | exact ⟨f5, f4, z0, z1, z2⟩ | exact ⟨g5, g4, t0, t1, t2⟩)
              (first
                | (go_at_call 25/-f-/; (with_reducible refine (SP.out _).mono ?_); rintro e wy ⟨rfl, hb⟩; have H8 := Lib.hid (show Below w.heap.size w wy from HH.out.drew.trans (hb.mono HH.out.drew.size)); have f5 := (hb.cell (p := ⟨w.heap.size, 5, none⟩) cl).trans c5; have f4 := (hb.cell (p := ⟨w.heap.size, 4, none⟩) cl).trans c4; have z0 := (hb.cell (p := ⟨b, off + r * 3, none⟩) hbx).trans y0; have z1 := (hb.cell (p := ⟨b, off + r * 3 + 1, none⟩) hbx).trans y1; have z2 := (hb.cell (p := ⟨b, off + r * 3 + 2, none⟩) hbx).trans y2; have fl := Nat.lt_of_lt_of_le cl hb.size; have fb := Nat.lt_of_lt_of_le hbx hb.size; clear hb)
                | (go_at_call 8/-f-/; (with_reducible refine (awake_any _).mono ?_); rintro e wz ⟨rfl, hb⟩; have H9 := Lib.hid (show Below w.heap.size w wz from H8.out.trans (hb.mono H8.out.size)); have g5 := (hb.cell (p := ⟨w.heap.size, 5, none⟩) fl).trans f5; have g4 := (hb.cell (p := ⟨w.heap.size, 4, none⟩) fl).trans f4; have t0 := (hb.cell (p := ⟨b, off + r * 3, none⟩) fb).trans z0; have t1 := (hb.cell (p := ⟨b, off + r * 3 + 1, none⟩) fb).trans z1; have t2 := (hb.cell (p := ⟨b, off + r * 3 + 2, none⟩) fb).trans z2; clear hb))
            go_wp2
            go_ret
            exact ⟨rfl, H9.out⟩
      · rw [decide_eq_false hup, Bool.and_false] at h5
        rw [h5] at eK sK
        simp only [Bool.false_eq_true, if_false] at eK sK
        rw [eK, sK] at KY'
        have KY := Lib.hid KY'
        clear KY' eK sK h5
        go_enter Try.func4, Try.ntmps4
        go_upto_region 18 with (first
              | (go_at_call 7/-f-/; (with_reducible refine (G1.out _ (HV.out.keep HH.out)).mono ?_); rintro e wx ⟨rfl, hb⟩; replace KK := Lib.hid (KK.out.below hb KK.out.lt); replace HH := Lib.hid (HH.out.trans (hb.mono HH.out.size)); (try replace ST := Lib.hid (Strs.keep ST.out hb)); replace c0 := KK.out.cell 0; replace c1 := KK.out.cell 1; replace c2 := KK.out.cell 2; replace c3 := KK.out.cell 3; replace c4 := KK.out.cell 4; replace c5 := KK.out.cell 5; replace cl := KK.out.lt; simp only [List.getElem?_toArray, List.getElem?_cons_zero, List.getElem?_cons_succ] at c0 c1 c2 c3 c4 c5; clear hb)
              | (go_at_call 19/-f-/; (with_reducible refine (GA.out _ (HA.out.keep HH.out)).mono ?_); rintro e wx ⟨rfl, rfl⟩)
              | (go_at_call 13/-f-/; (with_reducible refine (RR.out _ (HV.out.keep HH.out)).mono ?_); rintro e wx ⟨rfl, hb⟩; replace KK := Lib.hid (KK.out.below hb KK.out.lt); replace HH := Lib.hid (HH.out.trans (hb.mono HH.out.size)); (try replace ST := Lib.hid (Strs.keep ST.out hb)); replace c0 := KK.out.cell 0; replace c1 := KK.out.cell 1; replace c2 := KK.out.cell 2; replace c3 := KK.out.cell 3; replace c4 := KK.out.cell 4; replace c5 := KK.out.cell 5; replace cl := KK.out.lt; simp only [List.getElem?_toArray, List.getElem?_cons_zero, List.getElem?_cons_succ] at c0 c1 c2 c3 c4 c5; clear hb)
              | (go_at_call 14/-f-/; (with_reducible refine (RF.out _ (HV.out.keep HH.out) (HA.out.keep HH.out)).mono ?_); rintro e wx ⟨rfl, hb⟩; replace KK := Lib.hid (KK.out.below hb KK.out.lt); replace HH := Lib.hid (HH.out.trans (hb.mono HH.out.size)); (try replace ST := Lib.hid (Strs.keep ST.out hb)); replace c0 := KK.out.cell 0; replace c1 := KK.out.cell 1; replace c2 := KK.out.cell 2; replace c3 := KK.out.cell 3; replace c4 := KK.out.cell 4; replace c5 := KK.out.cell 5; replace cl := KK.out.lt; simp only [List.getElem?_toArray, List.getElem?_cons_zero, List.getElem?_cons_succ] at c0 c1 c2 c3 c4 c5; clear hb)
              | (go_at_call 20/-f-/; (with_reducible refine (KY.out _ (HV.out.keep HH.out) (HA.out.keep HH.out)).mono ?_); rintro e wx ⟨rfl, hb⟩; replace KK := Lib.hid (KK.out.below hb KK.out.lt); replace HH := Lib.hid (HH.out.trans (hb.mono HH.out.size)); (try replace ST := Lib.hid (Strs.keep ST.out hb)); replace c0 := KK.out.cell 0; replace c1 := KK.out.cell 1; replace c2 := KK.out.cell 2; replace c3 := KK.out.cell 3; replace c4 := KK.out.cell 4; replace c5 := KK.out.cell 5; replace cl := KK.out.lt; simp only [List.getElem?_toArray, List.getElem?_cons_zero, List.getElem?_cons_succ] at c0 c1 c2 c3 c4 c5; clear hb)
              | (go_at_call 21/-f-/; (with_reducible refine (KS.out _ (HV.out.keep HH.out) (HA.out.keep HH.out)).mono ?_); rintro e wx ⟨⟨A5, k5, rfl, hst⟩, hb⟩; have ST9 := Lib.hid hst; clear hst; replace KK := Lib.hid (KK.out.below hb KK.out.lt); replace HH := Lib.hid (HH.out.trans (hb.mono HH.out.size)); (try replace ST := Lib.hid (Strs.keep ST.out hb)); replace c0 := KK.out.cell 0; replace c1 := KK.out.cell 1; replace c2 := KK.out.cell 2; replace c3 := KK.out.cell 3; replace c4 := KK.out.cell 4; replace c5 := KK.out.cell 5; replace cl := KK.out.lt; simp only [List.getElem?_toArray, List.getElem?_cons_zero, List.getElem?_cons_succ] at c0 c1 c2 c3 c4 c5; clear hb; have ST := ST9; clear ST9)
              | (go_at_call 22/-f-/; (with_reducible refine (PT.out _ (HV.out.keep HH.out) (HA.out.keep HH.out)).mono ?_); rintro e wx ⟨rfl, hb⟩; replace KK := Lib.hid (KK.out.below hb KK.out.lt); replace HH := Lib.hid (HH.out.trans (hb.mono HH.out.size)); (try replace ST := Lib.hid (Strs.keep ST.out hb)); replace c0 := KK.out.cell 0; replace c1 := KK.out.cell 1; replace c2 := KK.out.cell 2; replace c3 := KK.out.cell 3; replace c4 := KK.out.cell 4; replace c5 := KK.out.cell 5; replace cl := KK.out.lt; simp only [List.getElem?_toArray, List.getElem?_cons_zero, List.getElem?_cons_succ] at c0 c1 c2 c3 c4 c5; clear hb)
              | (go_at_call 23/-f-/; (with_reducible refine (FT.out _ (HV.out.keep HH.out) (HA.out.keep HH.out)).mono ?_); rintro e wx ⟨rfl, hb⟩; replace KK := Lib.hid (KK.out.below hb KK.out.lt); replace HH := Lib.hid (HH.out.trans (hb.mono HH.out.size)); (try replace ST := Lib.hid (Strs.keep ST.out hb)); replace c0 := KK.out.cell 0; replace c1 := KK.out.cell 1; replace c2 := KK.out.cell 2; replace c3 := KK.out.cell 3; replace c4 := KK.out.cell 4; replace c5 := KK.out.cell 5; replace cl := KK.out.lt; simp only [List.getElem?_toArray, List.getElem?_cons_zero, List.getElem?_cons_succ] at c0 c1 c2 c3 c4 c5; clear hb))
        have HST := ST
        clear ST
        have KK1 := KK
        have HH1 := HH
        clear KK HH
        go_wp2
        go_loopw [17] (fun j wr => ∃ k : Nat, k ≤ s.idx.length ∧ j = .int .i64 k ∧ Below w.heap.size w wr ∧ Blk wr w.heap.size 25 #[.string s.nm, .slice I s.cols.length c1', .slice J s.idx.length c2', .int .i64 s.limit, .int .i64 s.parts, .int .i64 s.by_] ∧ Strs wr A5 (keysI s vs s.idx.length)) (fun j _ => s.idx.length - (intOf j).toNat)
        case atStart => exact ⟨0, Nat.zero_le _, rfl, HH1.out, KK1.out, HST.out⟩
        case round =>
          clear c0 c1 c2 c3 c4 c5 cl
          obtain ⟨k, hk, rfl, hbl, hbk, hst⟩ := hrel
          have hsz := hbl.size
          have c0 := hbk.cell 0
          have c1 := hbk.cell 1
          have c2 := hbk.cell 2
          have c3 := hbk.cell 3
          have c4 := hbk.cell 4
          have c5 := hbk.cell 5
          have cl := hbk.lt
          simp only [List.getElem?_toArray, List.getElem?_cons_zero, List.getElem?_cons_succ] at c0 c1 c2 c3 c4 c5
          have KK := Lib.hid hbk
          have HH := Lib.hid hbl
          have HST2 := Lib.hid hst
          clear hbk hst
          by_cases hlt : k < s.idx.length
          · have hlti : (k : Int) < s.idx.length := by omega
            rcases HST2.out with h | ⟨b5, off5, rfl, hb5, hc5⟩
            · have := keysI_len s vs s.idx.length
              rw [h] at this; simp at this; omega
            have z0 := hc5 k (by rw [keysI_len]; exact hlt)
            rw [keysI_at s vs s.idx.length k hlt] at z0
            have RKk := Lib.hid (fun W hW hW2 => RK.out W k hlt hW hW2)
            clear hc5
            obtain ⟨T, hT⟩ : ∃ T : ByteArray, T = ⟨(keyX s.idx k vs).toArray⟩ := ⟨_, rfl⟩
            rw [← hT] at z0 RKk
            clear hT
            go_upto_region 21 with fail
            go_region_held3 (fun W => W.cell? ⟨b5, off5 + k, none⟩ = some (.string T) ∧ W.cell? ⟨w.heap.size, 0, none⟩ = some (.string s.nm) ∧ W.cell? ⟨w.heap.size, 1, none⟩ = some (.slice I s.cols.length c1') ∧ W.cell? ⟨w.heap.size, 2, none⟩ = some (.slice J s.idx.length c2') ∧ W.cell? ⟨w.heap.size, 3, none⟩ = some (.int .i64 s.limit) ∧ W.cell? ⟨w.heap.size, 4, none⟩ = some (.int .i64 s.parts) ∧ W.cell? ⟨w.heap.size, 5, none⟩ = some (.int .i64 s.by_))
              (first | exact ⟨z0, c0, c1, c2, c3, c4, c5⟩ | exact ⟨d6, d0, d1, d2, d3, d4, d5⟩)
              (first
                | (go_at_call 24/-f-/; (with_reducible refine (RKk.out _ (HV.out.keep HH.out.drew) (HA.out.keep HH.out.drew)).mono ?_); rintro e wy ⟨rfl, hb⟩; have d6 := (hb.cell (p := ⟨b5, off5 + k, none⟩) hb5).trans z0; have d0 := (hb.cell (p := ⟨w.heap.size, 0, none⟩) cl).trans c0; have d1 := (hb.cell (p := ⟨w.heap.size, 1, none⟩) cl).trans c1; have d2 := (hb.cell (p := ⟨w.heap.size, 2, none⟩) cl).trans c2; have d3 := (hb.cell (p := ⟨w.heap.size, 3, none⟩) cl).trans c3; have d4 := (hb.cell (p := ⟨w.heap.size, 4, none⟩) cl).trans c4; have d5 := (hb.cell (p := ⟨w.heap.size, 5, none⟩) cl).trans c5; have H9 := Lib.hid (HH.out.drew.trans (hb.mono HH.out.drew.size)); have K9 := Lib.hid ((show Blk wr.drew w.heap.size 25 #[.string s.nm, .slice I s.cols.length c1', .slice J s.idx.length c2', .int .i64 s.limit, .int .i64 s.parts, .int .i64 s.by_] from KK.out).below hb cl); have S9 := Lib.hid ((show Strs wr.drew (some ⟨b5, off5, none⟩) (keysI s vs s.idx.length) from HST2.out).keep hb); clear hb))
            go_wp2
            go_roundw
            case rel => exact ⟨k + 1, by omega, by go_num, H9.out, K9.out, S9.out⟩
            case measure => simp [intOf]; omega
          · have hkl : k = s.idx.length := by omega
            subst hkl
            go_upto_region 23 with fail
            have y0 := (hbl.cell (p := ⟨b, off + r * 3, none⟩) hbw).trans X0.out
            have y1 := (hbl.cell (p := ⟨b, off + r * 3 + 1, none⟩) hbw).trans X1.out
            have y2 := (hbl.cell (p := ⟨b, off + r * 3 + 2, none⟩) hbw).trans X2.out
            have hbx : b < wr.heap.size := Nat.lt_of_lt_of_le hbw hsz
            rw [hrr.out] at c5
            rw [hmm.out] at c4
            go_region_held3 (fun W => W.cell? ⟨w.heap.size, 5, none⟩ = some (.int .i64 r) ∧ W.cell? ⟨w.heap.size, 4, none⟩ = some (.int .i64 m) ∧ W.cell? ⟨b, off + r * 3, none⟩ = some (.int .i64 x.k) ∧ W.cell? ⟨b, off + r * 3 + 1, none⟩ = some (.int .i64 x.n) ∧ W.cell? ⟨b, off + r * 3 + 2, none⟩ = some (.string x.s))
              (first | exact ⟨c5, c4, y0, y1, y2⟩ | exact ⟨f5, f4, z0, z1, z2⟩ | exact ⟨g5, g4, t0, t1, t2⟩)
              (first
                | (go_at_call 25/-f-/; (with_reducible refine (SP.out _).mono ?_); rintro e wy ⟨rfl, hb⟩; have H8 := Lib.hid (show Below w.heap.size w wy from HH.out.drew.trans (hb.mono HH.out.drew.size)); have f5 := (hb.cell (p := ⟨w.heap.size, 5, none⟩) cl).trans c5; have f4 := (hb.cell (p := ⟨w.heap.size, 4, none⟩) cl).trans c4; have z0 := (hb.cell (p := ⟨b, off + r * 3, none⟩) hbx).trans y0; have z1 := (hb.cell (p := ⟨b, off + r * 3 + 1, none⟩) hbx).trans y1; have z2 := (hb.cell (p := ⟨b, off + r * 3 + 2, none⟩) hbx).trans y2; have fl := Nat.lt_of_lt_of_le cl hb.size; have fb := Nat.lt_of_lt_of_le hbx hb.size; clear hb)
                | (go_at_call 8/-f-/; (with_reducible refine (awake_any _).mono ?_); rintro e wz ⟨rfl, hb⟩; have H9 := Lib.hid (show Below w.heap.size w wz from H8.out.trans (hb.mono H8.out.size)); have g5 := (hb.cell (p := ⟨w.heap.size, 5, none⟩) fl).trans f5; have g4 := (hb.cell (p := ⟨w.heap.size, 4, none⟩) fl).trans f4; have t0 := (hb.cell (p := ⟨b, off + r * 3, none⟩) fb).trans z0; have t1 := (hb.cell (p := ⟨b, off + r * 3 + 1, none⟩) fb).trans z1; have t2 := (hb.cell (p := ⟨b, off + r * 3 + 2, none⟩) fb).trans z2; clear hb))
            go_wp2
            go_ret
            exact ⟨rfl, H9.out⟩
    · rw [decide_eq_false hlo, Bool.false_and] at h5
      rw [h5] at eK sK
      simp only [Bool.false_eq_true, if_false] at eK sK
      rw [eK, sK] at KY'
      have KY := Lib.hid KY'
      clear KY' eK sK h5
      go_enter Try.func4, Try.ntmps4
      go_upto_region 18 with (first
            | (go_at_call 7/-f-/; (with_reducible refine (G1.out _ (HV.out.keep HH.out)).mono ?_); rintro e wx ⟨rfl, hb⟩; replace KK := Lib.hid (KK.out.below hb KK.out.lt); replace HH := Lib.hid (HH.out.trans (hb.mono HH.out.size)); (try replace ST := Lib.hid (Strs.keep ST.out hb)); replace c0 := KK.out.cell 0; replace c1 := KK.out.cell 1; replace c2 := KK.out.cell 2; replace c3 := KK.out.cell 3; replace c4 := KK.out.cell 4; replace c5 := KK.out.cell 5; replace cl := KK.out.lt; simp only [List.getElem?_toArray, List.getElem?_cons_zero, List.getElem?_cons_succ] at c0 c1 c2 c3 c4 c5; clear hb)
            | (go_at_call 19/-f-/; (with_reducible refine (GA.out _ (HA.out.keep HH.out)).mono ?_); rintro e wx ⟨rfl, rfl⟩)
            | (go_at_call 13/-f-/; (with_reducible refine (RR.out _ (HV.out.keep HH.out)).mono ?_); rintro e wx ⟨rfl, hb⟩; replace KK := Lib.hid (KK.out.below hb KK.out.lt); replace HH := Lib.hid (HH.out.trans (hb.mono HH.out.size)); (try replace ST := Lib.hid (Strs.keep ST.out hb)); replace c0 := KK.out.cell 0; replace c1 := KK.out.cell 1; replace c2 := KK.out.cell 2; replace c3 := KK.out.cell 3; replace c4 := KK.out.cell 4; replace c5 := KK.out.cell 5; replace cl := KK.out.lt; simp only [List.getElem?_toArray, List.getElem?_cons_zero, List.getElem?_cons_succ] at c0 c1 c2 c3 c4 c5; clear hb)
            | (go_at_call 14/-f-/; (with_reducible refine (RF.out _ (HV.out.keep HH.out) (HA.out.keep HH.out)).mono ?_); rintro e wx ⟨rfl, hb⟩; replace KK := Lib.hid (KK.out.below hb KK.out.lt); replace HH := Lib.hid (HH.out.trans (hb.mono HH.out.size)); (try replace ST := Lib.hid (Strs.keep ST.out hb)); replace c0 := KK.out.cell 0; replace c1 := KK.out.cell 1; replace c2 := KK.out.cell 2; replace c3 := KK.out.cell 3; replace c4 := KK.out.cell 4; replace c5 := KK.out.cell 5; replace cl := KK.out.lt; simp only [List.getElem?_toArray, List.getElem?_cons_zero, List.getElem?_cons_succ] at c0 c1 c2 c3 c4 c5; clear hb)
            | (go_at_call 20/-f-/; (with_reducible refine (KY.out _ (HV.out.keep HH.out) (HA.out.keep HH.out)).mono ?_); rintro e wx ⟨rfl, hb⟩; replace KK := Lib.hid (KK.out.below hb KK.out.lt); replace HH := Lib.hid (HH.out.trans (hb.mono HH.out.size)); (try replace ST := Lib.hid (Strs.keep ST.out hb)); replace c0 := KK.out.cell 0; replace c1 := KK.out.cell 1; replace c2 := KK.out.cell 2; replace c3 := KK.out.cell 3; replace c4 := KK.out.cell 4; replace c5 := KK.out.cell 5; replace cl := KK.out.lt; simp only [List.getElem?_toArray, List.getElem?_cons_zero, List.getElem?_cons_succ] at c0 c1 c2 c3 c4 c5; clear hb)
            | (go_at_call 21/-f-/; (with_reducible refine (KS.out _ (HV.out.keep HH.out) (HA.out.keep HH.out)).mono ?_); rintro e wx ⟨⟨A5, k5, rfl, hst⟩, hb⟩; have ST9 := Lib.hid hst; clear hst; replace KK := Lib.hid (KK.out.below hb KK.out.lt); replace HH := Lib.hid (HH.out.trans (hb.mono HH.out.size)); (try replace ST := Lib.hid (Strs.keep ST.out hb)); replace c0 := KK.out.cell 0; replace c1 := KK.out.cell 1; replace c2 := KK.out.cell 2; replace c3 := KK.out.cell 3; replace c4 := KK.out.cell 4; replace c5 := KK.out.cell 5; replace cl := KK.out.lt; simp only [List.getElem?_toArray, List.getElem?_cons_zero, List.getElem?_cons_succ] at c0 c1 c2 c3 c4 c5; clear hb; have ST := ST9; clear ST9)
            | (go_at_call 22/-f-/; (with_reducible refine (PT.out _ (HV.out.keep HH.out) (HA.out.keep HH.out)).mono ?_); rintro e wx ⟨rfl, hb⟩; replace KK := Lib.hid (KK.out.below hb KK.out.lt); replace HH := Lib.hid (HH.out.trans (hb.mono HH.out.size)); (try replace ST := Lib.hid (Strs.keep ST.out hb)); replace c0 := KK.out.cell 0; replace c1 := KK.out.cell 1; replace c2 := KK.out.cell 2; replace c3 := KK.out.cell 3; replace c4 := KK.out.cell 4; replace c5 := KK.out.cell 5; replace cl := KK.out.lt; simp only [List.getElem?_toArray, List.getElem?_cons_zero, List.getElem?_cons_succ] at c0 c1 c2 c3 c4 c5; clear hb)
            | (go_at_call 23/-f-/; (with_reducible refine (FT.out _ (HV.out.keep HH.out) (HA.out.keep HH.out)).mono ?_); rintro e wx ⟨rfl, hb⟩; replace KK := Lib.hid (KK.out.below hb KK.out.lt); replace HH := Lib.hid (HH.out.trans (hb.mono HH.out.size)); (try replace ST := Lib.hid (Strs.keep ST.out hb)); replace c0 := KK.out.cell 0; replace c1 := KK.out.cell 1; replace c2 := KK.out.cell 2; replace c3 := KK.out.cell 3; replace c4 := KK.out.cell 4; replace c5 := KK.out.cell 5; replace cl := KK.out.lt; simp only [List.getElem?_toArray, List.getElem?_cons_zero, List.getElem?_cons_succ] at c0 c1 c2 c3 c4 c5; clear hb))
      have HST := ST
      clear ST
      have KK1 := KK
      have HH1 := HH
      clear KK HH
      go_wp2
      go_loopw [17] (fun j wr => ∃ k : Nat, k ≤ s.idx.length ∧ j = .int .i64 k ∧ Below w.heap.size w wr ∧ Blk wr w.heap.size 25 #[.string s.nm, .slice I s.cols.length c1', .slice J s.idx.length c2', .int .i64 s.limit, .int .i64 s.parts, .int .i64 s.by_] ∧ Strs wr A5 (keysI s vs s.idx.length)) (fun j _ => s.idx.length - (intOf j).toNat)
      case atStart => exact ⟨0, Nat.zero_le _, rfl, HH1.out, KK1.out, HST.out⟩
      case round =>
        clear c0 c1 c2 c3 c4 c5 cl
        obtain ⟨k, hk, rfl, hbl, hbk, hst⟩ := hrel
        have hsz := hbl.size
        have c0 := hbk.cell 0
        have c1 := hbk.cell 1
        have c2 := hbk.cell 2
        have c3 := hbk.cell 3
        have c4 := hbk.cell 4
        have c5 := hbk.cell 5
        have cl := hbk.lt
        simp only [List.getElem?_toArray, List.getElem?_cons_zero, List.getElem?_cons_succ] at c0 c1 c2 c3 c4 c5
        have KK := Lib.hid hbk
        have HH := Lib.hid hbl
        have HST2 := Lib.hid hst
        clear hbk hst
        by_cases hlt : k < s.idx.length
        · have hlti : (k : Int) < s.idx.length := by omega
          rcases HST2.out with h | ⟨b5, off5, rfl, hb5, hc5⟩
          · have := keysI_len s vs s.idx.length
            rw [h] at this; simp at this; omega
          have z0 := hc5 k (by rw [keysI_len]; exact hlt)
          rw [keysI_at s vs s.idx.length k hlt] at z0
          have RKk := Lib.hid (fun W hW hW2 => RK.out W k hlt hW hW2)
          clear hc5
          obtain ⟨T, hT⟩ : ∃ T : ByteArray, T = ⟨(keyX s.idx k vs).toArray⟩ := ⟨_, rfl⟩
          rw [← hT] at z0 RKk
          clear hT
          go_upto_region 21 with fail
          go_region_held3 (fun W => W.cell? ⟨b5, off5 + k, none⟩ = some (.string T) ∧ W.cell? ⟨w.heap.size, 0, none⟩ = some (.string s.nm) ∧ W.cell? ⟨w.heap.size, 1, none⟩ = some (.slice I s.cols.length c1') ∧ W.cell? ⟨w.heap.size, 2, none⟩ = some (.slice J s.idx.length c2') ∧ W.cell? ⟨w.heap.size, 3, none⟩ = some (.int .i64 s.limit) ∧ W.cell? ⟨w.heap.size, 4, none⟩ = some (.int .i64 s.parts) ∧ W.cell? ⟨w.heap.size, 5, none⟩ = some (.int .i64 s.by_))
            (first | exact ⟨z0, c0, c1, c2, c3, c4, c5⟩ | exact ⟨d6, d0, d1, d2, d3, d4, d5⟩)
            (first
              | (go_at_call 24/-f-/; (with_reducible refine (RKk.out _ (HV.out.keep HH.out.drew) (HA.out.keep HH.out.drew)).mono ?_); rintro e wy ⟨rfl, hb⟩; have d6 := (hb.cell (p := ⟨b5, off5 + k, none⟩) hb5).trans z0; have d0 := (hb.cell (p := ⟨w.heap.size, 0, none⟩) cl).trans c0; have d1 := (hb.cell (p := ⟨w.heap.size, 1, none⟩) cl).trans c1; have d2 := (hb.cell (p := ⟨w.heap.size, 2, none⟩) cl).trans c2; have d3 := (hb.cell (p := ⟨w.heap.size, 3, none⟩) cl).trans c3; have d4 := (hb.cell (p := ⟨w.heap.size, 4, none⟩) cl).trans c4; have d5 := (hb.cell (p := ⟨w.heap.size, 5, none⟩) cl).trans c5; have H9 := Lib.hid (HH.out.drew.trans (hb.mono HH.out.drew.size)); have K9 := Lib.hid ((show Blk wr.drew w.heap.size 25 #[.string s.nm, .slice I s.cols.length c1', .slice J s.idx.length c2', .int .i64 s.limit, .int .i64 s.parts, .int .i64 s.by_] from KK.out).below hb cl); have S9 := Lib.hid ((show Strs wr.drew (some ⟨b5, off5, none⟩) (keysI s vs s.idx.length) from HST2.out).keep hb); clear hb))
          go_wp2
          go_roundw
          case rel => exact ⟨k + 1, by omega, by go_num, H9.out, K9.out, S9.out⟩
          case measure => simp [intOf]; omega
        · have hkl : k = s.idx.length := by omega
          subst hkl
          go_upto_region 23 with fail
          have y0 := (hbl.cell (p := ⟨b, off + r * 3, none⟩) hbw).trans X0.out
          have y1 := (hbl.cell (p := ⟨b, off + r * 3 + 1, none⟩) hbw).trans X1.out
          have y2 := (hbl.cell (p := ⟨b, off + r * 3 + 2, none⟩) hbw).trans X2.out
          have hbx : b < wr.heap.size := Nat.lt_of_lt_of_le hbw hsz
          rw [hrr.out] at c5
          rw [hmm.out] at c4
          go_region_held3 (fun W => W.cell? ⟨w.heap.size, 5, none⟩ = some (.int .i64 r) ∧ W.cell? ⟨w.heap.size, 4, none⟩ = some (.int .i64 m) ∧ W.cell? ⟨b, off + r * 3, none⟩ = some (.int .i64 x.k) ∧ W.cell? ⟨b, off + r * 3 + 1, none⟩ = some (.int .i64 x.n) ∧ W.cell? ⟨b, off + r * 3 + 2, none⟩ = some (.string x.s))
            (first | exact ⟨c5, c4, y0, y1, y2⟩ | exact ⟨f5, f4, z0, z1, z2⟩ | exact ⟨g5, g4, t0, t1, t2⟩)
            (first
              | (go_at_call 25/-f-/; (with_reducible refine (SP.out _).mono ?_); rintro e wy ⟨rfl, hb⟩; have H8 := Lib.hid (show Below w.heap.size w wy from HH.out.drew.trans (hb.mono HH.out.drew.size)); have f5 := (hb.cell (p := ⟨w.heap.size, 5, none⟩) cl).trans c5; have f4 := (hb.cell (p := ⟨w.heap.size, 4, none⟩) cl).trans c4; have z0 := (hb.cell (p := ⟨b, off + r * 3, none⟩) hbx).trans y0; have z1 := (hb.cell (p := ⟨b, off + r * 3 + 1, none⟩) hbx).trans y1; have z2 := (hb.cell (p := ⟨b, off + r * 3 + 2, none⟩) hbx).trans y2; have fl := Nat.lt_of_lt_of_le cl hb.size; have fb := Nat.lt_of_lt_of_le hbx hb.size; clear hb)
              | (go_at_call 8/-f-/; (with_reducible refine (awake_any _).mono ?_); rintro e wz ⟨rfl, hb⟩; have H9 := Lib.hid (show Below w.heap.size w wz from H8.out.trans (hb.mono H8.out.size)); have g5 := (hb.cell (p := ⟨w.heap.size, 5, none⟩) fl).trans f5; have g4 := (hb.cell (p := ⟨w.heap.size, 4, none⟩) fl).trans f4; have t0 := (hb.cell (p := ⟨b, off + r * 3, none⟩) fb).trans z0; have t1 := (hb.cell (p := ⟨b, off + r * 3 + 1, none⟩) fb).trans z1; have t2 := (hb.cell (p := ⟨b, off + r * 3 + 2, none⟩) fb).trans z2; clear hb))
          go_wp2
          go_ret
          exact ⟨rfl, H9.out⟩
theorem own : ownKnob Try.prog.godebug = none := by kernel_rfl
theorem laidOut : laidOutB Try.prog = true := by kernel_rfl
set_option maxRecDepth 100000 in
theorem lifted (os : Os) (started : os.Started) (H : Type) (enc : TypeId × Value → H) :
    ReturnsInHanded {} Try.checked os 4 .any (Rows.schemaFitsSpec.pre6 enc Try.prog Try.f4 Rows.schemaFitsRow.domain false) (Rows.schemaFitsSpec.post enc Try.prog Try.f4 false true false false) := by
  refine returnsInHanded_of_change (C := Try.checked) own started (by kernel_rfl) Try.func4
    (ChangeSpec.witness6 (enc := enc) (C := Try.checked) false ⟨#[], #[.agg #[.string ⟨#[]⟩, .slice none 0 0, .slice none 0 0, .int .i64 0, .int .i64 0, .int .i64 0], .slice none 0 0, .int .i64 0], []⟩ 8 (by kernel_rfl) (by kernel_rfl) (by kernel_rfl) (by kernel_rfl)) ?_
  intro W base args ds gs before hval0 hW hcnd _
  have hval : ∀ (j : Nat) t v, Try.f4.params[j]? = some t → args[j]? = some v → Value.okWide Try.prog W .any base t v := hval0
  have hW' := hW
  obtain ⟨p, q, hA0, hV, rfl, hfz, hnd⟩ := hW
  have hA : DataW.TrodAll enc Try.prog W 0 (fun _ => true) true Try.f4.params.toList args.toList ds p := hA0
  rw [Try.params4] at hA hval
  obtain ⟨v0, vs0, d0, ds0, p0, q0, hargs, rfl, rfl, h0, r0⟩ := trodAll_cons hA
  obtain ⟨v1, vs1, d1, ds1, p1, q1, rfl, rfl, rfl, h1, r1⟩ := trodAll_cons r0
  obtain ⟨v2, vs2, d2, ds2, p2, q2, rfl, rfl, rfl, h2, r2⟩ := trodAll_cons r1
  obtain ⟨rfl, rfl, rfl⟩ := trodAll_nil r2
  obtain rfl : args = #[v0, v1, v2] := by cases args; simp_all
  obtain ⟨rfl, rfl⟩ := trodVars_none hV
  have k0 := h0
  have lt0 : ∀ x ∈ p0, x.block < W.heap.size := by obtain ⟨m, hm⟩ := k0; exact DataW.trod_lt m _ _ _ hm
  obtain ⟨s0, S0, f0⟩ := open_sch (hval 0 25 v0 rfl rfl) h0
  obtain ⟨a1, len1, cap1, rfl⟩ := okWide_slice Try.underlying35 (hval 1 35 v1 rfl rfl)
  have k1 := h1
  have lt1 : ∀ x ∈ p1, x.block < W.heap.size := by obtain ⟨m, hm⟩ := k1; exact DataW.trod_lt m _ _ _ hm
  obtain ⟨fuel1, hf1⟩ := h1
  have hg1 : DataW.trod enc Try.prog W 0 (fun _ => true) true fuel1 35 [.slice a1 len1 cap1] = some (d1, p1) := by simpa [Value.cells] using hf1
  have o1 := open_vals hg1
  obtain ⟨le1, lc1, vs1, ln1, V1, ff1⟩ := o1
  obtain ⟨a2, rfl, rfl, rfl, w2⟩ := open_int Try.underlying3 (hval 2 3 v2 rfl rfl) h2
  have b2 := bounds_i64 w2
  clear hA0 hval0
  refine (walk v0 s0 a1 len1 cap1 vs1 a2 W S0 f0 V1 ln1 ff1 le1 b2.1 b2.2).mono fun e W' ⟨he, bel⟩ => ?_
  subst he
  exact ⟨_, rfl, _, _, _, [], _, [], hW', trodAll_mk1 (shut_bool Try.underlying4 _), (trodAll_cons_mk (Below.trod laidOut (by kernel_rfl) (of_decide_eq_true (by kernel_rfl)) k0 bel lt0) (trodAll_cons_mk (Below.trod laidOut (by kernel_rfl) (of_decide_eq_true (by kernel_rfl)) k1 bel lt1) (trodAll_cons_mk (shut_int Try.underlying3 w2) trodAll_mk0))), rfl, bel.frame _, fun h => by cases h⟩

theorem over : Rows.schemaFitsRow.holds Try.pinned (OpenSpec.ofChange Rows.schemaFitsSpec) :=
  OpenClaim.holds_of_wide 4 Try.f4 rfl rfl rfl rfl rfl rfl rfl ⟨rfl, rfl, rfl, rfl, rfl⟩ rfl rfl rfl rfl rfl (by kernel_rfl) Try.func4 (by kernel_rfl)
    (of_decide_eq_true (by kernel_rfl)) (by unfold Func.isWrapper; first | (rw [if_pos (by decide +kernel)]; kernel_rfl) | (rw [if_neg (by decide +kernel)]; exact ⟨rfl, rfl⟩))
    (fun os started H enc _ => lifted os started H enc)

theorem proved : Rows.SchemaFitsSaid := over

end Go.Proofs.Ytddejkmfffeikaa.SchemaFits

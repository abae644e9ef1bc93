/- SchemaRights: whatever schemas and text: whether they are right, named, the same, a column's place, a copy and a row of nothing are the document's. No condition. -/
import Derived.Test.YtddejkmfffeikaaRows
import Derived.Test.YtddejkmfffeikaaRgl
import Derived.Test.YtddejkmfffeikaaSak
import Derived.Test.YtddejkmfffeikaaRfk
import Derived.Deep.RegionHeld3
namespace Go.Proofs.Ytddejkmfffeikaa.SchemaRights
open Go.ChangeShapes Go.WideShapes Go.ChangeAt Go.RowKit
set_option linter.unusedVariables false
set_option maxRecDepth 100000 in
set_option maxHeartbeats 64000000 in
theorem walk (v u : Value) (s t : Sch) (nm : ByteArray) (w : World) (hv : SchV w v s) (hu : SchV w u t) (hf : FitS s) (hf' : FitS t) (hnm : nm.size ≤ 9223372036854775807) :
    Calls Try.prog 3/-f-/ #[v, u, .string nm] w fun e w' => e = .returned (.bool true) ∧ Below w.heap.size w w' := by
  have HV := Lib.hid hv
  have HU := Lib.hid hu
  have HF := Lib.hid hf
  have HF' := Lib.hid hf'
  obtain ⟨A, B, k1, k2, rfl, hC, hI, _, _⟩ := hv.is
  obtain ⟨A', B', k3, k4, rfl, hC', hI', _, _⟩ := hu.is
  have HC := Lib.hid hC
  have HH := Lib.hid (((Below.refl w.heap.size w).alloc (Nat.le_refl _) (.cells #[.string s.nm, .slice A s.cols.length k1, .slice B s.idx.length k2, .int .i64 s.limit, .int .i64 s.parts, .int .i64 s.by_] 25)).alloc (by simp) (.cells #[.string t.nm, .slice A' t.cols.length k3, .slice B' t.idx.length k4, .int .i64 t.limit, .int .i64 t.parts, .int .i64 t.by_] 25))
  have KS := Lib.hid ((Blk.new w 25 #[.string s.nm, .slice A s.cols.length k1, .slice B s.idx.length k2, .int .i64 s.limit, .int .i64 s.parts, .int .i64 s.by_]).alloc (.cells #[.string t.nm, .slice A' t.cols.length k3, .slice B' t.idx.length k4, .int .i64 t.limit, .int .i64 t.parts, .int .i64 t.by_] 25))
  have KT := Lib.hid (show Blk ((w.alloc (.cells #[.string s.nm, .slice A s.cols.length k1, .slice B s.idx.length k2, .int .i64 s.limit, .int .i64 s.parts, .int .i64 s.by_] 25)).alloc (.cells #[.string t.nm, .slice A' t.cols.length k3, .slice B' t.idx.length k4, .int .i64 t.limit, .int .i64 t.parts, .int .i64 t.by_] 25)) (w.heap.size + 1) 25 #[.string t.nm, .slice A' t.cols.length k3, .slice B' t.idx.length k4, .int .i64 t.limit, .int .i64 t.parts, .int .i64 t.by_] from by have := Blk.new (w.alloc (.cells #[.string s.nm, .slice A s.cols.length k1, .slice B s.idx.length k2, .int .i64 s.limit, .int .i64 s.parts, .int .i64 s.by_] 25)) 25 #[.string t.nm, .slice A' t.cols.length k3, .slice B' t.idx.length k4, .int .i64 t.limit, .int .i64 t.parts, .int .i64 t.by_]; simpa using this)
  have s0 := KS.out.cell 0; have s1 := KS.out.cell 1; have s2 := KS.out.cell 2; have s3 := KS.out.cell 3; have s4 := KS.out.cell 4; have s5 := KS.out.cell 5; have sl := KS.out.lt; simp only [List.getElem?_toArray, List.getElem?_cons_zero, List.getElem?_cons_succ] at s0 s1 s2 s3 s4 s5
  have t0 := KT.out.cell 0; have t1 := KT.out.cell 1; have t2 := KT.out.cell 2; have t3 := KT.out.cell 3; have t4 := KT.out.cell 4; have t5 := KT.out.cell 5; have tl := KT.out.lt; simp only [List.getElem?_toArray, List.getElem?_cons_zero, List.getElem?_cons_succ] at t0 t1 t2 t3 t4 t5
  have G1' := fun W hW => great_sch (.agg #[.string s.nm, .slice A s.cols.length k1, .slice B s.idx.length k2, .int .i64 s.limit, .int .i64 s.parts, .int .i64 s.by_]) s W hW HF.out
  have G2' := fun W hW => great_sch (.agg #[.string t.nm, .slice A' t.cols.length k3, .slice B' t.idx.length k4, .int .i64 t.limit, .int .i64 t.parts, .int .i64 t.by_]) t W hW HF'.out
  clear hC hI hC' hI' hv hu hf hf'
  obtain ⟨q1, hq1⟩ : ∃ q, q = greatS s := ⟨_, rfl⟩
  obtain ⟨q2, hq2⟩ : ∃ q, q = greatS t := ⟨_, rfl⟩
  rw [← hq1] at G1'
  rw [← hq2] at G2'
  have HQ1 := Lib.hid hq1
  have HQ2 := Lib.hid hq2
  have G1 := Lib.hid G1'
  have G2 := Lib.hid G2'
  clear hq1 hq2 G1' G2'
  cases q1 with
  | true =>
    go_enter Try.func3, Try.ntmps3
    go_wp2_with (first
      | (go_at_call 7/-f-/; (with_reducible refine (G1.out _ (HV.out.keep HH.out)).mono ?_); rintro e wz ⟨rfl, hb⟩; replace KS := Lib.hid (KS.out.below hb KS.out.lt); replace KT := Lib.hid (KT.out.below hb KT.out.lt); replace HH := Lib.hid (HH.out.trans (hb.mono HH.out.size)); replace s0 := KS.out.cell 0; replace s1 := KS.out.cell 1; replace s2 := KS.out.cell 2; replace s3 := KS.out.cell 3; replace s4 := KS.out.cell 4; replace s5 := KS.out.cell 5; replace sl := KS.out.lt; simp only [List.getElem?_toArray, List.getElem?_cons_zero, List.getElem?_cons_succ] at s0 s1 s2 s3 s4 s5; replace t0 := KT.out.cell 0; replace t1 := KT.out.cell 1; replace t2 := KT.out.cell 2; replace t3 := KT.out.cell 3; replace t4 := KT.out.cell 4; replace t5 := KT.out.cell 5; replace tl := KT.out.lt; simp only [List.getElem?_toArray, List.getElem?_cons_zero, List.getElem?_cons_succ] at t0 t1 t2 t3 t4 t5; clear hb)
      | (go_at_call 7/-f-/; (with_reducible refine (G2.out _ (HU.out.keep HH.out)).mono ?_); rintro e wz ⟨rfl, hb⟩; replace KS := Lib.hid (KS.out.below hb KS.out.lt); replace KT := Lib.hid (KT.out.below hb KT.out.lt); replace HH := Lib.hid (HH.out.trans (hb.mono HH.out.size)); replace s0 := KS.out.cell 0; replace s1 := KS.out.cell 1; replace s2 := KS.out.cell 2; replace s3 := KS.out.cell 3; replace s4 := KS.out.cell 4; replace s5 := KS.out.cell 5; replace sl := KS.out.lt; simp only [List.getElem?_toArray, List.getElem?_cons_zero, List.getElem?_cons_succ] at s0 s1 s2 s3 s4 s5; replace t0 := KT.out.cell 0; replace t1 := KT.out.cell 1; replace t2 := KT.out.cell 2; replace t3 := KT.out.cell 3; replace t4 := KT.out.cell 4; replace t5 := KT.out.cell 5; replace tl := KT.out.lt; simp only [List.getElem?_toArray, List.getElem?_cons_zero, List.getElem?_cons_succ] at t0 t1 t2 t3 t4 t5; clear hb)
      | (go_at_call 8/-f-/; (with_reducible refine (awake_any _).mono ?_); rintro e w9 ⟨rfl, hb⟩; have H9 := Lib.hid (HH.out.trans (hb.mono HH.out.size)); clear hb))
    go_ret
    exact ⟨rfl, H9.out⟩
  | false =>
  cases q2 with
  | true =>
    go_enter Try.func3, Try.ntmps3
    go_wp2_with (first
      | (go_at_call 7/-f-/; (with_reducible refine (G1.out _ (HV.out.keep HH.out)).mono ?_); rintro e wz ⟨rfl, hb⟩; replace KS := Lib.hid (KS.out.below hb KS.out.lt); replace KT := Lib.hid (KT.out.below hb KT.out.lt); replace HH := Lib.hid (HH.out.trans (hb.mono HH.out.size)); replace s0 := KS.out.cell 0; replace s1 := KS.out.cell 1; replace s2 := KS.out.cell 2; replace s3 := KS.out.cell 3; replace s4 := KS.out.cell 4; replace s5 := KS.out.cell 5; replace sl := KS.out.lt; simp only [List.getElem?_toArray, List.getElem?_cons_zero, List.getElem?_cons_succ] at s0 s1 s2 s3 s4 s5; replace t0 := KT.out.cell 0; replace t1 := KT.out.cell 1; replace t2 := KT.out.cell 2; replace t3 := KT.out.cell 3; replace t4 := KT.out.cell 4; replace t5 := KT.out.cell 5; replace tl := KT.out.lt; simp only [List.getElem?_toArray, List.getElem?_cons_zero, List.getElem?_cons_succ] at t0 t1 t2 t3 t4 t5; clear hb)
      | (go_at_call 7/-f-/; (with_reducible refine (G2.out _ (HU.out.keep HH.out)).mono ?_); rintro e wz ⟨rfl, hb⟩; replace KS := Lib.hid (KS.out.below hb KS.out.lt); replace KT := Lib.hid (KT.out.below hb KT.out.lt); replace HH := Lib.hid (HH.out.trans (hb.mono HH.out.size)); replace s0 := KS.out.cell 0; replace s1 := KS.out.cell 1; replace s2 := KS.out.cell 2; replace s3 := KS.out.cell 3; replace s4 := KS.out.cell 4; replace s5 := KS.out.cell 5; replace sl := KS.out.lt; simp only [List.getElem?_toArray, List.getElem?_cons_zero, List.getElem?_cons_succ] at s0 s1 s2 s3 s4 s5; replace t0 := KT.out.cell 0; replace t1 := KT.out.cell 1; replace t2 := KT.out.cell 2; replace t3 := KT.out.cell 3; replace t4 := KT.out.cell 4; replace t5 := KT.out.cell 5; replace tl := KT.out.lt; simp only [List.getElem?_toArray, List.getElem?_cons_zero, List.getElem?_cons_succ] at t0 t1 t2 t3 t4 t5; clear hb)
      | (go_at_call 8/-f-/; (with_reducible refine (awake_any _).mono ?_); rintro e w9 ⟨rfl, hb⟩; have H9 := Lib.hid (HH.out.trans (hb.mono HH.out.size)); clear hb))
    go_ret
    exact ⟨rfl, H9.out⟩
  | false =>
  by_cases hlong : 100 < nm.size
  · go_enter Try.func3, Try.ntmps3
    go_wp2_with (first
      | (go_at_call 7/-f-/; (with_reducible refine (G1.out _ (HV.out.keep HH.out)).mono ?_); rintro e wz ⟨rfl, hb⟩; replace KS := Lib.hid (KS.out.below hb KS.out.lt); replace KT := Lib.hid (KT.out.below hb KT.out.lt); replace HH := Lib.hid (HH.out.trans (hb.mono HH.out.size)); replace s0 := KS.out.cell 0; replace s1 := KS.out.cell 1; replace s2 := KS.out.cell 2; replace s3 := KS.out.cell 3; replace s4 := KS.out.cell 4; replace s5 := KS.out.cell 5; replace sl := KS.out.lt; simp only [List.getElem?_toArray, List.getElem?_cons_zero, List.getElem?_cons_succ] at s0 s1 s2 s3 s4 s5; replace t0 := KT.out.cell 0; replace t1 := KT.out.cell 1; replace t2 := KT.out.cell 2; replace t3 := KT.out.cell 3; replace t4 := KT.out.cell 4; replace t5 := KT.out.cell 5; replace tl := KT.out.lt; simp only [List.getElem?_toArray, List.getElem?_cons_zero, List.getElem?_cons_succ] at t0 t1 t2 t3 t4 t5; clear hb)
      | (go_at_call 7/-f-/; (with_reducible refine (G2.out _ (HU.out.keep HH.out)).mono ?_); rintro e wz ⟨rfl, hb⟩; replace KS := Lib.hid (KS.out.below hb KS.out.lt); replace KT := Lib.hid (KT.out.below hb KT.out.lt); replace HH := Lib.hid (HH.out.trans (hb.mono HH.out.size)); replace s0 := KS.out.cell 0; replace s1 := KS.out.cell 1; replace s2 := KS.out.cell 2; replace s3 := KS.out.cell 3; replace s4 := KS.out.cell 4; replace s5 := KS.out.cell 5; replace sl := KS.out.lt; simp only [List.getElem?_toArray, List.getElem?_cons_zero, List.getElem?_cons_succ] at s0 s1 s2 s3 s4 s5; replace t0 := KT.out.cell 0; replace t1 := KT.out.cell 1; replace t2 := KT.out.cell 2; replace t3 := KT.out.cell 3; replace t4 := KT.out.cell 4; replace t5 := KT.out.cell 5; replace tl := KT.out.lt; simp only [List.getElem?_toArray, List.getElem?_cons_zero, List.getElem?_cons_succ] at t0 t1 t2 t3 t4 t5; clear hb)
      | (go_at_call 8/-f-/; (with_reducible refine (awake_any _).mono ?_); rintro e w9 ⟨rfl, hb⟩; have H9 := Lib.hid (HH.out.trans (hb.mono HH.out.size)); clear hb))
    go_ret
    exact ⟨rfl, H9.out⟩
  have hnm1 : nm.size ≤ 100 := by omega
  have hs0 := greatS_no HQ1.out.symm
  have ht0 := greatS_no HQ2.out.symm
  have hcl := hs0.1
  have hil := hs0.2.1
  have htl := ht0.2.1
  have HXL := Lib.hid hs0.2.2.2.2
  clear hs0 ht0 hlong
  go_enter Try.func3, Try.ntmps3
  go_wp2_with (first
    | (go_at_call 7/-f-/; (with_reducible refine (G1.out _ (HV.out.keep HH.out)).mono ?_); rintro e wz ⟨rfl, hb⟩; replace KS := Lib.hid (KS.out.below hb KS.out.lt); replace KT := Lib.hid (KT.out.below hb KT.out.lt); replace HH := Lib.hid (HH.out.trans (hb.mono HH.out.size)); replace s0 := KS.out.cell 0; replace s1 := KS.out.cell 1; replace s2 := KS.out.cell 2; replace s3 := KS.out.cell 3; replace s4 := KS.out.cell 4; replace s5 := KS.out.cell 5; replace sl := KS.out.lt; simp only [List.getElem?_toArray, List.getElem?_cons_zero, List.getElem?_cons_succ] at s0 s1 s2 s3 s4 s5; replace t0 := KT.out.cell 0; replace t1 := KT.out.cell 1; replace t2 := KT.out.cell 2; replace t3 := KT.out.cell 3; replace t4 := KT.out.cell 4; replace t5 := KT.out.cell 5; replace tl := KT.out.lt; simp only [List.getElem?_toArray, List.getElem?_cons_zero, List.getElem?_cons_succ] at t0 t1 t2 t3 t4 t5; clear hb)
    | (go_at_call 7/-f-/; (with_reducible refine (G2.out _ (HU.out.keep HH.out)).mono ?_); rintro e wz ⟨rfl, hb⟩; replace KS := Lib.hid (KS.out.below hb KS.out.lt); replace KT := Lib.hid (KT.out.below hb KT.out.lt); replace HH := Lib.hid (HH.out.trans (hb.mono HH.out.size)); replace s0 := KS.out.cell 0; replace s1 := KS.out.cell 1; replace s2 := KS.out.cell 2; replace s3 := KS.out.cell 3; replace s4 := KS.out.cell 4; replace s5 := KS.out.cell 5; replace sl := KS.out.lt; simp only [List.getElem?_toArray, List.getElem?_cons_zero, List.getElem?_cons_succ] at s0 s1 s2 s3 s4 s5; replace t0 := KT.out.cell 0; replace t1 := KT.out.cell 1; replace t2 := KT.out.cell 2; replace t3 := KT.out.cell 3; replace t4 := KT.out.cell 4; replace t5 := KT.out.cell 5; replace tl := KT.out.lt; simp only [List.getElem?_toArray, List.getElem?_cons_zero, List.getElem?_cons_succ] at t0 t1 t2 t3 t4 t5; clear hb))
  go_loop [7, 8] (fun a i => ∃ k : Nat, k ≤ s.cols.length ∧ i = .int .i64 ((k : Int) - 1) ∧ a = .int .i64 (colJ nm (s.cols.drop k) k)) (fun _ i => (intOf i + 1).toNat)
  case atStart => exact ⟨s.cols.length, Nat.le_refl _, rfl, by rw [colJ_end]⟩
  case round =>
    obtain ⟨k, hk, rfl, rfl⟩ := hrel
    cases k with
    | succ j =>
      rw [show ((j + 1 : Nat) : Int) - 1 = j by omega]
      have hlt : j < s.cols.length := by omega
      rcases HC.out with h | ⟨b, off, rfl, hbw, hcell⟩
      · rw [h] at hlt; simp at hlt
      obtain ⟨x0, x1⟩ := hcell j hlt
      replace x0 := (HH.out.cell (p := ⟨b, off + j * 2, none⟩) hbw).trans x0
      have hbx := Nat.lt_of_lt_of_le hbw HH.out.size
      have HS := Lib.hid (colJ_drop nm s.cols j hlt)
      have hji : (j : Int) < s.cols.length := by omega
      clear hcell x1
      generalize s.cols.getD j default = x at *
      obtain ⟨xn, xk⟩ := x
      simp only at x0 HS
      obtain ⟨q, hq⟩ : ∃ q, q = decide (xn = nm) := ⟨_, rfl⟩
      have e1 : (xn.toList == nm.toList) = q := by rw [hq]; exact str_eq_dec _ _
      have HQ := Lib.hid hq
      clear hq
      cases q with
      | true =>
        have HE := Lib.hid (show colJ nm (s.cols.drop j) j = j from by rw [HS.out, if_pos (of_decide_eq_true HQ.out.symm)])
        go_wp2
        go_round
        case rel => exact ⟨j, by omega, by go_num, by rw [HE.out]⟩
        case measure => simp [intOf]
      | false =>
        have HE := Lib.hid (show colJ nm (s.cols.drop j) j = colJ nm (s.cols.drop (j + 1)) (j + 1) from by rw [HS.out, if_neg (of_decide_eq_false HQ.out.symm)])
        generalize colJ nm (s.cols.drop (j + 1)) (j + 1) = aj at *
        go_wp2
        go_round
        case rel => exact ⟨j, by omega, by go_num, by rw [HE.out]⟩
        case measure => simp [intOf]
    | zero =>
      rw [show ((0 : Nat) : Int) - 1 = -1 by omega, List.drop_zero]
      obtain ⟨at0, hat0⟩ : ∃ a, a = colJ nm s.cols 0 := ⟨_, rfl⟩
      rw [← hat0]
      have HAT := Lib.hid hat0
      clear hat0 hk
      have CP := Lib.hid (fun W hW => copy_any (.agg #[.string s.nm, .slice A s.cols.length k1, .slice B s.idx.length k2, .int .i64 s.limit, .int .i64 s.parts, .int .i64 s.by_]) s W hW (by omega) (by omega) (fun x hx => by have := HXL.out x hx; omega))
      obtain ⟨qst, hqst⟩ : ∃ q, q = sameS s t := ⟨_, rfl⟩
      have P1' := fun W hW hW2 => refsame_sch (.agg #[.string s.nm, .slice A s.cols.length k1, .slice B s.idx.length k2, .int .i64 s.limit, .int .i64 s.parts, .int .i64 s.by_]) (.agg #[.string t.nm, .slice A' t.cols.length k3, .slice B' t.idx.length k4, .int .i64 t.limit, .int .i64 t.parts, .int .i64 t.by_]) s t W hW hW2 HF.out HF'.out (by omega) (by omega)
      have P2' := fun W hW hW2 => same_sch (.agg #[.string s.nm, .slice A s.cols.length k1, .slice B s.idx.length k2, .int .i64 s.limit, .int .i64 s.parts, .int .i64 s.by_]) (.agg #[.string t.nm, .slice A' t.cols.length k3, .slice B' t.idx.length k4, .int .i64 t.limit, .int .i64 t.parts, .int .i64 t.by_]) s t W hW hW2 HF.out HF'.out (by omega) (by omega)
      rw [← hqst] at P1' P2'
      have P1 := Lib.hid P1'
      have P2 := Lib.hid P2'
      clear P1' P2' hqst
      go_upto_region 10 with (first
        | (go_at_call 9/-f-/; (with_reducible refine (CP.out _ (HV.out.keep HH.out)).mono ?_); rintro e wx ⟨⟨uv, rfl, hcv⟩, hb⟩; obtain ⟨A6, B6, k5, k6, xs, rfl, hcp⟩ := hcv.parts; obtain ⟨bs, hbs, hcp⟩ : ∃ b, w.heap.size + 2 ≤ b ∧ CpyP wx b s A6 B6 k5 k6 xs := ⟨_, (by have := KT.out.lt; omega), hcp⟩; have HCQ := Lib.hid hcp; replace KS := Lib.hid (KS.out.below hb KS.out.lt); replace KT := Lib.hid (KT.out.below hb KT.out.lt); replace HH := Lib.hid (HH.out.trans (hb.mono HH.out.size)); replace s0 := KS.out.cell 0; replace s1 := KS.out.cell 1; replace s2 := KS.out.cell 2; replace s3 := KS.out.cell 3; replace s4 := KS.out.cell 4; replace s5 := KS.out.cell 5; replace sl := KS.out.lt; simp only [List.getElem?_toArray, List.getElem?_cons_zero, List.getElem?_cons_succ] at s0 s1 s2 s3 s4 s5; replace t0 := KT.out.cell 0; replace t1 := KT.out.cell 1; replace t2 := KT.out.cell 2; replace t3 := KT.out.cell 3; replace t4 := KT.out.cell 4; replace t5 := KT.out.cell 5; replace tl := KT.out.lt; simp only [List.getElem?_toArray, List.getElem?_cons_zero, List.getElem?_cons_succ] at t0 t1 t2 t3 t4 t5; clear hb; clear hcv hcp))
      have HBC := Lib.hid (show Below wx.heap.size wx (wx.alloc (.cells #[.string s.nm, .slice A6 s.cols.length k5, .slice B6 s.idx.length k6, .int .i64 s.limit, .int .i64 s.parts, .int .i64 s.by_] 25)) from (Below.refl _ _).alloc (Nat.le_refl _) _)
      have hb := HBC.out
      have HCP := Lib.hid (HCQ.out.still hb)
      have KC := Lib.hid (show Blk (wx.alloc (.cells #[.string s.nm, .slice A6 s.cols.length k5, .slice B6 s.idx.length k6, .int .i64 s.limit, .int .i64 s.parts, .int .i64 s.by_] 25)) wx.heap.size 25 #[.string s.nm, .slice A6 s.cols.length k5, .slice B6 s.idx.length k6, .int .i64 s.limit, .int .i64 s.parts, .int .i64 s.by_] from Blk.new _ _ _)
      have hbs2 := HH.out.size
      replace KS := Lib.hid (KS.out.below hb KS.out.lt); replace KT := Lib.hid (KT.out.below hb KT.out.lt); replace HH := Lib.hid (HH.out.trans (hb.mono HH.out.size)); replace s0 := KS.out.cell 0; replace s1 := KS.out.cell 1; replace s2 := KS.out.cell 2; replace s3 := KS.out.cell 3; replace s4 := KS.out.cell 4; replace s5 := KS.out.cell 5; replace sl := KS.out.lt; simp only [List.getElem?_toArray, List.getElem?_cons_zero, List.getElem?_cons_succ] at s0 s1 s2 s3 s4 s5; replace t0 := KT.out.cell 0; replace t1 := KT.out.cell 1; replace t2 := KT.out.cell 2; replace t3 := KT.out.cell 3; replace t4 := KT.out.cell 4; replace t5 := KT.out.cell 5; replace tl := KT.out.lt; simp only [List.getElem?_toArray, List.getElem?_cons_zero, List.getElem?_cons_succ] at t0 t1 t2 t3 t4 t5
      have c0 := KC.out.cell 0; have c1 := KC.out.cell 1; have c2 := KC.out.cell 2; have c3 := KC.out.cell 3; have c4 := KC.out.cell 4; have c5 := KC.out.cell 5; have cl := KC.out.lt; simp only [List.getElem?_toArray, List.getElem?_cons_zero, List.getElem?_cons_succ] at c0 c1 c2 c3 c4 c5
      clear hb
      have HX2 := HBC
      have HGW := Lib.hid (show Below wx.heap.size wx (wx.alloc (.cells #[.string s.nm, .slice A6 s.cols.length k5, .slice B6 s.idx.length k6, .int .i64 s.limit, .int .i64 s.parts, .int .i64 s.by_] 25)) from HBC.out)
      generalize (wx.alloc (.cells #[.string s.nm, .slice A6 s.cols.length k5, .slice B6 s.idx.length k6, .int .i64 s.limit, .int .i64 s.parts, .int .i64 s.by_] 25)) = W1 at *
      have C1' := fun W hW hW2 => refsame_sch (.agg #[.string s.nm, .slice A6 s.cols.length k5, .slice B6 s.idx.length k6, .int .i64 s.limit, .int .i64 s.parts, .int .i64 s.by_]) (.agg #[.string s.nm, .slice A s.cols.length k1, .slice B s.idx.length k2, .int .i64 s.limit, .int .i64 s.parts, .int .i64 s.by_]) s s W hW hW2 HF.out HF.out (by omega) (by omega)
      have C2' := fun W hW hW2 => same_sch (.agg #[.string s.nm, .slice A6 s.cols.length k5, .slice B6 s.idx.length k6, .int .i64 s.limit, .int .i64 s.parts, .int .i64 s.by_]) (.agg #[.string s.nm, .slice A s.cols.length k1, .slice B s.idx.length k2, .int .i64 s.limit, .int .i64 s.parts, .int .i64 s.by_]) s s W hW hW2 HF.out HF.out (by omega) (by omega)
      rw [sameS_self] at C1' C2'
      have C1 := Lib.hid C1'
      have C2 := Lib.hid C2'
      clear C1' C2'
      have hxn := HX2.out.size
      generalize hGCe : wx.heap.size = GC at *
      go_upto_region 10 with fail
      go_cut [60] (fun x wy => x = .bool false ∧ ∃ (h1 : Below w.heap.size w wy) (h2 : Blk wy w.heap.size 25 #[.string s.nm, .slice A s.cols.length k1, .slice B s.idx.length k2, .int .i64 s.limit, .int .i64 s.parts, .int .i64 s.by_]) (h3 : Blk wy (w.heap.size + 1) 25 #[.string t.nm, .slice A' t.cols.length k3, .slice B' t.idx.length k4, .int .i64 t.limit, .int .i64 t.parts, .int .i64 t.by_]) (h4 : Blk wy GC 25 #[.string s.nm, .slice A6 s.cols.length k5, .slice B6 s.idx.length k6, .int .i64 s.limit, .int .i64 s.parts, .int .i64 s.by_]), CpyP wy bs s A6 B6 k5 k6 xs ∧ Below GC wx wy)
      case first =>
        replace HH := Lib.hid (show Below w.heap.size w W1.drew from HH.out.drew)
        replace KS := Lib.hid (show Blk W1.drew w.heap.size 25 #[.string s.nm, .slice A s.cols.length k1, .slice B s.idx.length k2, .int .i64 s.limit, .int .i64 s.parts, .int .i64 s.by_] from KS.out)
        replace KT := Lib.hid (show Blk W1.drew (w.heap.size + 1) 25 #[.string t.nm, .slice A' t.cols.length k3, .slice B' t.idx.length k4, .int .i64 t.limit, .int .i64 t.parts, .int .i64 t.by_] from KT.out)
        replace KC := Lib.hid (show Blk W1.drew GC 25 #[.string s.nm, .slice A6 s.cols.length k5, .slice B6 s.idx.length k6, .int .i64 s.limit, .int .i64 s.parts, .int .i64 s.by_] from KC.out)
        replace HCP := Lib.hid (HCP.out.still (show Below W1.heap.size W1 W1.drew from (Below.refl _ _).drew))
        replace HX2 := Lib.hid (show Below GC wx W1.drew from HX2.out.drew)
        go_region_held3 (fun W => W.cell? ⟨w.heap.size, 0, none⟩ = some (.string s.nm) ∧ W.cell? ⟨w.heap.size, 1, none⟩ = some (.slice A s.cols.length k1) ∧ W.cell? ⟨w.heap.size, 2, none⟩ = some (.slice B s.idx.length k2) ∧ W.cell? ⟨w.heap.size, 3, none⟩ = some (.int .i64 s.limit) ∧ W.cell? ⟨w.heap.size, 4, none⟩ = some (.int .i64 s.parts) ∧ W.cell? ⟨w.heap.size, 5, none⟩ = some (.int .i64 s.by_) ∧ W.cell? ⟨(w.heap.size + 1), 0, none⟩ = some (.string t.nm) ∧ W.cell? ⟨(w.heap.size + 1), 1, none⟩ = some (.slice A' t.cols.length k3) ∧ W.cell? ⟨(w.heap.size + 1), 2, none⟩ = some (.slice B' t.idx.length k4) ∧ W.cell? ⟨(w.heap.size + 1), 3, none⟩ = some (.int .i64 t.limit) ∧ W.cell? ⟨(w.heap.size + 1), 4, none⟩ = some (.int .i64 t.parts) ∧ W.cell? ⟨(w.heap.size + 1), 5, none⟩ = some (.int .i64 t.by_) ∧ W.cell? ⟨GC, 0, none⟩ = some (.string s.nm) ∧ W.cell? ⟨GC, 1, none⟩ = some (.slice A6 s.cols.length k5) ∧ W.cell? ⟨GC, 2, none⟩ = some (.slice B6 s.idx.length k6) ∧ W.cell? ⟨GC, 3, none⟩ = some (.int .i64 s.limit) ∧ W.cell? ⟨GC, 4, none⟩ = some (.int .i64 s.parts) ∧ W.cell? ⟨GC, 5, none⟩ = some (.int .i64 s.by_))
          (first | exact ⟨s0, s1, s2, s3, s4, s5, t0, t1, t2, t3, t4, t5, c0, c1, c2, c3, c4, c5⟩ | go_keep)
          (first
            | (go_at_call 10/-f-/; (with_reducible refine (C1.out _ HCP.out.sch (HV.out.keep HH.out)).mono ?_); rintro e wz ⟨rfl, hb⟩; replace KS := Lib.hid (KS.out.below hb KS.out.lt); replace KT := Lib.hid (KT.out.below hb KT.out.lt); replace HH := Lib.hid (HH.out.trans (hb.mono HH.out.size)); replace s0 := KS.out.cell 0; replace s1 := KS.out.cell 1; replace s2 := KS.out.cell 2; replace s3 := KS.out.cell 3; replace s4 := KS.out.cell 4; replace s5 := KS.out.cell 5; replace sl := KS.out.lt; simp only [List.getElem?_toArray, List.getElem?_cons_zero, List.getElem?_cons_succ] at s0 s1 s2 s3 s4 s5; replace t0 := KT.out.cell 0; replace t1 := KT.out.cell 1; replace t2 := KT.out.cell 2; replace t3 := KT.out.cell 3; replace t4 := KT.out.cell 4; replace t5 := KT.out.cell 5; replace tl := KT.out.lt; simp only [List.getElem?_toArray, List.getElem?_cons_zero, List.getElem?_cons_succ] at t0 t1 t2 t3 t4 t5; replace KC := Lib.hid (KC.out.below hb KC.out.lt); replace HCP := Lib.hid (HCP.out.still hb); replace HX2 := Lib.hid (HX2.out.trans (hb.mono (hGCe ▸ HX2.out.size))); replace c0 := KC.out.cell 0; replace c1 := KC.out.cell 1; replace c2 := KC.out.cell 2; replace c3 := KC.out.cell 3; replace c4 := KC.out.cell 4; replace c5 := KC.out.cell 5; replace cl := KC.out.lt; simp only [List.getElem?_toArray, List.getElem?_cons_zero, List.getElem?_cons_succ] at c0 c1 c2 c3 c4 c5; clear hb)
            | (go_at_call 10/-f-/; (with_reducible refine (P1.out _ (HV.out.keep HH.out) (HU.out.keep HH.out)).mono ?_); rintro e wz ⟨rfl, hb⟩; replace KS := Lib.hid (KS.out.below hb KS.out.lt); replace KT := Lib.hid (KT.out.below hb KT.out.lt); replace HH := Lib.hid (HH.out.trans (hb.mono HH.out.size)); replace s0 := KS.out.cell 0; replace s1 := KS.out.cell 1; replace s2 := KS.out.cell 2; replace s3 := KS.out.cell 3; replace s4 := KS.out.cell 4; replace s5 := KS.out.cell 5; replace sl := KS.out.lt; simp only [List.getElem?_toArray, List.getElem?_cons_zero, List.getElem?_cons_succ] at s0 s1 s2 s3 s4 s5; replace t0 := KT.out.cell 0; replace t1 := KT.out.cell 1; replace t2 := KT.out.cell 2; replace t3 := KT.out.cell 3; replace t4 := KT.out.cell 4; replace t5 := KT.out.cell 5; replace tl := KT.out.lt; simp only [List.getElem?_toArray, List.getElem?_cons_zero, List.getElem?_cons_succ] at t0 t1 t2 t3 t4 t5; replace KC := Lib.hid (KC.out.below hb KC.out.lt); replace HCP := Lib.hid (HCP.out.still hb); replace HX2 := Lib.hid (HX2.out.trans (hb.mono (hGCe ▸ HX2.out.size))); replace c0 := KC.out.cell 0; replace c1 := KC.out.cell 1; replace c2 := KC.out.cell 2; replace c3 := KC.out.cell 3; replace c4 := KC.out.cell 4; replace c5 := KC.out.cell 5; replace cl := KC.out.lt; simp only [List.getElem?_toArray, List.getElem?_cons_zero, List.getElem?_cons_succ] at c0 c1 c2 c3 c4 c5; clear hb)
            | (go_at_call 11/-f-/; (with_reducible refine (P2.out _ (HV.out.keep HH.out) (HU.out.keep HH.out)).mono ?_); rintro e wz ⟨rfl, hb⟩; replace KS := Lib.hid (KS.out.below hb KS.out.lt); replace KT := Lib.hid (KT.out.below hb KT.out.lt); replace HH := Lib.hid (HH.out.trans (hb.mono HH.out.size)); replace s0 := KS.out.cell 0; replace s1 := KS.out.cell 1; replace s2 := KS.out.cell 2; replace s3 := KS.out.cell 3; replace s4 := KS.out.cell 4; replace s5 := KS.out.cell 5; replace sl := KS.out.lt; simp only [List.getElem?_toArray, List.getElem?_cons_zero, List.getElem?_cons_succ] at s0 s1 s2 s3 s4 s5; replace t0 := KT.out.cell 0; replace t1 := KT.out.cell 1; replace t2 := KT.out.cell 2; replace t3 := KT.out.cell 3; replace t4 := KT.out.cell 4; replace t5 := KT.out.cell 5; replace tl := KT.out.lt; simp only [List.getElem?_toArray, List.getElem?_cons_zero, List.getElem?_cons_succ] at t0 t1 t2 t3 t4 t5; replace KC := Lib.hid (KC.out.below hb KC.out.lt); replace HCP := Lib.hid (HCP.out.still hb); replace HX2 := Lib.hid (HX2.out.trans (hb.mono (hGCe ▸ HX2.out.size))); replace c0 := KC.out.cell 0; replace c1 := KC.out.cell 1; replace c2 := KC.out.cell 2; replace c3 := KC.out.cell 3; replace c4 := KC.out.cell 4; replace c5 := KC.out.cell 5; replace cl := KC.out.lt; simp only [List.getElem?_toArray, List.getElem?_cons_zero, List.getElem?_cons_succ] at c0 c1 c2 c3 c4 c5; clear hb)
            | (go_at_call 11/-f-/; (with_reducible refine (C2.out _ HCP.out.sch (HV.out.keep HH.out)).mono ?_); rintro e wz ⟨rfl, hb⟩; replace KS := Lib.hid (KS.out.below hb KS.out.lt); replace KT := Lib.hid (KT.out.below hb KT.out.lt); replace HH := Lib.hid (HH.out.trans (hb.mono HH.out.size)); replace s0 := KS.out.cell 0; replace s1 := KS.out.cell 1; replace s2 := KS.out.cell 2; replace s3 := KS.out.cell 3; replace s4 := KS.out.cell 4; replace s5 := KS.out.cell 5; replace sl := KS.out.lt; simp only [List.getElem?_toArray, List.getElem?_cons_zero, List.getElem?_cons_succ] at s0 s1 s2 s3 s4 s5; replace t0 := KT.out.cell 0; replace t1 := KT.out.cell 1; replace t2 := KT.out.cell 2; replace t3 := KT.out.cell 3; replace t4 := KT.out.cell 4; replace t5 := KT.out.cell 5; replace tl := KT.out.lt; simp only [List.getElem?_toArray, List.getElem?_cons_zero, List.getElem?_cons_succ] at t0 t1 t2 t3 t4 t5; replace KC := Lib.hid (KC.out.below hb KC.out.lt); replace HCP := Lib.hid (HCP.out.still hb); replace HX2 := Lib.hid (HX2.out.trans (hb.mono (hGCe ▸ HX2.out.size))); replace c0 := KC.out.cell 0; replace c1 := KC.out.cell 1; replace c2 := KC.out.cell 2; replace c3 := KC.out.cell 3; replace c4 := KC.out.cell 4; replace c5 := KC.out.cell 5; replace cl := KC.out.lt; simp only [List.getElem?_toArray, List.getElem?_cons_zero, List.getElem?_cons_succ] at c0 c1 c2 c3 c4 c5; clear hb))
        all_goals
          go_wp2_with fail
          go_meet
          exact ⟨rfl, HH.out, KS.out, KT.out, KC.out, HCP.out, HX2.out⟩
      case rest =>
        obtain ⟨rfl, h1, h2, h3, h4, h5, h6⟩ := hcut
        replace HH := Lib.hid h1
        replace KS := Lib.hid h2
        replace KT := Lib.hid h3
        replace KC := Lib.hid h4
        replace HCP := Lib.hid h5
        replace HX2 := Lib.hid h6
        replace s0 := KS.out.cell 0; replace s1 := KS.out.cell 1; replace s2 := KS.out.cell 2; replace s3 := KS.out.cell 3; replace s4 := KS.out.cell 4; replace s5 := KS.out.cell 5; replace sl := KS.out.lt; simp only [List.getElem?_toArray, List.getElem?_cons_zero, List.getElem?_cons_succ] at s0 s1 s2 s3 s4 s5
        replace t0 := KT.out.cell 0; replace t1 := KT.out.cell 1; replace t2 := KT.out.cell 2; replace t3 := KT.out.cell 3; replace t4 := KT.out.cell 4; replace t5 := KT.out.cell 5; replace tl := KT.out.lt; simp only [List.getElem?_toArray, List.getElem?_cons_zero, List.getElem?_cons_succ] at t0 t1 t2 t3 t4 t5
        replace c0 := KC.out.cell 0; replace c1 := KC.out.cell 1; replace c2 := KC.out.cell 2; replace c3 := KC.out.cell 3; replace c4 := KC.out.cell 4; replace c5 := KC.out.cell 5; replace cl := KC.out.lt; simp only [List.getElem?_toArray, List.getElem?_cons_zero, List.getElem?_cons_succ] at c0 c1 c2 c3 c4 c5
        clear h1 h2 h3 h4 h5 h6 HBC HGW C1 C2 CP
        go_upto_region 12 with fail
        obtain ⟨b3, hb3⟩ : ∃ b, b = (decide (0 < s.cols.length) && (decide (0 < s.idx.length) && decide (0 < (s.idx.getD 0 default).cols.length))) := ⟨_, rfl⟩
        have HB3 := Lib.hid hb3
        clear hb3
        go_cut [79] (fun x wy => x = .bool b3 ∧ wc = wy)
        case first =>
          have HI : 0 < s.idx.length → ∃ gi A0 c0, B6 = some ⟨gi, 0, none⟩ ∧ wc.cell? ⟨gi, 0, none⟩ = some (.slice A0 (s.idx.getD 0 default).cols.length c0) ∧ gi < wc.heap.size := by
            intro h
            have hcp := HCP.out
            obtain ⟨gi, rfl⟩ := own_some hcp.idx h
            obtain ⟨A0, c0, e0⟩ := own_slice (hcp.mid.own 0 h h)
            have i0 := (icells_at xs s.idx hcp.mid.len 0 h).1
            rw [e0] at i0
            exact ⟨gi, A0, c0, rfl, (World.ownsRow.cellAt hcp.idx 0 (by omega)).trans i0, (World.ownsRow.lt hcp.idx gi rfl).2⟩
          have HBB := Lib.hid HB3.out
          clear HB3 HCP HCQ HX2 HH KS KT KC P1 P2 HV HU HF HF' HXL HAT HQ1 HQ2 G1 G2 hcl hil s0 s1 s2 s3 s4 s5 sl t0 t1 t2 t3 t4 t5 tl
          generalize s.cols.length = n1 at *
          generalize s.idx.length = m1 at *
          generalize (s.idx.getD 0 default).cols.length = l1 at *
          by_cases p1 : 0 < n1
          · by_cases p2 : 0 < m1
            · obtain ⟨gi, A0, c0', rfl, y0, yl⟩ := HI p2
              by_cases p3 : 0 < l1
              · have e : b3 = true := by rw [HBB.out, decide_eq_true p1, decide_eq_true p2, decide_eq_true p3]; rfl
                subst e
                go_wp2
                go_meet
                exact ⟨rfl, rfl⟩
              · have e : b3 = false := by rw [HBB.out, decide_eq_false p3]; simp
                subst e
                go_wp2
                go_meet
                exact ⟨rfl, rfl⟩
            · have e : b3 = false := by rw [HBB.out, decide_eq_false p2]; simp
              subst e
              clear HI
              go_wp2
              go_meet
              exact ⟨rfl, rfl⟩
          · have e : b3 = false := by rw [HBB.out, decide_eq_false p1]; simp
            subst e
            clear HI
            go_wp2
            go_meet
            exact ⟨rfl, rfl⟩
        case rest =>
          obtain ⟨rfl, rfl⟩ := hcut
          go_upto_if 79 with fail
          go_cut [] (fun wy => ∃ (h1 : Below w.heap.size w wy) (h2 : Blk wy w.heap.size 25 #[.string s.nm, .slice A s.cols.length k1, .slice B s.idx.length k2, .int .i64 s.limit, .int .i64 s.parts, .int .i64 s.by_]), Blk wy (w.heap.size + 1) 25 #[.string t.nm, .slice A' t.cols.length k3, .slice B' t.idx.length k4, .int .i64 t.limit, .int .i64 t.parts, .int .i64 t.by_])
          case first =>
            cases b3 with
            | false =>
              go_wp2
              go_meet
              exact ⟨HH.out, KS.out, KT.out⟩
            | true =>
              have hp3 : 0 < s.cols.length ∧ 0 < s.idx.length ∧ 0 < (s.idx.getD 0 default).cols.length := by
                have := HB3.out
                simp only [Bool.true_eq, Bool.and_eq_true, decide_eq_true_eq] at this
                exact this
              obtain ⟨p1, p2, p3⟩ := hp3
              obtain ⟨gc, gi, g0, c0', rfl, rfl, e0, hk, hkf, hi0, hp0, hpf, ⟨d1, d2, d3⟩, ⟨b1, b2, b4⟩, l1, l2, l3⟩ := HCQ.out.heads p1 p2 p3
              rw [hGCe] at l1 l2 l3
              have y0 := (HX2.out.cell (p := ⟨gc, 1, none⟩) l1).trans hk
              have y0f := (HX2.out.frozen (p := ⟨gc, 1, none⟩) l1).trans hkf
              have y1 := (HX2.out.cell (p := ⟨gi, 0, none⟩) l2).trans hi0
              have y2 := (HX2.out.cell (p := ⟨g0, 0, none⟩) l3).trans hp0
              have y2f := (HX2.out.frozen (p := ⟨g0, 0, none⟩) l3).trans hpf
              rcases HC.out with h | ⟨b, off, rfl, hbw, hcell⟩
              · rw [h] at p1; simp at p1
              have z1 := (HH.out.cell (p := ⟨b, off + 0 * 2 + 1, none⟩) hbw).trans (hcell 0 p1).2
              have HFB := Lib.hid (fun k p hk hp => bump_fit HF.out k p p1 p2 hk hp)
              have HOT := Lib.hid (fun k p hk => bump_other s k p p1 hk)
              have HBU := Lib.hid (fun k p => cpy_bump k p HCP.out p1 p2 e0)
              have hcx := hxn
              simp only [Nat.zero_mul, Nat.add_zero] at z1
              generalize hk0e : (s.cols.getD 0 default).kd = k0 at *
              generalize hp0e : (s.idx.getD 0 default).cols.getD 0 0 = p0 at *
              have hkb : -9223372036854775808 ≤ k0 ∧ k0 ≤ 9223372036854775807 := by rw [← hk0e]; exact (HF.out.cols _ (getD_in s.cols 0 p1)).kd
              have hpb : -9223372036854775808 ≤ p0 ∧ p0 ≤ 9223372036854775807 := by rw [← hp0e]; exact Fit64.at_ (HF.out.idx _ (getD_in s.idx 0 p2)).cols 0
              have HKB := Lib.hid hkb
              have HPB := Lib.hid hpb
              have n1 : gc ≠ GC := by omega
              have n2 : g0 ≠ GC := by omega
              have n3 : gc ≠ w.heap.size := by omega
              have n4 : g0 ≠ w.heap.size := by omega
              have n5 : gi ≠ GC := by omega
              have n6 : gc ≠ b := by omega
              have n7 : g0 ≠ b := by omega
              have hbx := Nat.lt_of_lt_of_le hbw HH.out.size
              have ygl := Nat.lt_of_lt_of_le l1 (hGCe ▸ HX2.out.size)
              have ygi := Nat.lt_of_lt_of_le l2 (hGCe ▸ HX2.out.size)
              have yg0 := Nat.lt_of_lt_of_le l3 (hGCe ▸ HX2.out.size)
              have d4 := Ne.symm d1
              have d5 := Ne.symm d2
              have d6 := Ne.symm d3
              have m1 := Ne.symm n1
              have m2 := Ne.symm n2
              have m3 := Ne.symm n3
              have m4 := Ne.symm n4
              have m5 := Ne.symm n5
              have m6 := Ne.symm n6
              have m7 := Ne.symm n7
              have ln1 := List.length_pos_iff.1 p1
              have ln2 := List.length_pos_iff.1 p2
              generalize hL3e : (s.idx.getD 0 default).cols.length = L3 at *
              go_upto_region 15 with fail
              generalize hk1e : wrap64 (k0 + 1) = k9 at *
              generalize hp1e : wrap64 (p0 + 1) = p9 at *
              have hk9 : -9223372036854775808 ≤ k9 ∧ k9 ≤ 9223372036854775807 := by rw [← hk1e]; unfold wrap64; omega
              have hp9 : -9223372036854775808 ≤ p9 ∧ p9 ≤ 9223372036854775807 := by rw [← hp1e]; unfold wrap64; omega
              have hne9 : k9 ≠ k0 := by rw [← hk1e]; unfold wrap64; omega
              have e09 : (k0 == k9) = false := beq_eq_false_iff_ne.2 (Ne.symm hne9)
              have C3' := fun W hW hW2 => refsame_sch (.agg #[.string s.nm, .slice (some ⟨gc, 0, none⟩) s.cols.length k5, .slice (some ⟨gi, 0, none⟩) s.idx.length k6, .int .i64 s.limit, .int .i64 s.parts, .int .i64 s.by_]) (.agg #[.string s.nm, .slice (some ⟨b, off, none⟩) s.cols.length k1, .slice B s.idx.length k2, .int .i64 s.limit, .int .i64 s.parts, .int .i64 s.by_]) (bump s k9 p9) s W hW hW2 (HFB.out k9 p9 hk9 hp9) HF.out (by simp [bump]; omega) (by omega)
              rw [HOT.out k9 p9 hne9] at C3'
              have C3 := Lib.hid C3'
              clear C3' hk1e hp1e hk9 hp9 hne9 hk0e hp0e hL3e
              replace HH := Lib.hid (show Below w.heap.size w ((wc.setCell ⟨gc, 1, none⟩ (.int .i64 k9)).setCell ⟨g0, 0, none⟩ (.int .i64 p9)).drew from ((HH.out.setCell (p := ⟨gc, 1, none⟩) (by simp only; omega) _).setCell (p := ⟨g0, 0, none⟩) (by simp only; omega) _).drew)
              replace KS := Lib.hid (show Blk ((wc.setCell ⟨gc, 1, none⟩ (.int .i64 k9)).setCell ⟨g0, 0, none⟩ (.int .i64 p9)).drew w.heap.size 25 #[.string s.nm, .slice (some ⟨b, off, none⟩) s.cols.length k1, .slice B s.idx.length k2, .int .i64 s.limit, .int .i64 s.parts, .int .i64 s.by_] from (KS.out.far (p := ⟨gc, 1, none⟩) m3 _).far (p := ⟨g0, 0, none⟩) m4 _)
              replace KT := Lib.hid (show Blk ((wc.setCell ⟨gc, 1, none⟩ (.int .i64 k9)).setCell ⟨g0, 0, none⟩ (.int .i64 p9)).drew (w.heap.size + 1) 25 #[.string t.nm, .slice A' t.cols.length k3, .slice B' t.idx.length k4, .int .i64 t.limit, .int .i64 t.parts, .int .i64 t.by_] from (KT.out.far (p := ⟨gc, 1, none⟩) (by simp only; omega) _).far (p := ⟨g0, 0, none⟩) (by simp only; omega) _)
              replace KC := Lib.hid (show Blk ((wc.setCell ⟨gc, 1, none⟩ (.int .i64 k9)).setCell ⟨g0, 0, none⟩ (.int .i64 p9)).drew GC 25 #[.string s.nm, .slice (some ⟨gc, 0, none⟩) s.cols.length k5, .slice (some ⟨gi, 0, none⟩) s.idx.length k6, .int .i64 s.limit, .int .i64 s.parts, .int .i64 s.by_] from (KC.out.far (p := ⟨gc, 1, none⟩) m1 _).far (p := ⟨g0, 0, none⟩) m2 _)
              have HSB := Lib.hid (show SchV ((wc.setCell ⟨gc, 1, none⟩ (.int .i64 k9)).setCell ⟨g0, 0, none⟩ (.int .i64 p9)).drew (.agg #[.string s.nm, .slice (some ⟨gc, 0, none⟩) s.cols.length k5, .slice (some ⟨gi, 0, none⟩) s.idx.length k6, .int .i64 s.limit, .int .i64 s.parts, .int .i64 s.by_]) (bump s k9 p9) from (HBU.out k9 p9).keep ((Below.refl _ _).drew))
              have w1 : ((wc.setCell ⟨gc, 1, none⟩ (.int .i64 k9)).setCell ⟨g0, 0, none⟩ (.int .i64 p9)).drew.cell? ⟨gc, 1, none⟩ = some (.int .i64 k9) := (cell?_setCell_ne (a := ⟨gc, 1, none⟩) (b := ⟨g0, 0, none⟩) (by simpa using d2)).trans (World.cell?_setCell_same' _ _ _ (by rw [y0]; rfl))
              have w2 : ((wc.setCell ⟨gc, 1, none⟩ (.int .i64 k9)).setCell ⟨g0, 0, none⟩ (.int .i64 p9)).drew.cell? ⟨b, off + 1, none⟩ = some (.int .i64 k0) := (cell?_setCell_ne (a := ⟨b, off + 1, none⟩) (b := ⟨g0, 0, none⟩) (by simpa using m7)).trans ((cell?_setCell_ne (a := ⟨b, off + 1, none⟩) (b := ⟨gc, 1, none⟩) (by simpa using m6)).trans z1)
              have w3 : gc < ((wc.setCell ⟨gc, 1, none⟩ (.int .i64 k9)).setCell ⟨g0, 0, none⟩ (.int .i64 p9)).drew.heap.size := by simpa using ygl
              have w4 : b < ((wc.setCell ⟨gc, 1, none⟩ (.int .i64 k9)).setCell ⟨g0, 0, none⟩ (.int .i64 p9)).drew.heap.size := by simpa using hbx
              replace s0 := KS.out.cell 0; replace s1 := KS.out.cell 1; replace s2 := KS.out.cell 2; replace s3 := KS.out.cell 3; replace s4 := KS.out.cell 4; replace s5 := KS.out.cell 5; replace sl := KS.out.lt; simp only [List.getElem?_toArray, List.getElem?_cons_zero, List.getElem?_cons_succ] at s0 s1 s2 s3 s4 s5
              replace c0 := KC.out.cell 0; replace c1 := KC.out.cell 1; replace c2 := KC.out.cell 2; replace c3 := KC.out.cell 3; replace c4 := KC.out.cell 4; replace c5 := KC.out.cell 5; replace cl := KC.out.lt; simp only [List.getElem?_toArray, List.getElem?_cons_zero, List.getElem?_cons_succ] at c0 c1 c2 c3 c4 c5
              clear y0 y0f y1 y2 y2f z1 hk hkf hi0 hp0 hpf HCP HX2 HCQ e0 HBU HOT HFB hcell hxn hcx
              generalize hWe : (wc.setCell ⟨gc, 1, none⟩ (.int .i64 k9)).setCell ⟨g0, 0, none⟩ (.int .i64 p9) = W2 at *
              clear hWe
              go_region_held3 (fun W => W.cell? ⟨w.heap.size, 0, none⟩ = some (.string s.nm) ∧ W.cell? ⟨w.heap.size, 1, none⟩ = some (.slice (some ⟨b, off, none⟩) s.cols.length k1) ∧ W.cell? ⟨w.heap.size, 2, none⟩ = some (.slice B s.idx.length k2) ∧ W.cell? ⟨w.heap.size, 3, none⟩ = some (.int .i64 s.limit) ∧ W.cell? ⟨w.heap.size, 4, none⟩ = some (.int .i64 s.parts) ∧ W.cell? ⟨w.heap.size, 5, none⟩ = some (.int .i64 s.by_) ∧ W.cell? ⟨GC, 0, none⟩ = some (.string s.nm) ∧ W.cell? ⟨GC, 1, none⟩ = some (.slice (some ⟨gc, 0, none⟩) s.cols.length k5) ∧ W.cell? ⟨GC, 2, none⟩ = some (.slice (some ⟨gi, 0, none⟩) s.idx.length k6) ∧ W.cell? ⟨GC, 3, none⟩ = some (.int .i64 s.limit) ∧ W.cell? ⟨GC, 4, none⟩ = some (.int .i64 s.parts) ∧ W.cell? ⟨GC, 5, none⟩ = some (.int .i64 s.by_) ∧ W.cell? ⟨gc, 1, none⟩ = some (.int .i64 k9) ∧ W.cell? ⟨b, off + 1, none⟩ = some (.int .i64 k0))
                (first | exact ⟨s0, s1, s2, s3, s4, s5, c0, c1, c2, c3, c4, c5, w1, w2⟩)
                (first
                  | (go_at_call 10/-f-/; (with_reducible refine (C3.out _ HSB.out (HV.out.keep HH.out)).mono ?_); rintro e wz ⟨rfl, hb⟩; replace w1 := (hb.cell (p := ⟨gc, 1, none⟩) w3).trans w1; replace w2 := (hb.cell (p := ⟨b, off + 1, none⟩) w4).trans w2; replace KS := Lib.hid (KS.out.below hb KS.out.lt); replace KT := Lib.hid (KT.out.below hb KT.out.lt); replace KC := Lib.hid (KC.out.below hb KC.out.lt); replace HH := Lib.hid (HH.out.trans (hb.mono HH.out.size)); replace s0 := KS.out.cell 0; replace s1 := KS.out.cell 1; replace s2 := KS.out.cell 2; replace s3 := KS.out.cell 3; replace s4 := KS.out.cell 4; replace s5 := KS.out.cell 5; replace sl := KS.out.lt; simp only [List.getElem?_toArray, List.getElem?_cons_zero, List.getElem?_cons_succ] at s0 s1 s2 s3 s4 s5; replace c0 := KC.out.cell 0; replace c1 := KC.out.cell 1; replace c2 := KC.out.cell 2; replace c3 := KC.out.cell 3; replace c4 := KC.out.cell 4; replace c5 := KC.out.cell 5; replace cl := KC.out.lt; simp only [List.getElem?_toArray, List.getElem?_cons_zero, List.getElem?_cons_succ] at c0 c1 c2 c3 c4 c5; clear hb))
              all_goals
                go_wp2
                go_meet
                exact ⟨HH.out, KS.out, KT.out⟩
          case rest =>
            obtain ⟨h1, h2, h3⟩ := hcut
            replace HH := Lib.hid h1
            replace KS := Lib.hid h2
            replace s0 := KS.out.cell 0; replace s1 := KS.out.cell 1; replace s2 := KS.out.cell 2; replace s3 := KS.out.cell 3; replace s4 := KS.out.cell 4; replace s5 := KS.out.cell 5; replace sl := KS.out.lt; simp only [List.getElem?_toArray, List.getElem?_cons_zero, List.getElem?_cons_succ] at s0 s1 s2 s3 s4 s5
            clear h1 h2 h3 KT KC HCP HX2 HCQ P1 P2 HU HF' HQ1 HQ2 G1 G2
            obtain ⟨zs, hzs⟩ : ∃ z, z = s.cols.map zeroV := ⟨_, rfl⟩
            have hzl : zs.length = s.cols.length := by rw [hzs, List.length_map]
            have hz1000 : zs.length ≤ 1000 := by rw [hzl]; omega
            have hc1000 : s.cols.length ≤ 1000 := by omega
            have hnmx : nm.size ≤ 9223372036854775807 := by omega
            have ez1 : ((zs.length : Int) != (s.cols.length : Int)) = false := by rw [hzl]; simp
            have Z' := fun W hW => zero_any (.agg #[.string s.nm, .slice A s.cols.length k1, .slice B s.idx.length k2, .int .i64 s.limit, .int .i64 s.parts, .int .i64 s.by_]) s W hW HF.out hc1000
            rw [← hzs] at Z'
            have Z := Lib.hid Z'
            have HZF := Lib.hid (show schB s = true → fitsB s.cols zs = true from fun h => by rw [hzs]; exact zero_fits s h)
            have HZV := Lib.hid (show ∀ x ∈ zs, FitV x from by rw [hzs]; exact zero_fit s HF.out)
            have HZL := Lib.hid hzl
            have RR' := fun W hW => refright_sch (.agg #[.string s.nm, .slice A s.cols.length k1, .slice B s.idx.length k2, .int .i64 s.limit, .int .i64 s.parts, .int .i64 s.by_]) s W hW HF.out
            have RS' := fun W hW => right_sch (.agg #[.string s.nm, .slice A s.cols.length k1, .slice B s.idx.length k2, .int .i64 s.limit, .int .i64 s.parts, .int .i64 s.by_]) s W hW HF.out
            have RF' := fun (A5 : Option Addr) (c5 : Nat) (W : World) (hW : SchV W (.agg #[.string s.nm, .slice A s.cols.length k1, .slice B s.idx.length k2, .int .i64 s.limit, .int .i64 s.parts, .int .i64 s.by_]) s) (hW2 : Vals W A5 zs) => reffits_sch (.agg #[.string s.nm, .slice A s.cols.length k1, .slice B s.idx.length k2, .int .i64 s.limit, .int .i64 s.parts, .int .i64 s.by_]) s A5 zs.length c5 zs W hW HF.out hW2 rfl HZV.out hz1000
            have CO' := fun W hW => col_any (.agg #[.string s.nm, .slice A s.cols.length k1, .slice B s.idx.length k2, .int .i64 s.limit, .int .i64 s.parts, .int .i64 s.by_]) s nm W hW hc1000
            rw [← HAT.out] at CO'
            have CO := Lib.hid CO'
            clear Z' hzs hzl CO'
            obtain ⟨qn, hqn⟩ : ∃ q, q = namB nm := ⟨_, rfl⟩
            have N1' := fun (W : World) (n : Nat) (en : W.heap.size = n) => namedv_any (some ⟨n, 0, none⟩) 1 1 [nm] (W.alloc (.cells #[.string nm] 9)) (by rw [← en]; exact txts_one W nm) rfl (by omega) (fun s hs => by simp at hs; subst hs; exact hnmx)
            have N2' := fun (W : World) (n : Nat) (en : W.heap.size = n) => namedv_any (some ⟨n, 0, none⟩) 2 2 [nm, ⟨#[97]⟩] (W.alloc (.cells #[.string nm, .string ⟨#[97]⟩] 9)) (by rw [← en]; exact txts_two W nm ⟨#[97]⟩) rfl (by omega) (two_size hnmx (by decide))
            have NR' := fun W => refnamed_any nm W hnmx
            rw [← hqn] at NR'
            rw [show [nm].all namB = qn from by rw [hqn]; simp] at N1'
            rw [show [nm, ⟨#[97]⟩].all namB = qn from by rw [hqn]; simp [show namB ⟨#[97]⟩ = true from by decide]] at N2'
            have N1 := Lib.hid N1'
            have N2 := Lib.hid N2'
            have NR := Lib.hid NR'
            clear N1' N2' NR' hqn
            obtain ⟨bs2, hbs2⟩ : ∃ b, b = schB s := ⟨_, rfl⟩
            rw [← hbs2] at RR' RS' HZF
            have RR := Lib.hid RR'
            have RS := Lib.hid RS'
            clear RR' RS' hbs2
            cases bs2 with
            | false =>
              clear HZF RF' HZV
              go_upto_region 20 with (first
                | (go_at_call 12/-f-/; (with_reducible refine (Z.out _ (HV.out.keep HH.out)).mono ?_); rintro e wz ⟨⟨uz, rfl, huz⟩, hb⟩; obtain ⟨A5, c5, rfl, hv5, _⟩ := huz.vals; have HV5 := Lib.hid hv5; clear huz hv5; replace KS := Lib.hid (KS.out.below hb KS.out.lt); replace HH := Lib.hid (HH.out.trans (hb.mono HH.out.size)); replace s0 := KS.out.cell 0; replace s1 := KS.out.cell 1; replace s2 := KS.out.cell 2; replace s3 := KS.out.cell 3; replace s4 := KS.out.cell 4; replace s5 := KS.out.cell 5; replace sl := KS.out.lt; simp only [List.getElem?_toArray, List.getElem?_cons_zero, List.getElem?_cons_succ] at s0 s1 s2 s3 s4 s5; clear hb)
                | (go_at_call 13/-f-/; (with_reducible refine (RR.out _ (HV.out.keep HH.out)).mono ?_); rintro e wz ⟨rfl, hb⟩; (try replace HV5 := Lib.hid (HV5.out.keep hb)); replace KS := Lib.hid (KS.out.below hb KS.out.lt); replace HH := Lib.hid (HH.out.trans (hb.mono HH.out.size)); replace s0 := KS.out.cell 0; replace s1 := KS.out.cell 1; replace s2 := KS.out.cell 2; replace s3 := KS.out.cell 3; replace s4 := KS.out.cell 4; replace s5 := KS.out.cell 5; replace sl := KS.out.lt; simp only [List.getElem?_toArray, List.getElem?_cons_zero, List.getElem?_cons_succ] at s0 s1 s2 s3 s4 s5; clear hb))
              replace HH := Lib.hid (show Below w.heap.size w wz.drew from HH.out.drew)
              replace KS := Lib.hid (show Blk wz.drew w.heap.size 25 #[.string s.nm, .slice A s.cols.length k1, .slice B s.idx.length k2, .int .i64 s.limit, .int .i64 s.parts, .int .i64 s.by_] from KS.out)
              replace s0 := KS.out.cell 0; replace s1 := KS.out.cell 1; replace s2 := KS.out.cell 2; replace s3 := KS.out.cell 3; replace s4 := KS.out.cell 4; replace s5 := KS.out.cell 5; replace sl := KS.out.lt; simp only [List.getElem?_toArray, List.getElem?_cons_zero, List.getElem?_cons_succ] at s0 s1 s2 s3 s4 s5
              go_region_held3 (fun W => W.cell? ⟨w.heap.size, 0, none⟩ = some (.string s.nm) ∧ W.cell? ⟨w.heap.size, 1, none⟩ = some (.slice A s.cols.length k1) ∧ W.cell? ⟨w.heap.size, 2, none⟩ = some (.slice B s.idx.length k2) ∧ W.cell? ⟨w.heap.size, 3, none⟩ = some (.int .i64 s.limit) ∧ W.cell? ⟨w.heap.size, 4, none⟩ = some (.int .i64 s.parts) ∧ W.cell? ⟨w.heap.size, 5, none⟩ = some (.int .i64 s.by_))
                (first | exact ⟨s0, s1, s2, s3, s4, s5⟩ | exact ⟨Lib.cell?_alloc_some _ s0, Lib.cell?_alloc_some _ s1, Lib.cell?_alloc_some _ s2, Lib.cell?_alloc_some _ s3, Lib.cell?_alloc_some _ s4, Lib.cell?_alloc_some _ s5⟩)
                (first
                  | (go_at_call 15/-f-/; (with_reducible refine (RS.out _ (HV.out.keep HH.out)).mono ?_); rintro e wz ⟨rfl, hb⟩; replace KS := Lib.hid (KS.out.below hb KS.out.lt); replace HH := Lib.hid (HH.out.trans (hb.mono HH.out.size)); replace s0 := KS.out.cell 0; replace s1 := KS.out.cell 1; replace s2 := KS.out.cell 2; replace s3 := KS.out.cell 3; replace s4 := KS.out.cell 4; replace s5 := KS.out.cell 5; replace sl := KS.out.lt; simp only [List.getElem?_toArray, List.getElem?_cons_zero, List.getElem?_cons_succ] at s0 s1 s2 s3 s4 s5; clear hb)
                  | (go_at_call 13/-f-/; (with_reducible refine (RR.out _ (HV.out.keep HH.out)).mono ?_); rintro e wz ⟨rfl, hb⟩; (try replace HV5 := Lib.hid (HV5.out.keep hb)); replace KS := Lib.hid (KS.out.below hb KS.out.lt); replace HH := Lib.hid (HH.out.trans (hb.mono HH.out.size)); replace s0 := KS.out.cell 0; replace s1 := KS.out.cell 1; replace s2 := KS.out.cell 2; replace s3 := KS.out.cell 3; replace s4 := KS.out.cell 4; replace s5 := KS.out.cell 5; replace sl := KS.out.lt; simp only [List.getElem?_toArray, List.getElem?_cons_zero, List.getElem?_cons_succ] at s0 s1 s2 s3 s4 s5; clear hb)
                  | (go_at_call 16/-f-/; (with_reducible refine (N1.out _ _ ?_).mono ?_); (first | rfl | simp); rintro e wy ⟨rfl, rfl⟩; replace KS := Lib.hid (KS.out.alloc (.cells #[.string nm] 9)); replace HH := Lib.hid (HH.out.alloc HH.out.size (.cells #[.string nm] 9)); replace s0 := KS.out.cell 0; replace s1 := KS.out.cell 1; replace s2 := KS.out.cell 2; replace s3 := KS.out.cell 3; replace s4 := KS.out.cell 4; replace s5 := KS.out.cell 5; replace sl := KS.out.lt; simp only [List.getElem?_toArray, List.getElem?_cons_zero, List.getElem?_cons_succ] at s0 s1 s2 s3 s4 s5)
                  | (go_at_call 16/-f-/; (with_reducible refine (N2.out _ _ ?_).mono ?_); (first | rfl | simp); rintro e wy ⟨rfl, rfl⟩; replace KS := Lib.hid (KS.out.alloc (.cells #[.string nm, .string ⟨#[97]⟩] 9)); replace HH := Lib.hid (HH.out.alloc HH.out.size (.cells #[.string nm, .string ⟨#[97]⟩] 9)); replace s0 := KS.out.cell 0; replace s1 := KS.out.cell 1; replace s2 := KS.out.cell 2; replace s3 := KS.out.cell 3; replace s4 := KS.out.cell 4; replace s5 := KS.out.cell 5; replace sl := KS.out.lt; simp only [List.getElem?_toArray, List.getElem?_cons_zero, List.getElem?_cons_succ] at s0 s1 s2 s3 s4 s5)
                  | (go_at_call 17/-f-/; (with_reducible refine (NR.out _).mono ?_); rintro e wy ⟨rfl, rfl⟩)
                  | (go_at_call 18/-f-/; (with_reducible refine (CO.out _ (HV.out.keep HH.out)).mono ?_); rintro e wz ⟨rfl, hb⟩; replace KS := Lib.hid (KS.out.below hb KS.out.lt); replace HH := Lib.hid (HH.out.trans (hb.mono HH.out.size)); replace s0 := KS.out.cell 0; replace s1 := KS.out.cell 1; replace s2 := KS.out.cell 2; replace s3 := KS.out.cell 3; replace s4 := KS.out.cell 4; replace s5 := KS.out.cell 5; replace sl := KS.out.lt; simp only [List.getElem?_toArray, List.getElem?_cons_zero, List.getElem?_cons_succ] at s0 s1 s2 s3 s4 s5; clear hb)
                  | (go_at_call 8/-f-/; (with_reducible refine (awake_any _).mono ?_); rintro e wz ⟨rfl, hb⟩; have H9 := Lib.hid (HH.out.trans (hb.mono HH.out.size)); replace KS := Lib.hid (KS.out.below hb KS.out.lt); replace HH := Lib.hid (HH.out.trans (hb.mono HH.out.size)); replace s0 := KS.out.cell 0; replace s1 := KS.out.cell 1; replace s2 := KS.out.cell 2; replace s3 := KS.out.cell 3; replace s4 := KS.out.cell 4; replace s5 := KS.out.cell 5; replace sl := KS.out.lt; simp only [List.getElem?_toArray, List.getElem?_cons_zero, List.getElem?_cons_succ] at s0 s1 s2 s3 s4 s5; clear hb))
              all_goals
                go_wp2
                go_ret
                exact ⟨rfl, H9.out⟩
            | true =>
              have hzf := HZF.out rfl
              rw [hzf] at RF'
              have RF := Lib.hid RF'
              clear RF' hzf HZF
              go_upto_region 20 with (first
                | (go_at_call 12/-f-/; (with_reducible refine (Z.out _ (HV.out.keep HH.out)).mono ?_); rintro e wz ⟨⟨uz, rfl, huz⟩, hb⟩; obtain ⟨A5, c5, rfl, hv5, _⟩ := huz.vals; have HV5 := Lib.hid hv5; clear huz hv5; replace KS := Lib.hid (KS.out.below hb KS.out.lt); replace HH := Lib.hid (HH.out.trans (hb.mono HH.out.size)); replace s0 := KS.out.cell 0; replace s1 := KS.out.cell 1; replace s2 := KS.out.cell 2; replace s3 := KS.out.cell 3; replace s4 := KS.out.cell 4; replace s5 := KS.out.cell 5; replace sl := KS.out.lt; simp only [List.getElem?_toArray, List.getElem?_cons_zero, List.getElem?_cons_succ] at s0 s1 s2 s3 s4 s5; clear hb)
                | (go_at_call 13/-f-/; (with_reducible refine (RR.out _ (HV.out.keep HH.out)).mono ?_); rintro e wz ⟨rfl, hb⟩; (try replace HV5 := Lib.hid (HV5.out.keep hb)); replace KS := Lib.hid (KS.out.below hb KS.out.lt); replace HH := Lib.hid (HH.out.trans (hb.mono HH.out.size)); replace s0 := KS.out.cell 0; replace s1 := KS.out.cell 1; replace s2 := KS.out.cell 2; replace s3 := KS.out.cell 3; replace s4 := KS.out.cell 4; replace s5 := KS.out.cell 5; replace sl := KS.out.lt; simp only [List.getElem?_toArray, List.getElem?_cons_zero, List.getElem?_cons_succ] at s0 s1 s2 s3 s4 s5; clear hb)
                | (go_at_call 14/-f-/; (with_reducible refine (RF.out _ _ _ (HV.out.keep HH.out) HV5.out).mono ?_); rintro e wz ⟨rfl, hb⟩; replace KS := Lib.hid (KS.out.below hb KS.out.lt); replace HH := Lib.hid (HH.out.trans (hb.mono HH.out.size)); replace s0 := KS.out.cell 0; replace s1 := KS.out.cell 1; replace s2 := KS.out.cell 2; replace s3 := KS.out.cell 3; replace s4 := KS.out.cell 4; replace s5 := KS.out.cell 5; replace sl := KS.out.lt; simp only [List.getElem?_toArray, List.getElem?_cons_zero, List.getElem?_cons_succ] at s0 s1 s2 s3 s4 s5; clear hb))
              replace HH := Lib.hid (show Below w.heap.size w wz.drew from HH.out.drew)
              replace KS := Lib.hid (show Blk wz.drew w.heap.size 25 #[.string s.nm, .slice A s.cols.length k1, .slice B s.idx.length k2, .int .i64 s.limit, .int .i64 s.parts, .int .i64 s.by_] from KS.out)
              replace s0 := KS.out.cell 0; replace s1 := KS.out.cell 1; replace s2 := KS.out.cell 2; replace s3 := KS.out.cell 3; replace s4 := KS.out.cell 4; replace s5 := KS.out.cell 5; replace sl := KS.out.lt; simp only [List.getElem?_toArray, List.getElem?_cons_zero, List.getElem?_cons_succ] at s0 s1 s2 s3 s4 s5
              go_region_held3 (fun W => W.cell? ⟨w.heap.size, 0, none⟩ = some (.string s.nm) ∧ W.cell? ⟨w.heap.size, 1, none⟩ = some (.slice A s.cols.length k1) ∧ W.cell? ⟨w.heap.size, 2, none⟩ = some (.slice B s.idx.length k2) ∧ W.cell? ⟨w.heap.size, 3, none⟩ = some (.int .i64 s.limit) ∧ W.cell? ⟨w.heap.size, 4, none⟩ = some (.int .i64 s.parts) ∧ W.cell? ⟨w.heap.size, 5, none⟩ = some (.int .i64 s.by_))
                (first | exact ⟨s0, s1, s2, s3, s4, s5⟩ | exact ⟨Lib.cell?_alloc_some _ s0, Lib.cell?_alloc_some _ s1, Lib.cell?_alloc_some _ s2, Lib.cell?_alloc_some _ s3, Lib.cell?_alloc_some _ s4, Lib.cell?_alloc_some _ s5⟩)
                (first
                  | (go_at_call 15/-f-/; (with_reducible refine (RS.out _ (HV.out.keep HH.out)).mono ?_); rintro e wz ⟨rfl, hb⟩; replace KS := Lib.hid (KS.out.below hb KS.out.lt); replace HH := Lib.hid (HH.out.trans (hb.mono HH.out.size)); replace s0 := KS.out.cell 0; replace s1 := KS.out.cell 1; replace s2 := KS.out.cell 2; replace s3 := KS.out.cell 3; replace s4 := KS.out.cell 4; replace s5 := KS.out.cell 5; replace sl := KS.out.lt; simp only [List.getElem?_toArray, List.getElem?_cons_zero, List.getElem?_cons_succ] at s0 s1 s2 s3 s4 s5; clear hb)
                  | (go_at_call 13/-f-/; (with_reducible refine (RR.out _ (HV.out.keep HH.out)).mono ?_); rintro e wz ⟨rfl, hb⟩; (try replace HV5 := Lib.hid (HV5.out.keep hb)); replace KS := Lib.hid (KS.out.below hb KS.out.lt); replace HH := Lib.hid (HH.out.trans (hb.mono HH.out.size)); replace s0 := KS.out.cell 0; replace s1 := KS.out.cell 1; replace s2 := KS.out.cell 2; replace s3 := KS.out.cell 3; replace s4 := KS.out.cell 4; replace s5 := KS.out.cell 5; replace sl := KS.out.lt; simp only [List.getElem?_toArray, List.getElem?_cons_zero, List.getElem?_cons_succ] at s0 s1 s2 s3 s4 s5; clear hb)
                  | (go_at_call 16/-f-/; (with_reducible refine (N1.out _ _ ?_).mono ?_); (first | rfl | simp); rintro e wy ⟨rfl, rfl⟩; replace KS := Lib.hid (KS.out.alloc (.cells #[.string nm] 9)); replace HH := Lib.hid (HH.out.alloc HH.out.size (.cells #[.string nm] 9)); replace s0 := KS.out.cell 0; replace s1 := KS.out.cell 1; replace s2 := KS.out.cell 2; replace s3 := KS.out.cell 3; replace s4 := KS.out.cell 4; replace s5 := KS.out.cell 5; replace sl := KS.out.lt; simp only [List.getElem?_toArray, List.getElem?_cons_zero, List.getElem?_cons_succ] at s0 s1 s2 s3 s4 s5)
                  | (go_at_call 16/-f-/; (with_reducible refine (N2.out _ _ ?_).mono ?_); (first | rfl | simp); rintro e wy ⟨rfl, rfl⟩; replace KS := Lib.hid (KS.out.alloc (.cells #[.string nm, .string ⟨#[97]⟩] 9)); replace HH := Lib.hid (HH.out.alloc HH.out.size (.cells #[.string nm, .string ⟨#[97]⟩] 9)); replace s0 := KS.out.cell 0; replace s1 := KS.out.cell 1; replace s2 := KS.out.cell 2; replace s3 := KS.out.cell 3; replace s4 := KS.out.cell 4; replace s5 := KS.out.cell 5; replace sl := KS.out.lt; simp only [List.getElem?_toArray, List.getElem?_cons_zero, List.getElem?_cons_succ] at s0 s1 s2 s3 s4 s5)
                  | (go_at_call 17/-f-/; (with_reducible refine (NR.out _).mono ?_); rintro e wy ⟨rfl, rfl⟩)
                  | (go_at_call 18/-f-/; (with_reducible refine (CO.out _ (HV.out.keep HH.out)).mono ?_); rintro e wz ⟨rfl, hb⟩; replace KS := Lib.hid (KS.out.below hb KS.out.lt); replace HH := Lib.hid (HH.out.trans (hb.mono HH.out.size)); replace s0 := KS.out.cell 0; replace s1 := KS.out.cell 1; replace s2 := KS.out.cell 2; replace s3 := KS.out.cell 3; replace s4 := KS.out.cell 4; replace s5 := KS.out.cell 5; replace sl := KS.out.lt; simp only [List.getElem?_toArray, List.getElem?_cons_zero, List.getElem?_cons_succ] at s0 s1 s2 s3 s4 s5; clear hb)
                  | (go_at_call 8/-f-/; (with_reducible refine (awake_any _).mono ?_); rintro e wz ⟨rfl, hb⟩; have H9 := Lib.hid (HH.out.trans (hb.mono HH.out.size)); replace KS := Lib.hid (KS.out.below hb KS.out.lt); replace HH := Lib.hid (HH.out.trans (hb.mono HH.out.size)); replace s0 := KS.out.cell 0; replace s1 := KS.out.cell 1; replace s2 := KS.out.cell 2; replace s3 := KS.out.cell 3; replace s4 := KS.out.cell 4; replace s5 := KS.out.cell 5; replace sl := KS.out.lt; simp only [List.getElem?_toArray, List.getElem?_cons_zero, List.getElem?_cons_succ] at s0 s1 s2 s3 s4 s5; clear hb))
              all_goals
                go_wp2
                go_ret
                exact ⟨rfl, H9.out⟩
theorem own : ownKnob Try.prog.godebug = none := by kernel_rfl
theorem laidOut : laidOutB Try.prog = true := by kernel_rfl
set_option maxRecDepth 100000 in
theorem lifted (os : Os) (started : os.Started) (H : Type) (enc : TypeId × Value → H) :
    ReturnsInHanded {} Try.checked os 3 .any (Rows.schemaRightsSpec.pre6 enc Try.prog Try.f3 Rows.schemaRightsRow.domain false) (Rows.schemaRightsSpec.post enc Try.prog Try.f3 false true false false) := by
  refine returnsInHanded_of_change (C := Try.checked) own started (by kernel_rfl) Try.func3
    (ChangeSpec.witness6 (enc := enc) (C := Try.checked) false ⟨#[], #[.agg #[.string ⟨#[]⟩, .slice none 0 0, .slice none 0 0, .int .i64 0, .int .i64 0, .int .i64 0], .agg #[.string ⟨#[]⟩, .slice none 0 0, .slice none 0 0, .int .i64 0, .int .i64 0, .int .i64 0], .string ⟨#[]⟩], []⟩ 8 (by kernel_rfl) (by kernel_rfl) (by kernel_rfl) (by kernel_rfl)) ?_
  intro W base args ds gs before hval0 hW hcnd _
  have hval : ∀ (j : Nat) t v, Try.f3.params[j]? = some t → args[j]? = some v → Value.okWide Try.prog W .any base t v := hval0
  have hW' := hW
  obtain ⟨p, q, hA0, hV, rfl, hfz, hnd⟩ := hW
  have hA : DataW.TrodAll enc Try.prog W 0 (fun _ => true) true Try.f3.params.toList args.toList ds p := hA0
  rw [Try.params3] at hA hval
  obtain ⟨v0, vs0, d0, ds0, p0, q0, hargs, rfl, rfl, h0, r0⟩ := trodAll_cons hA
  obtain ⟨v1, vs1, d1, ds1, p1, q1, rfl, rfl, rfl, h1, r1⟩ := trodAll_cons r0
  obtain ⟨v2, vs2, d2, ds2, p2, q2, rfl, rfl, rfl, h2, r2⟩ := trodAll_cons r1
  obtain ⟨rfl, rfl, rfl⟩ := trodAll_nil r2
  obtain rfl : args = #[v0, v1, v2] := by cases args; simp_all
  obtain ⟨rfl, rfl⟩ := trodVars_none hV
  have k0 := h0
  have lt0 : ∀ x ∈ p0, x.block < W.heap.size := by obtain ⟨m, hm⟩ := k0; exact DataW.trod_lt m _ _ _ hm
  obtain ⟨s0, S0, f0⟩ := open_sch (hval 0 25 v0 rfl rfl) h0
  have k1 := h1
  have lt1 : ∀ x ∈ p1, x.block < W.heap.size := by obtain ⟨m, hm⟩ := k1; exact DataW.trod_lt m _ _ _ hm
  obtain ⟨s1, S1, f1⟩ := open_sch (hval 1 25 v1 rfl rfl) h1
  obtain ⟨s2, rfl, rfl, rfl, z2⟩ := Go.ChangeMaps.open_string Try.underlying9 (hval 2 9 v2 rfl rfl) h2
  clear hA0 hval0
  refine (walk v0 v1 s0 s1 s2 W S0 S1 f0 f1 z2).mono fun e W' ⟨he, bel⟩ => ?_
  subst he
  exact ⟨_, rfl, _, _, _, [], _, [], hW', trodAll_mk1 (shut_bool Try.underlying4 _), (trodAll_cons_mk (Below.trod laidOut (by kernel_rfl) (of_decide_eq_true (by kernel_rfl)) k0 bel lt0) (trodAll_cons_mk (Below.trod laidOut (by kernel_rfl) (of_decide_eq_true (by kernel_rfl)) k1 bel lt1) (trodAll_cons_mk (Go.ChangeMaps.shut_string Try.underlying9 z2) trodAll_mk0))), rfl, bel.frame _, fun h => by cases h⟩

theorem over : Rows.schemaRightsRow.holds Try.pinned (OpenSpec.ofChange Rows.schemaRightsSpec) :=
  OpenClaim.holds_of_wide 3 Try.f3 rfl rfl rfl rfl rfl rfl rfl ⟨rfl, rfl, rfl, rfl, rfl⟩ rfl rfl rfl rfl rfl (by kernel_rfl) Try.func3 (by kernel_rfl)
    (of_decide_eq_true (by kernel_rfl)) (by unfold Func.isWrapper; first | (rw [if_pos (by decide +kernel)]; kernel_rfl) | (rw [if_neg (by decide +kernel)]; exact ⟨rfl, rfl⟩))
    (fun os started H enc _ => lifted os started H enc)

theorem proved : Rows.SchemaRightsSaid := over

end Go.Proofs.Ytddejkmfffeikaa.SchemaRights

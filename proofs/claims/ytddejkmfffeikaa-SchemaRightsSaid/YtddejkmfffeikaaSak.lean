/- Contracts of package schema: the document's example. -/
import Derived.Test.YtddejkmfffeikaaSky
namespace Go.Proofs.Ytddejkmfffeikaa
open Go.ChangeShapes Go.WideShapes Go.ChangeAt Go.RowKit
def exS : Sch := ⟨⟨#[116]⟩, [⟨⟨#[97]⟩, 1⟩, ⟨⟨#[98]⟩, 2⟩], [⟨[0], true⟩, ⟨[1], false⟩], 5, 1, 0⟩
def exV : List Val := [⟨1, 1, ⟨#[]⟩⟩, ⟨2, 0, ⟨#[120]⟩⟩]
theorem exRight : schB exS = true := by decide +kernel
theorem exKeyE : keyE exS 1 exV = 0 := by decide +kernel
theorem exKeyS : keyS exS 1 exV = ⟨#[2, 120, 0, 1, 1, 128, 0, 0, 0, 0, 0, 0, 1]⟩ := by decide +kernel
theorem exFitV : ∀ x ∈ exV, FitV x := by
  intro x hx
  simp only [exV, List.mem_cons, List.not_mem_nil, or_false] at hx
  rcases hx with rfl | rfl <;> exact ⟨by decide, by decide, by decide⟩
theorem exSz : ∀ x ∈ exV, x.s.size ≤ 300 := by decide
theorem exFitS : FitS exS := by
  refine ⟨by decide, by decide, by decide, fun x hx => ?_, fun x hx => ?_, by decide, by decide, by decide⟩
  · simp only [exS, List.mem_cons, List.not_mem_nil, or_false] at hx
    rcases hx with rfl | rfl <;> exact ⟨by decide, by decide⟩
  · simp only [exS, List.mem_cons, List.not_mem_nil, or_false] at hx
    rcases hx with rfl | rfl <;> exact ⟨by decide, fun y hy => by simp at hy; subst hy; decide⟩
def exW (w : World) : World :=
  (((((w.alloc (.cells #[.string ⟨#[97]⟩, .int .i64 1, .string ⟨#[98]⟩, .int .i64 2] 29)).alloc (.cells #[.int .i64 0] 3)).alloc (.cells #[.int .i64 1] 3)).alloc
    (.cells #[.slice (some ⟨w.heap.size + 1, 0, none⟩) 1 1, .bool true, .slice (some ⟨w.heap.size + 1 + 1, 0, none⟩) 1 1, .bool false] 34)).alloc
    (.cells #[.string ⟨#[116]⟩, .slice (some ⟨w.heap.size, 0, none⟩) 2 2, .slice (some ⟨w.heap.size + 1 + 1 + 1, 0, none⟩) 2 2, .int .i64 5, .int .i64 1, .int .i64 0] 25))
theorem below_one (w : World) (o : Obj) : Below w.heap.size w (w.alloc o) := (Below.refl _ _).alloc (Nat.le_refl _) _
theorem size_one (w : World) (o : Obj) : (w.alloc o).heap.size = w.heap.size + 1 := by simp
theorem new_one (w : World) (t : TypeId) (n : Int) : Ints (w.alloc (.cells #[.int .i64 n] t)) .i64 (some ⟨w.heap.size, 0, none⟩) [n] := Ints.one (Blk.new w t _)
set_option maxRecDepth 100000 in
theorem exW_is (w : World) : SchV (exW w) (.agg #[.string ⟨#[116]⟩, .slice (some ⟨w.heap.size, 0, none⟩) 2 2, .slice (some ⟨w.heap.size + 1 + 1 + 1, 0, none⟩) 2 2, .int .i64 5, .int .i64 1, .int .i64 0]) exS ∧ Below w.heap.size w (exW w) ∧ Blk (exW w) (w.heap.size + 1 + 1 + 1 + 1) 25 #[.string ⟨#[116]⟩, .slice (some ⟨w.heap.size, 0, none⟩) 2 2, .slice (some ⟨w.heap.size + 1 + 1 + 1, 0, none⟩) 2 2, .int .i64 5, .int .i64 1, .int .i64 0] := by
  unfold exW
  generalize h1 : w.alloc (.cells #[.string ⟨#[97]⟩, .int .i64 1, .string ⟨#[98]⟩, .int .i64 2] 29) = w1
  have s1 : w1.heap.size = w.heap.size + 1 := by rw [← h1, size_one]
  have b1 : Below w.heap.size w w1 := by rw [← h1]; exact below_one _ _
  have k1 : Blk w1 w.heap.size 29 #[.string ⟨#[97]⟩, .int .i64 1, .string ⟨#[98]⟩, .int .i64 2] := by rw [← h1]; exact Blk.new _ _ _
  rw [← s1]
  generalize h2 : w1.alloc (.cells #[.int .i64 0] 3) = w2
  have s2 : w2.heap.size = w1.heap.size + 1 := by rw [← h2, size_one]
  have b2 : Below w1.heap.size w1 w2 := by rw [← h2]; exact below_one _ _
  have k2 : Ints w2 .i64 (some ⟨w1.heap.size, 0, none⟩) [0] := by rw [← h2]; exact new_one _ _ _
  rw [← s2]
  generalize h3 : w2.alloc (.cells #[.int .i64 1] 3) = w3
  have s3 : w3.heap.size = w2.heap.size + 1 := by rw [← h3, size_one]
  have b3 : Below w2.heap.size w2 w3 := by rw [← h3]; exact below_one _ _
  have k3 : Ints w3 .i64 (some ⟨w2.heap.size, 0, none⟩) [1] := by rw [← h3]; exact new_one _ _ _
  rw [← s3]
  generalize h4 : w3.alloc (.cells #[.slice (some ⟨w1.heap.size, 0, none⟩) 1 1, .bool true, .slice (some ⟨w2.heap.size, 0, none⟩) 1 1, .bool false] 34) = w4
  have s4 : w4.heap.size = w3.heap.size + 1 := by rw [← h4, size_one]
  have b4 : Below w3.heap.size w3 w4 := by rw [← h4]; exact below_one _ _
  have k4 : Blk w4 w3.heap.size 34 #[.slice (some ⟨w1.heap.size, 0, none⟩) 1 1, .bool true, .slice (some ⟨w2.heap.size, 0, none⟩) 1 1, .bool false] := by rw [← h4]; exact Blk.new _ _ _
  rw [← s4]
  have hcol : Cols w1 (some ⟨w.heap.size, 0, none⟩) exS.cols := by
    refine .inr ⟨w.heap.size, 0, rfl, by omega, fun i hi => ?_⟩
    have : i = 0 ∨ i = 1 := by simp [exS] at hi; omega
    rcases this with rfl | rfl
    · refine ⟨?_, ?_⟩ <;> (rw [k1.cell]; rfl)
    · refine ⟨?_, ?_⟩ <;> (rw [k1.cell]; rfl)
  have hidx : Inds w4 (some ⟨w3.heap.size, 0, none⟩) exS.idx := by
    refine .inr ⟨w3.heap.size, 0, rfl, by omega, fun i hi => ?_⟩
    have : i = 0 ∨ i = 1 := by simp [exS] at hi; omega
    rcases this with rfl | rfl
    · refine ⟨some ⟨w1.heap.size, 0, none⟩, 1, ?_, ?_, (k2.keep b3).keep b4, by decide⟩ <;> (rw [k4.cell]; rfl)
    · refine ⟨some ⟨w2.heap.size, 0, none⟩, 1, ?_, ?_, k3.keep b4, by decide⟩ <;> (rw [k4.cell]; rfl)
  have b5 := below_one w4 (.cells #[.string ⟨#[116]⟩, .slice (some ⟨w.heap.size, 0, none⟩) 2 2, .slice (some ⟨w3.heap.size, 0, none⟩) 2 2, .int .i64 5, .int .i64 1, .int .i64 0] 25)
  refine ⟨⟨_, _, _, _, rfl, (((hcol.keep b2).keep b3).keep b4).keep b5, hidx.keep b5, by decide, by decide⟩, ?_, Blk.new _ _ _⟩
  exact (((b1.trans (b2.mono b1.size)).trans (b3.mono (by omega))).trans (b4.mono (by omega))).trans (b5.mono (by omega))
theorem new_exV (W : World) (N : Nat) (e : W.heap.size = N) : Vals (W.alloc (.cells #[.int .i64 1, .int .i64 1, .string ⟨#[]⟩, .int .i64 2, .int .i64 0, .string ⟨#[120]⟩] 55)) (some ⟨N, 0, none⟩) exV := by
  subst e
  refine .inr ⟨W.heap.size, 0, rfl, by simp, fun i hi => ?_⟩
  have : i = 0 ∨ i = 1 := by simp [exV] at hi; omega
  rcases this with rfl | rfl
  · refine ⟨?_, ?_, ?_⟩ <;> (rw [(Blk.new W 55 _).cell]; rfl)
  · refine ⟨?_, ?_, ?_⟩ <;> (rw [(Blk.new W 55 _).cell]; rfl)
set_option maxRecDepth 100000 in
set_option maxHeartbeats 4000000 in
theorem awake_any (w : World) : Calls Try.prog 8/-f-/ #[] w fun e w' => e = .returned (.bool true) ∧ Below w.heap.size w w' := by
  have X := exW_is w
  have HS := Lib.hid X.1
  have HB := Lib.hid X.2.1
  have HK := Lib.hid X.2.2
  have KE := Lib.hid exKeyE
  have KS := Lib.hid exKeyS
  clear X
  go_enter Try.func8, Try.ntmps8
  go_upto_region 2 with fail
  show Code.wp Try.prog _ _ _ (exW w)
  have BL := HK.out
  have c0 := BL.cell 0
  have c1 := BL.cell 1
  have c2 := BL.cell 2
  have c3 := BL.cell 3
  have c4 := BL.cell 4
  have c5 := BL.cell 5
  have hlt := BL.lt
  simp only [List.getElem?_toArray, List.getElem?_cons_zero, List.getElem?_cons_succ] at c0 c1 c2 c3 c4 c5
  clear BL
  generalize exW w = W at *
  generalize w.heap.size + 1 + 1 + 1 + 1 = P at *
  generalize w.heap.size + 1 + 1 + 1 = Q at *
  have HN := Lib.hid (new_exV W W.heap.size rfl)
  have HB1 := Lib.hid (HB.out.trans ((below_one W (.cells #[.int .i64 1, .int .i64 1, .string ⟨#[]⟩, .int .i64 2, .int .i64 0, .string ⟨#[120]⟩] 55)).mono HB.out.size))
  have HS1 := Lib.hid (HS.out.keep (below_one W (.cells #[.int .i64 1, .int .i64 1, .string ⟨#[]⟩, .int .i64 2, .int .i64 0, .string ⟨#[120]⟩] 55)))
  have HK1 := Lib.hid (HK.out.below (below_one W (.cells #[.int .i64 1, .int .i64 1, .string ⟨#[]⟩, .int .i64 2, .int .i64 0, .string ⟨#[120]⟩] 55)) HK.out.lt)
  have C1 := Lib.hid (skey_any _ exS 1 _ 2 2 exV _ HS1.out exFitS HN.out rfl exFitV exSz (by decide) (by decide) (by decide))
  rw [KE.out, KS.out] at C1
  go_wp2_with fail
  refine C1.out.mono ?_
  rintro e w2 ⟨rfl, hb2⟩
  have HB2 := Lib.hid (HB1.out.trans (hb2.mono HB1.out.size))
  have HS2 := Lib.hid (HS1.out.keep hb2)
  have BL := HK1.out.below hb2 HK1.out.lt
  clear c0 c1 c2 c3 c4 c5 hlt hb2
  have c0 := BL.cell 0
  have c1 := BL.cell 1
  have c2 := BL.cell 2
  have c3 := BL.cell 3
  have c4 := BL.cell 4
  have c5 := BL.cell 5
  have hlt := BL.lt
  simp only [List.getElem?_toArray, List.getElem?_cons_zero, List.getElem?_cons_succ] at c0 c1 c2 c3 c4 c5
  clear BL
  have C2 := Lib.hid (right_sch _ exS w2 HS2.out exFitS)
  rw [exRight] at C2
  go_wp2_with (go_at_call 15/-f-/; refine C2.out.mono ?_; rintro e w3 ⟨rfl, hb3⟩; have HB3 := Lib.hid (HB2.out.trans (hb3.mono HB2.out.size)))
  go_ret
  exact ⟨rfl, HB3.out⟩
end Go.Proofs.Ytddejkmfffeikaa

/- Contracts of package value: Parse. -/
import Derived.Test.YtabdmhlnaahdlaaDoorPar
namespace Go.Proofs.YtabdmhlnaahdlaaDoor
open Go.ChangeShapes Go.WideShapes Go.ChangeAt Go.RowKit
theorem und_len : ∀ l : List UInt8, (und l).length ≤ l.length
  | [] => by simp [und]
  | [c] => by simp [und]
  | c :: d :: l => by
    unfold und
    split
    · have := und_len l; simp only [List.length_cons]; omega
    · have := und_len (d :: l); simp only [List.length_cons] at this ⊢; omega
theorem readV_size (s : ByteArray) : (readV s).s.size ≤ s.size := by
  unfold readV
  split
  · exact Nat.zero_le _
  · split
    · exact Nat.zero_le _
    · split
      · show (und _).toArray.size ≤ _
        rw [List.size_toArray]
        have := und_len (s.extract 1 (s.size - 1)).data.toList
        have h2 : (s.extract 1 (s.size - 1)).data.toList.length = (s.extract 1 (s.size - 1)).size := by rw [Array.length_toList]; rfl
        have h3 : (s.extract 1 (s.size - 1)).size = min (s.size - 1) s.size - 1 := ByteArray.size_extract
        omega
      · split <;> exact Nat.zero_le _
theorem readV_n (s : ByteArray) : -9223372036854775808 ≤ (readV s).n ∧ (readV s).n ≤ 9223372036854775807 := by
  unfold readV
  split
  · simp
  · split
    · simp
    · split
      · simp
      · split
        · show _ ≤ parseV s.data.toList ∧ parseV s.data.toList ≤ _
          unfold parseV narV
          split
          · split
            · assumption
            · omega
          · omega
        · simp
theorem readV_k (s : ByteArray) : 0 ≤ (readV s).k ∧ (readV s).k ≤ 3 := by
  unfold readV
  split
  · simp
  · split
    · simp
    · split
      · simp
      · split <;> simp
theorem readV_fit (s : ByteArray) (h : s.size ≤ 9223372036854775807) : FitV (readV s) :=
  ⟨by have := readV_k s; omega, readV_n s, Nat.le_trans (readV_size s) h⟩
/-- What is printed of a value; nothing, if it isn't right. -/
def printed (x : Val) : List UInt8 := if rightB x.k x.n x.s = true then printOf x else []
theorem printv_any (x : Val) (w : World) (hT : PT w) (hf : FitV x) (hs : x.s.size ≤ 1000) :
    Calls Tryd.prog 34/-f-/ #[.agg #[.int .i64 x.k, .int .i64 x.n, .string x.s]] w fun e w' => e = .returned (.string ⟨(printed x).toArray⟩) ∧ Below w.heap.size w w' := by
  unfold printed
  by_cases hr : rightB x.k x.n x.s = true
  · rw [if_pos hr]; exact printv_ok x w hT hf hs hr
  · rw [if_neg hr]; exact printv_no x.k x.n x.s w hf.s (by simpa using hr)
/-- Whether a text is a value's print. -/
def parsedB (s : ByteArray) : Bool := decide (s ≠ ⟨#[]⟩) && decide (printed (readV s) = s.data.toList)
set_option maxRecDepth 100000 in
set_option maxHeartbeats 8000000 in
theorem vparse_any (s : ByteArray) (w : World) (hT : PT w) (hs : s.size ≤ 1000) :
    Calls Tryd.prog 35/-f-/ #[.string s] w fun e w' => e = .returned (if parsedB s = true then .tuple #[.agg #[.int .i64 (readV s).k, .int .i64 (readV s).n, .string (readV s).s], .int .i64 0] else .tuple #[.agg #[.int .i64 0, .int .i64 0, .string ⟨#[]⟩], .int .i64 12]) ∧ Below w.heap.size w w' := by
  have HT := Lib.hid hT
  have HT0 := Lib.hid (hT.below ((Below.refl w.heap.size w).alloc (Nat.le_refl _) (.cells #[.int .i64 0, .int .i64 0, .string ⟨#[]⟩] 35/-t-/)) (Nat.le_refl _))
  have RA := Lib.hid (fun W (h : PT W) => read_any s W h (by omega))
  have hsz := readV_size s
  have PA := Lib.hid (fun W (h : PT W) => printv_any (readV s) W h (readV_fit s (by omega)) (by omega))
  have hB := Lib.hid (show parsedB s = (decide (s ≠ ⟨#[]⟩) && decide (printed (readV s) = s.data.toList)) from rfl)
  clear hT hsz
  generalize parsedB s = b at *
  generalize readV s = x at *
  have HP := Lib.hid (show (⟨(printed x).toArray⟩ : ByteArray).data.toList = printed x from rfl)
  generalize (⟨(printed x).toArray⟩ : ByteArray) = P at *
  by_cases he : s = ⟨#[]⟩
  · have hb : b = false := by have := hB.out; rw [this, he]; simp
    rw [hb, if_neg (by simp)]
    subst he
    go_enter Tryd.func35/-f-/, Tryd.ntmps35/-f-/
    go_wp2_with (go_at_call 62/-f-/; (with_reducible refine (RA.out _ HT0.out).mono ?_); rintro e w1 ⟨rfl, hb1⟩; have HR := Lib.hid (Res.of hb1); have q0 := HR.out.blk.cell 0; have q1 := HR.out.blk.cell 1; have q2 := HR.out.blk.cell 2; have f0 := HR.out.blk.frozen 0; have f1 := HR.out.blk.frozen 1; have f2 := HR.out.blk.frozen 2; have hz := HR.out.blk.lt; simp at q0 q1 q2; clear hb1)
    refine bodyPost_ret (v := .tuple #[.agg #[.int .i64 0, .int .i64 0, .string ⟨#[]⟩], .int .i64 12]) (by simp [results, Tryd.results35/-f-/, go_sem, q0, q1, q2, hz]) rfl ⟨rfl, ?_⟩
    have hbz := HR.out.below.size
    exact (HR.out.end_ _ _ _).alloc (by simp; omega) _
  have he2 := str_ne [] he
  by_cases hp : printed x = s.data.toList
  · have hb : b = true := by have := hB.out; rw [this, hp]; simp [he]
    have hPs : P = s := ByteArray.ext (Array.toList_inj.1 (HP.out.trans hp))
    rw [hb, if_pos rfl]
    subst hPs
    clear hp hb he
    go_enter Tryd.func35/-f-/, Tryd.ntmps35/-f-/
    go_wp2_with (first | (go_at_call 62/-f-/; (with_reducible refine (RA.out _ HT0.out).mono ?_); rintro e w1 ⟨rfl, hb1⟩; have HR := Lib.hid (Res.of hb1); have q0 := HR.out.blk.cell 0; have q1 := HR.out.blk.cell 1; have q2 := HR.out.blk.cell 2; have f0 := HR.out.blk.frozen 0; have f1 := HR.out.blk.frozen 1; have f2 := HR.out.blk.frozen 2; have hz := HR.out.blk.lt; simp at q0 q1 q2; have hT1 := Lib.hid (HT.out.below (HR.out.below.alloc HR.out.below.size (.cells #[.int .i64 x.k, .int .i64 x.n, .string x.s] 35/-t-/)) (Nat.le_refl _)); clear hb1) | (go_at_call 34/-f-/; (with_reducible refine (PA.out _ hT1.out).mono ?_); rintro e w2 ⟨rfl, hb2⟩; have HR2 := Lib.hid (((HR.out.more ((Below.refl w1.heap.size w1).alloc (Nat.le_refl _) _)).more hb2)); have r0 := HR2.out.blk.cell 0; have r1 := HR2.out.blk.cell 1; have r2 := HR2.out.blk.cell 2; have g0 := HR2.out.blk.frozen 0; have g1 := HR2.out.blk.frozen 1; have g2 := HR2.out.blk.frozen 2; have gz := HR2.out.blk.lt; have hB4 := ((Blk.new w1 35/-t-/ #[.int .i64 x.k, .int .i64 x.n, .string x.s]).below hb2 (by simp)); have t0 := hB4.cell 0; have t1 := hB4.cell 1; have t2 := hB4.cell 2; have HB4 := Lib.hid hB4; simp at r0 r1 r2 t0 t1 t2; clear hb2 hB4))
    exact bodyPost_ret (v := .tuple #[.agg #[.int .i64 x.k, .int .i64 x.n, .string x.s], .int .i64 0]) (by simp [results, Tryd.results35/-f-/, go_sem, r0, r1, r2, gz]) rfl ⟨rfl, HR2.out.end_ _ _ _⟩
  · have hb : b = false := by have := hB.out; rw [this]; simp [hp]
    have hPs : ¬ P = s := fun h => hp (by rw [← HP.out, h])
    have hPl : (P.toList == s.toList) = false := by
      have := str_ne s.data.toList (s := P) (fun h => hPs h)
      rw [ByteArray.toList_eq s]; exact this
    rw [hb, if_neg (by simp)]
    clear hp hb he hPs
    go_enter Tryd.func35/-f-/, Tryd.ntmps35/-f-/
    go_wp2_with (first | (go_at_call 62/-f-/; (with_reducible refine (RA.out _ HT0.out).mono ?_); rintro e w1 ⟨rfl, hb1⟩; have HR := Lib.hid (Res.of hb1); have q0 := HR.out.blk.cell 0; have q1 := HR.out.blk.cell 1; have q2 := HR.out.blk.cell 2; have f0 := HR.out.blk.frozen 0; have f1 := HR.out.blk.frozen 1; have f2 := HR.out.blk.frozen 2; have hz := HR.out.blk.lt; simp at q0 q1 q2; have hT1 := Lib.hid (HT.out.below (HR.out.below.alloc HR.out.below.size (.cells #[.int .i64 x.k, .int .i64 x.n, .string x.s] 35/-t-/)) (Nat.le_refl _)); clear hb1) | (go_at_call 34/-f-/; (with_reducible refine (PA.out _ hT1.out).mono ?_); rintro e w2 ⟨rfl, hb2⟩; have HR2 := Lib.hid (((HR.out.more ((Below.refl w1.heap.size w1).alloc (Nat.le_refl _) _)).more hb2)); have r0 := HR2.out.blk.cell 0; have r1 := HR2.out.blk.cell 1; have r2 := HR2.out.blk.cell 2; have g0 := HR2.out.blk.frozen 0; have g1 := HR2.out.blk.frozen 1; have g2 := HR2.out.blk.frozen 2; have gz := HR2.out.blk.lt; have hB4 := ((Blk.new w1 35/-t-/ #[.int .i64 x.k, .int .i64 x.n, .string x.s]).below hb2 (by simp)); have t0 := hB4.cell 0; have t1 := hB4.cell 1; have t2 := hB4.cell 2; have HB4 := Lib.hid hB4; simp at r0 r1 r2 t0 t1 t2; clear hb2 hB4))
    refine bodyPost_ret (v := .tuple #[.agg #[.int .i64 0, .int .i64 0, .string ⟨#[]⟩], .int .i64 12]) (by simp [results, Tryd.results35/-f-/, go_sem, r0, r1, r2, gz]) rfl ⟨rfl, HR2.out.end_ _ _ _⟩
end Go.Proofs.YtabdmhlnaahdlaaDoor

/- Contracts of package lex: names, signs. -/
import Derived.Test.YtgdfjcmjhagmoaaLxd
namespace Go.Proofs.Ytgdfjcmjhagmoaa
open Go.ChangeShapes Go.WideShapes Go.ChangeAt Go.RowKit
theorem txts_one (W : World) (a : ByteArray) : Txts (W.alloc (.cells #[.string a] 9)) (some ⟨W.heap.size, 0, none⟩) [a] :=
  .inr ⟨W.heap.size, 0, rfl, by simp, fun i hi => by
    obtain rfl : i = 0 := by simp at hi; omega
    exact (Blk.new W 9 #[.string a]).cell 0⟩
set_option maxRecDepth 100000 in
set_option maxHeartbeats 4000000 in
theorem name_any (s : ByteArray) (w : World) (hs : s.size ≤ 1000000) :
    Calls Try.prog 32/-f-/ #[.string s] w fun e w' => e = .returned (fstV (namW s.data.toList)) ∧ Below w.heap.size w w' := by
  have hrl := runN_le s.data.toList
  have hrs : runN s.data.toList ≤ s.size := by simpa using hrl
  have R' := fun W => run_any s W hs
  have HE := Lib.hid (ext_take0 s (runN s.data.toList))
  have HW := Lib.hid (show namW s.data.toList = if namB ⟨(s.data.toList.take (runN s.data.toList)).toArray⟩ then some (⟨3, ⟨(s.data.toList.take (runN s.data.toList)).toArray⟩, 0, 0⟩, runN s.data.toList) else none from rfl)
  generalize namW s.data.toList = res at *
  generalize runN s.data.toList = k at *
  have hes : (s.extract 0 k).size ≤ 1000000 := by simp; omega
  have hes2 : (s.extract 0 k).size ≤ 9223372036854775807 := by omega
  have P' := fun (W : World) (n : Nat) (en : W.heap.size = n) => namedv_any (some ⟨n, 0, none⟩) 1 1 [s.extract 0 k] (W.alloc (.cells #[.string (s.extract 0 k)] 9)) (by rw [← en]; exact txts_one W _) rfl (by omega) (fun x hx => by rw [List.mem_singleton.1 hx]; exact hes2)
  rw [← HE.out] at HW
  obtain ⟨q, hq⟩ : ∃ q, q = namB (s.extract 0 k) := ⟨_, rfl⟩
  rw [show [s.extract 0 k].all namB = q from by rw [hq]; simp] at P'
  have HQ := Lib.hid hq
  have R := Lib.hid R'
  have P := Lib.hid P'
  have HB := Lib.hid (show Below w.heap.size w ((w.alloc (.cells #[.int .i64 0, .string ⟨#[]⟩, .int .i64 0, .int .i64 0] 35)).alloc (.cells #[.string (s.extract 0 k)] 9)) from ((Below.refl _ _).alloc (Nat.le_refl _) _).alloc (by simp) _)
  clear R' P' hrl hes hes2 hq
  cases q with
  | true =>
    have HR := Lib.hid (show res = some (⟨3, s.extract 0 k, 0, 0⟩, k) from by rw [HW.out, if_pos HQ.out.symm])
    go_enter Try.func32, Try.ntmps32
    go_wp2_with (first
      | (go_at_call 39/-f-/; (with_reducible refine (R.out _).mono ?_); rintro e w1 ⟨rfl, rfl⟩)
      | (go_at_call 41/-f-/; (with_reducible refine (P.out _ _ ?_).mono ?_); (first | rfl | simp); rintro e w1 ⟨rfl, rfl⟩))
    rw [HR.out]
    exact bodyPost_ret (v := .tuple #[.agg #[.int .i64 3, .string (s.extract 0 k), .int .i64 0, .int .i64 0], .int .i64 k]) (by simp [results, Try.results32, go_sem]) rfl ⟨rfl, ((Below.refl _ _).alloc (Nat.le_refl _) _).alloc (by simp) _⟩
  | false =>
    have HR := Lib.hid (show res = none from by rw [HW.out, ← HQ.out]; rfl)
    go_enter Try.func32, Try.ntmps32
    go_wp2_with (first
      | (go_at_call 39/-f-/; (with_reducible refine (R.out _).mono ?_); rintro e w1 ⟨rfl, rfl⟩)
      | (go_at_call 41/-f-/; (with_reducible refine (P.out _ _ ?_).mono ?_); (first | rfl | simp); rintro e w1 ⟨rfl, rfl⟩))
    rw [HR.out]
    exact bodyPost_ret (v := .tuple #[.agg #[.int .i64 0, .string ⟨#[]⟩, .int .i64 0, .int .i64 0], .int .i64 0]) (by simp [results, Try.results32, go_sem]) rfl ⟨rfl, ((Below.refl _ _).alloc (Nat.le_refl _) _).alloc (by simp) _⟩
/-- Where a byte stands in a list, not below 0: it is there. -/
theorem ib_mem (l : List UInt8) (c : UInt8) : decide (0 ≤ Lib.indexByte l c) = l.contains c := by
  have key : ∀ l : List UInt8, (Lib.indexByte l c = -1 ∧ l.contains c = false) ∨ (0 ≤ Lib.indexByte l c ∧ l.contains c = true) := by
    intro l
    induction l with
    | nil => exact .inl ⟨rfl, rfl⟩
    | cons x r ih =>
      unfold Lib.indexByte
      by_cases h : (x == c) = true
      · rw [if_pos h]
        have hx : x = c := by simpa using h
        exact .inr ⟨by omega, by simp [hx]⟩
      · rw [if_neg h]
        have hx : ¬ c = x := fun e => h (by simp [e])
        rcases ih with ⟨h1, h2⟩ | ⟨h1, h2⟩
        · rw [h1]; exact .inl ⟨by simp, by simpa [hx] using h2⟩
        · rw [if_neg (by simp; omega)]; exact .inr ⟨by omega, by simpa [hx] using h2⟩
  rcases key l with ⟨h1, h2⟩ | ⟨h1, h2⟩
  · rw [h1, h2]; decide
  · rw [h2]; exact decide_eq_true h1
end Go.Proofs.Ytgdfjcmjhagmoaa

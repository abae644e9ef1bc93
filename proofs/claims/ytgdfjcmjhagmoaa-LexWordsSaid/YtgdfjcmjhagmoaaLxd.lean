/- Contracts of package lex: numbers, names, signs. -/
import Derived.Test.YtgdfjcmjhagmoaaLxc
import Derived.Test.YtgdfjcmjhagmoaaNmw
namespace Go.Proofs.Ytgdfjcmjhagmoaa
open Go.ChangeShapes Go.WideShapes Go.ChangeAt Go.RowKit
/-- A word as a value. -/
def wdV (x : Wd) : Value := .agg #[.int .i64 x.kd, .string x.tx, .int .i64 x.n, .int .i64 x.at_]
def zeroW : Wd := ⟨0, ⟨#[]⟩, 0, 0⟩
/-- What is answered of a word at a text's beginning. -/
def fstV (o : Option (Wd × Nat)) : Value := .tuple #[wdV ((o.map (·.1)).getD zeroW), .int .i64 (((o.map (·.2)).getD 0 : Nat) : Int)]
theorem ext_take0 (S : ByteArray) (n : Nat) : S.extract 0 n = ⟨(S.data.toList.take n).toArray⟩ := by
  apply ByteArray.ext; apply Array.toList_inj.1; simp
theorem blk4 {w : World} {g t : Nat} {a b c d : Value} (h : Blk w g t #[a, b, c, d]) : w.cell? ⟨g, 0, none⟩ = some a ∧ w.cell? ⟨g, 1, none⟩ = some b ∧ w.cell? ⟨g, 2, none⟩ = some c ∧ w.cell? ⟨g, 3, none⟩ = some d ∧ w.frozen? ⟨g, 0, none⟩ = false ∧ w.frozen? ⟨g, 1, none⟩ = false ∧ w.frozen? ⟨g, 2, none⟩ = false ∧ w.frozen? ⟨g, 3, none⟩ = false ∧ g < w.heap.size :=
  ⟨h.cell 0, h.cell 1, h.cell 2, h.cell 3, h.frozen 0, h.frozen 1, h.frozen 2, h.frozen 3, h.lt⟩
set_option maxRecDepth 100000 in
set_option maxHeartbeats 4000000 in
theorem number_any (s : ByteArray) (w : World) (hs : s.size ≤ 1000000) :
    Calls Try.prog 31/-f-/ #[.string s] w fun e w' => e = .returned (fstV (numW s.data.toList)) ∧ Below w.heap.size w w' := by
  have hrl := runN_le s.data.toList
  have hrs : runN s.data.toList ≤ s.size := by simpa using hrl
  have R' := fun W => run_any s W hs
  have HE := Lib.hid (ext_take0 s (runN s.data.toList))
  have HW := Lib.hid (show numW s.data.toList = if parseE (s.data.toList.take (runN s.data.toList)) = 0 then some (⟨1, ⟨(s.data.toList.take (runN s.data.toList)).toArray⟩, parseV (s.data.toList.take (runN s.data.toList)), 0⟩, runN s.data.toList) else none from rfl)
  generalize numW s.data.toList = res at *
  generalize runN s.data.toList = k at *
  have hes : (s.extract 0 k).size ≤ 1000000 := by simp; omega
  have P' := fun W => parse_any (s.extract 0 k) W hes
  have hdl : (s.extract 0 k).data.toList = s.data.toList.take k := by rw [HE.out]
  rw [hdl] at P'
  have HT := Lib.hid (show (⟨(s.data.toList.take k).toArray⟩ : ByteArray) = s.extract 0 k from HE.out.symm)
  clear hdl hes hrl
  generalize parseE (s.data.toList.take k) = pe at *
  generalize parseV (s.data.toList.take k) = pv at *
  have R := Lib.hid R'
  have P := Lib.hid P'
  clear R' P'
  by_cases h0 : pe = 0
  · have HR := Lib.hid (show res = some (⟨1, s.extract 0 k, pv, 0⟩, k) from by rw [HW.out, if_pos h0, HT.out])
    subst h0
    go_enter Try.func31, Try.ntmps31
    go_wp2_with (first
      | (go_at_call 39/-f-/; (with_reducible refine (R.out _).mono ?_); rintro e w1 ⟨rfl, rfl⟩)
      | (go_at_call 40/-f-/; (with_reducible refine (P.out _).mono ?_); rintro e w1 ⟨rfl, rfl⟩))
    rw [HR.out]
    exact bodyPost_ret (v := .tuple #[.agg #[.int .i64 1, .string (s.extract 0 k), .int .i64 pv, .int .i64 0], .int .i64 k]) (by simp [results, Try.results31, go_sem]) rfl ⟨rfl, by first | exact (Below.refl _ _).alloc (Nat.le_refl _) _ | exact ((Below.refl _ _).alloc (Nat.le_refl _) _).setCell (Nat.le_refl _) _⟩
  · have HR := Lib.hid (show res = none from by rw [HW.out, if_neg h0])
    have e1 : (pe == 0) = false := beq_eq_false_iff_ne.2 h0
    have e2 : (pe != 0) = true := by rw [bne, e1]; rfl
    go_enter Try.func31, Try.ntmps31
    go_wp2_with (first
      | (go_at_call 39/-f-/; (with_reducible refine (R.out _).mono ?_); rintro e w1 ⟨rfl, rfl⟩)
      | (go_at_call 40/-f-/; (with_reducible refine (P.out _).mono ?_); rintro e w1 ⟨rfl, rfl⟩))
    rw [HR.out]
    exact bodyPost_ret (v := .tuple #[.agg #[.int .i64 0, .string ⟨#[]⟩, .int .i64 0, .int .i64 0], .int .i64 0]) (by simp [results, Try.results31, go_sem]) rfl ⟨rfl, (Below.refl _ _).alloc (Nat.le_refl _) _⟩
end Go.Proofs.Ytgdfjcmjhagmoaa

/- Contracts of package lex: blanks, runs. -/
import Derived.Test.YtgdfjcmjhagmoaaLxa
namespace Go.Proofs.Ytgdfjcmjhagmoaa
open Go.ChangeShapes Go.WideShapes Go.ChangeAt Go.RowKit
theorem drop_at (s : ByteArray) (k : Nat) (h : k < s.size) : s.data.toList.drop k = s[k] :: s.data.toList.drop (k + 1) := by
  rw [List.drop_eq_getElem_cons (by simpa using h)]; rfl
theorem drop_end (s : ByteArray) : s.data.toList.drop s.size = [] := List.drop_eq_nil_of_le (by simp)
theorem byte_eq (c : UInt8) (n : Nat) (h : n < 256) : ((c.toNat : Int) == (n : Int)) = (c == UInt8.ofNat n) := by
  rw [Bool.eq_iff_iff, beq_iff_eq, beq_iff_eq]
  constructor
  · intro h2
    apply UInt8.toNat_inj.1
    rw [UInt8.toNat_ofNat']; omega
  · rintro rfl
    rw [UInt8.toNat_ofNat']; omega
set_option maxRecDepth 100000 in
set_option maxHeartbeats 2000000 in
theorem hpl_any (s p : ByteArray) (w : World) (hs : s.size ≤ 1000000) (hp : p.size ≤ 1000000) :
    Calls Try.prog 38/-f-/ #[.string s, .string p] w fun e w' => e = .returned (.bool (decide (p.size ≤ s.size) && ((s.extract 0 p.size).toList == p.toList))) ∧ w = w' := by
  by_cases h : p.size ≤ s.size
  · have e := decide_eq_true h
    rw [e]
    obtain ⟨q, hq⟩ : ∃ q, q = ((s.extract 0 p.size).toList == p.toList) := ⟨_, rfl⟩
    rw [← hq]
    have hq2 := hq.symm
    clear hq e
    go_enter Try.func38, Try.ntmps38
    go_wp2
    go_ret
    exact ⟨ret_bool (by simp), rfl⟩
  · have e := decide_eq_false h
    rw [e]
    clear e
    go_enter Try.func38, Try.ntmps38
    go_wp2
    go_ret
    exact ⟨ret_bool (by simp), rfl⟩
/-- Whether a text begins with a remark. -/
def rem (l : List UInt8) : Bool := match l with
  | c :: d :: _ => c == 47 && d == 47
  | _ => false
theorem rem_ext (s : ByteArray) : (decide (2 ≤ s.size) && ((s.extract 0 2).toList == (⟨#[47, 47]⟩ : ByteArray).toList)) = rem s.data.toList := by
  obtain ⟨⟨l⟩⟩ := s
  match l with
  | [] => rfl
  | [c] => rfl
  | c :: d :: r =>
    have h1 : ((⟨⟨c :: d :: r⟩⟩ : ByteArray).extract 0 2) = ⟨#[c, d]⟩ := by
      apply ByteArray.ext; apply Array.toList_inj.1; simp
    rw [h1]
    have h2 : 2 ≤ (⟨⟨c :: d :: r⟩⟩ : ByteArray).size := by simp [ByteArray.size]
    rw [decide_eq_true h2]
    simp only [rem, Bool.true_and, ByteArray.toList_eq]
    simp
set_option maxRecDepth 100000 in
theorem hp_any (s : ByteArray) (w : World) (hs : s.size ≤ 1000000) :
    Calls Try.prog 30/-f-/ #[.string s, .string ⟨#[47, 47]⟩] w fun e w' => e = .returned (.bool (rem s.data.toList)) ∧ w = w' := by
  have C' := fun W => hpl_any s ⟨#[47, 47]⟩ W hs (by decide)
  rw [show (⟨#[47, 47]⟩ : ByteArray).size = 2 from rfl, rem_ext] at C'
  have C := Lib.hid C'
  clear C'
  go_enter Try.func30, Try.ntmps30
  go_wp2_with (go_at_call 38/-f-/; refine (C.out _).mono ?_; rintro e w1 ⟨rfl, rfl⟩)
  go_ret
  exact ⟨rfl, rfl⟩
end Go.Proofs.Ytgdfjcmjhagmoaa

/- A number's text, in lists of bytes: what package calc takes for one, and what it is worth. Nothing of any program. -/
import Derived.Lib.ItoaNum
import Derived.Below
namespace Go.Proofs.Ytgdfjcmjhagmoaa.Ar
def dig (c : UInt8) : Bool := decide (48 ≤ c.toNat ∧ c.toNat ≤ 57)
def plainL (l : List UInt8) : Bool := l.all dig && (l == [48] || (!l.isEmpty && l.headD 0 != 48))
def decVal (l : List UInt8) : Int := l.foldl (fun a c => 10 * a + ((c.toNat : Int) - 48)) 0
theorem decVal_snoc (l : List UInt8) (c : UInt8) : decVal (l ++ [c]) = 10 * decVal l + ((c.toNat : Int) - 48) := by simp [decVal]
theorem decVal_take (l : List UInt8) (k : Nat) (h : k < l.length) : decVal (l.take (k + 1)) = 10 * decVal (l.take k) + ((l[k].toNat : Int) - 48) := by
  rw [List.take_succ_eq_append_getElem h, decVal_snoc]
theorem decVal_step (l : List UInt8) (hd : l.all dig = true) (k : Nat) (h : k < l.length) (h0 : 0 ≤ decVal (l.take k)) : decVal (l.take k) ≤ decVal (l.take (k + 1)) ∧ 0 ≤ decVal (l.take (k + 1)) := by
  have h1 : dig l[k] = true := List.all_eq_true.1 hd _ (List.getElem_mem h)
  have h2 := of_decide_eq_true h1
  rw [decVal_take l k h]; omega
theorem decVal_nonneg (l : List UInt8) (hd : l.all dig = true) (k : Nat) (h : k ≤ l.length) : 0 ≤ decVal (l.take k) := by
  induction k with
  | zero => simp [decVal]
  | succ k ih => exact (decVal_step l hd k (by omega) (ih (by omega))).2
theorem decVal_mono (l : List UInt8) (hd : l.all dig = true) (k j : Nat) (hk : k ≤ j) (h : j ≤ l.length) : decVal (l.take k) ≤ decVal (l.take j) := by
  induction j with
  | zero => rw [show k = 0 by omega]; exact Int.le_refl _
  | succ j ih =>
    by_cases he : k = j + 1
    · rw [he]; exact Int.le_refl _
    · exact Int.le_trans (ih (by omega) (by omega)) (decVal_step l hd j (by omega) (decVal_nonneg l hd j (by omega))).1
theorem decVal_le (l : List UInt8) (hd : l.all dig = true) (k : Nat) (h : k ≤ l.length) : decVal (l.take k) ≤ decVal l := by
  have := decVal_mono l hd k l.length h (Nat.le_refl _)
  rwa [List.take_length] at this
def pneg (l : List UInt8) : Bool := l.headD 0 == 45
def pbody (l : List UInt8) : List UInt8 := if pneg l = true then l.tail else l
def pgood (l : List UInt8) : Bool := plainL (pbody l) && !(pneg l && pbody l == [48])
def pz (l : List UInt8) : Int := if pneg l = true then -decVal (pbody l) else decVal (pbody l)
open Go.Lib (decDigits itoa)
theorem dec_all (u : Nat) : (decDigits u).all dig = true := by
  induction u using Nat.strongRecOn with
  | ind u ih =>
    rw [decDigits]
    by_cases h : u < 10
    · rw [dif_pos h]
      simp only [List.all_cons, List.all_nil, Bool.and_true, dig]
      apply decide_eq_true
      rw [UInt8.toNat_ofNat']; omega
    · rw [dif_neg h]
      simp only [List.all_append, ih (u / 10) (by omega), Bool.true_and, List.all_cons, List.all_nil, Bool.and_true, dig]
      apply decide_eq_true
      rw [UInt8.toNat_ofNat']; omega
theorem dec_val (u : Nat) : decVal (decDigits u) = u := by
  induction u using Nat.strongRecOn with
  | ind u ih =>
    rw [decDigits]
    by_cases h : u < 10
    · rw [dif_pos h]
      simp only [decVal, List.foldl_cons, List.foldl_nil]
      rw [UInt8.toNat_ofNat']; omega
    · rw [dif_neg h, decVal_snoc, ih (u / 10) (by omega), UInt8.toNat_ofNat']; omega
theorem dec_head (u : Nat) : decDigits u ≠ [] ∧ (u ≠ 0 → (decDigits u).headD 0 ≠ 48) ∧ (u = 0 → decDigits u = [48]) ∧ (decDigits u = [48] → u = 0) := by
  induction u using Nat.strongRecOn with
  | ind u ih =>
    rw [decDigits]
    by_cases h : u < 10
    · rw [dif_pos h]
      refine ⟨by simp, fun h0 => ?_, fun h0 => by subst h0; rfl, fun h1 => ?_⟩
      · simp only [List.headD_cons]
        intro h2
        have := congrArg UInt8.toNat h2
        rw [UInt8.toNat_ofNat'] at this
        simp at this; omega
      · simp only [List.cons.injEq, and_true] at h1
        have := congrArg UInt8.toNat h1
        rw [UInt8.toNat_ofNat'] at this
        simp at this; omega
    · rw [dif_neg h]
      obtain ⟨i1, i2, i3, i4⟩ := ih (u / 10) (by omega)
      refine ⟨by simp, fun h0 => ?_, fun h0 => by omega, fun h1 => ?_⟩
      · have := i2 (by omega)
        cases hd : decDigits (u / 10) with
        | nil => exact absurd hd i1
        | cons x r => rw [hd] at this; simpa using this
      · have := congrArg List.length h1
        cases hd : decDigits (u / 10) with
        | nil => exact absurd hd i1
        | cons x r => rw [hd] at this; simp at this
theorem dec_plain (u : Nat) : plainL (decDigits u) = true := by
  obtain ⟨h1, h2, h3, _⟩ := dec_head u
  unfold plainL
  rw [dec_all, Bool.true_and]
  by_cases h : u = 0
  · rw [h3 h]; rfl
  · have := h2 h
    rw [Bool.or_eq_true]; right
    rw [Bool.and_eq_true]
    exact ⟨by cases hc : decDigits u with
      | nil => exact absurd hc h1
      | cons x r => rfl, bne_iff_ne.2 this⟩
theorem itoa_good (n : Int) : pgood (itoa n) = true ∧ pz (itoa n) = n := by
  by_cases h : n < 0
  · have e : itoa n = 45 :: decDigits n.natAbs := by simp [itoa, h]
    have hn : pneg (itoa n) = true := by rw [e]; rfl
    have hb : pbody (itoa n) = decDigits n.natAbs := by rw [pbody, if_pos hn, e]; rfl
    refine ⟨?_, ?_⟩
    · rw [pgood, hb, dec_plain, hn, Bool.true_and, Bool.true_and, Bool.not_eq_true']
      rw [beq_eq_false_iff_ne]
      intro h1
      have := (dec_head n.natAbs).2.2.2 h1
      omega
    · rw [pz, if_pos hn, hb, dec_val]; omega
  · have e : itoa n = decDigits n.toNat := by simp [itoa, h]
    have hd : dig ((decDigits n.toNat).headD 0) = true := by
      have h1 := (dec_head n.toNat).1
      have h2 := dec_all n.toNat
      cases hc : decDigits n.toNat with
      | nil => exact absurd hc h1
      | cons x r => rw [hc] at h2; simp only [List.all_cons, Bool.and_eq_true] at h2; exact h2.1
    have hn : pneg (itoa n) = false := by
      rw [e, pneg, beq_eq_false_iff_ne]
      intro h1
      rw [h1] at hd
      simp [dig] at hd
    have hb : pbody (itoa n) = decDigits n.toNat := by rw [pbody, if_neg (by rw [hn]; simp), e]
    refine ⟨?_, ?_⟩
    · rw [pgood, hb, dec_plain, hn, Bool.true_and, Bool.false_and]; rfl
    · rw [pz, if_neg (by rw [hn]; simp), hb, dec_val]; omega
theorem itoa_len (n : Int) (h : -9223372036854775808 ≤ n) (h' : n ≤ 9223372036854775807) : (itoa n).length ≤ 21 := by
  have key : ∀ u : Nat, u < 18446744073709551616 → (decDigits u).length ≤ 20 := by
    intro u hu
    rw [Go.Lib.decDigits_length]
    rcases Nat.lt_or_ge 20 (Go.Lib.nDigits u) with h1 | h1
    · exfalso
      have aux : ∀ k v : Nat, k < Go.Lib.nDigits v → 10 ^ k ≤ v ∨ k = 0 := by
        intro k
        induction k with
        | zero => intro v _; exact .inr rfl
        | succ k ih =>
          intro v hv
          by_cases hb : v < 10
          · rw [Go.Lib.nDigits_small hb] at hv; omega
          · rw [Go.Lib.nDigits_big hb] at hv
            rcases ih (v / 10) (by omega) with h3 | h3
            · left; rw [Nat.pow_succ]; omega
            · left; subst h3; omega
      rcases aux 20 u h1 with h3 | h3
      · omega
      · omega
    · exact h1
  by_cases hn : n < 0
  · have e : itoa n = 45 :: decDigits n.natAbs := by simp [itoa, hn]
    rw [e, List.length_cons]; have := key n.natAbs (by omega); omega
  · have e : itoa n = decDigits n.toNat := by simp [itoa, hn]
    rw [e]; have := key n.toNat (by omega); omega
end Go.Proofs.Ytgdfjcmjhagmoaa.Ar

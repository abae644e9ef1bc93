/- A text's bytes as digits, the last first: what they are worth, and which texts are numbers' texts. -/
import Derived.Test.YtgdfjcmjhagmoaaText
import Derived.Test.YtgdfjcmjhagmoaaNum
namespace Go.Proofs.Ytgdfjcmjhagmoaa.Ar
def dv (c : UInt8) : Int := (c.toNat : Int) - 48
def revd (l : List UInt8) : List Int := (l.map dv).reverse
theorem revd_snoc (l : List UInt8) (c : UInt8) : revd (l ++ [c]) = dv c :: revd l := by simp [revd]
theorem revd_cons (l : List UInt8) (c : UInt8) : revd (c :: l) = revd l ++ [dv c] := by simp [revd]
theorem revd_dig (l : List UInt8) (h : l.all dig = true) : Dig (revd l) := by
  intro d hd
  simp only [revd, List.mem_reverse, List.mem_map] at hd
  obtain ⟨c, hc, rfl⟩ := hd
  have := of_decide_eq_true (List.all_eq_true.1 h c hc)
  unfold dv; omega
theorem decVal_rev (l : List UInt8) : ∀ r : List UInt8, decVal (r ++ l) = decVal r * 10 ^ l.length + val (revd l) := by
  induction l with
  | nil => intro r; simp [revd, val]
  | cons c l ih =>
    intro r
    have h1 := ih (r ++ [c])
    rw [List.append_assoc, List.singleton_append] at h1
    rw [h1, decVal_snoc, revd_cons, val_append]
    have h2 : (revd l).length = l.length := by simp [revd]
    rw [h2, List.length_cons, Int.pow_succ]
    have h3 : val [dv c] = dv c := by simp [val]
    rw [h3]; unfold dv
    generalize (10 : Int) ^ l.length = p
    generalize val (revd l) = q
    generalize decVal r = t
    generalize ((c.toNat : Int) - 48) = u
    rw [Int.add_mul, Int.mul_comm 10 t, Int.mul_assoc t 10 p, Int.mul_comm 10 p, Int.mul_comm p u]
    omega
theorem val_revd (l : List UInt8) : val (revd l) = decVal l := by
  have := decVal_rev l []
  simp [decVal] at this
  rw [← this]; rfl
/-- Which texts are numbers' texts, as the reference asks it. -/
theorem good_when (l : List UInt8) (h : (pbody l).all dig = true) (hne : pbody l ≠ []) (hz : ¬ ((pbody l).headD 0 = 48 ∧ 1 < l.length)) : pgood l = true := by
  unfold pgood plainL
  rw [h, Bool.true_and]
  by_cases h48 : (pbody l).headD 0 = 48
  · have hl : l.length ≤ 1 := by
      rcases Nat.lt_or_ge 1 l.length with h1 | h1
      · exact absurd ⟨h48, h1⟩ hz
      · exact h1
    have hn : pneg l = false := by
      cases hp : pneg l with
      | false => rfl
      | true =>
        exfalso; apply hne
        unfold pbody; rw [if_pos hp]
        match l, hl with
        | [], _ => rfl
        | [x], _ => rfl
    have hb : pbody l = l := by unfold pbody; rw [hn]; rfl
    rw [hb] at hne h48 ⊢
    match l, hl, hne, h48 with
    | [x], _, _, h48 =>
      have hx : x = 48 := by simpa using h48
      subst hx
      rw [hn]; rfl
  · have h1 : (pbody l == [48]) = false := by
      rw [beq_eq_false_iff_ne]; intro h2; apply h48; rw [h2]; rfl
    have h2 : ((pbody l).headD 0 != 48) = true := bne_iff_ne.2 h48
    have h3 : (pbody l).isEmpty = false := by
      cases hc : pbody l with
      | nil => exact absurd hc hne
      | cons x r => rfl
    rw [h1, h2, h3]; simp
theorem bad_digit (l : List UInt8) (h : (pbody l).all dig = false) : pgood l = false := by
  unfold pgood plainL; rw [h]; rfl
theorem bad_empty (l : List UInt8) (h : pbody l = []) : pgood l = false := by
  unfold pgood; rw [h]; rfl
theorem bad_zero (l : List UInt8) (h : (pbody l).headD 0 = 48) (hl : 1 < l.length) : pgood l = false := by
  unfold pgood plainL
  by_cases h1 : pbody l = [48]
  · have hn : pneg l = true := by
      cases hp : pneg l with
      | true => rfl
      | false =>
        exfalso
        have hb : pbody l = l := by unfold pbody; rw [hp]; rfl
        rw [hb] at h1; rw [h1] at hl; simp at hl
    rw [h1, hn]; rfl
  · have h2 : (pbody l == [48]) = false := beq_eq_false_iff_ne.2 h1
    rw [h2, h]; simp
end Go.Proofs.Ytgdfjcmjhagmoaa.Ar

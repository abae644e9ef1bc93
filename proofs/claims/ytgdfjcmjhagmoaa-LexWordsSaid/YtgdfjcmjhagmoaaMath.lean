/- Plain facts on integers: Go's quotients against quotients that are rounded down. Nothing of any program. -/
import Derived.Below
namespace Go.Proofs.Ytgdfjcmjhagmoaa.Ar
theorem tq_le (a b : Int) : (a.tdiv b).natAbs = a.natAbs / b.natAbs := Int.natAbs_tdiv a b
theorem tq_two (a b : Int) (h : a.tmod b ≠ 0) (hb : b ≠ 0) : 2 * (a.tdiv b).natAbs ≤ a.natAbs := by
  rw [tq_le]
  have h1 : b.natAbs ≠ 1 := by
    intro h1
    apply h
    have : b = 1 ∨ b = -1 := by omega
    rcases this with rfl | rfl
    · exact Int.tmod_one a
    · simp
  have h2 : 2 ≤ b.natAbs := by omega
  have := Nat.div_le_div_left (a := a.natAbs) h2 (by omega)
  omega
theorem tq_all (a b : Int) (ha : -9223372036854775808 ≤ a) (ha' : a ≤ 9223372036854775807) (hab : ¬ (a = -9223372036854775808 ∧ b = -1)) (hb : b ≠ 0) :
    -9223372036854775808 ≤ a.tdiv b ∧ a.tdiv b ≤ 9223372036854775807 := by
  by_cases h1 : a.tmod b = 0
  · by_cases hm : b = -1
    · subst hm; simp; omega
    · have h2 := tq_le a b
      have h3 := Int.tmod_add_mul_tdiv a b
      by_cases hq : a.tdiv b = 9223372036854775808
      · rw [hq] at h3 h2
        have : a.natAbs ≤ 9223372036854775808 := by omega
        have h4 : a = b * 9223372036854775808 := by omega
        omega
      · have := Nat.div_le_self a.natAbs b.natAbs
        omega
  · have := tq_two a b h1 hb
    omega
theorem tm_sign (a b : Int) (h : a.tmod b ≠ 0) : (a.tmod b < 0 ↔ a < 0) := by
  constructor
  · intro h1
    rcases Int.lt_or_le a 0 with h2 | h2
    · exact h2
    · have := Int.tmod_nonneg b h2; omega
  · intro h1
    have := Int.tmod_nonneg (a := -a) b (by omega)
    rw [Int.neg_tmod] at this; omega
theorem fq_even (a b : Int) (h : a.tmod b = 0) : a.fdiv b = a.tdiv b ∧ a.fmod b = a.tmod b := by
  have hd := Int.dvd_of_tmod_eq_zero h
  rw [Int.fdiv_eq_tdiv, Int.fmod_eq_tmod, if_pos hd, if_pos hd]; omega
theorem fq_same (a b : Int) (h : a.tmod b ≠ 0) (hb : b ≠ 0) (hs : a < 0 ↔ b < 0) : a.fdiv b = a.tdiv b ∧ a.fmod b = a.tmod b := by
  have hd : ¬ b ∣ a := fun h' => h (Int.tmod_eq_zero_of_dvd h')
  rw [Int.fdiv_eq_tdiv, Int.fmod_eq_tmod, if_neg hd, if_neg hd]
  by_cases h0 : 0 ≤ a
  · have : 0 ≤ b := by omega
    simp [h0, this]
  · have : ¬ 0 ≤ b := by omega
    have e : b.sign = -1 := Int.sign_eq_neg_one_of_neg (by omega)
    have e' : b.toNat = 0 := by omega
    simp [h0, this, e, e']
theorem fq_diff (a b : Int) (h : a.tmod b ≠ 0) (hb : b ≠ 0) (hs : ¬ (a < 0 ↔ b < 0)) : a.fdiv b = a.tdiv b - 1 ∧ a.fmod b = a.tmod b + b := by
  have hd : ¬ b ∣ a := fun h' => h (Int.tmod_eq_zero_of_dvd h')
  rw [Int.fdiv_eq_tdiv, Int.fmod_eq_tmod, if_neg hd, if_neg hd]
  by_cases h0 : 0 ≤ a
  · have : ¬ 0 ≤ b := by omega
    simp [h0, this]
  · have : 0 ≤ b := by omega
    have e : b.sign = 1 := Int.sign_eq_one_of_pos (by omega)
    have e' : (b.natAbs : Int) = b := by omega
    simp [h0, this, e, e']
theorem tm_bd (a b : Int) (hb : b ≠ 0) : -(b.natAbs : Int) < a.tmod b ∧ a.tmod b < b.natAbs := by
  have h1 : (a.tmod b).natAbs < b.natAbs := by rw [Int.natAbs_tmod]; exact Nat.mod_lt _ (by omega)
  omega
def divV (a b : Int) : Int := if b = 0 then 0 else if a = -9223372036854775808 ∧ b = -1 then 0 else a.fdiv b
def divE (a b : Int) : Int := if b = 0 then 3 else if a = -9223372036854775808 ∧ b = -1 then 2 else 0
def modV (a b : Int) : Int := if b = 0 then 0 else a.fmod b
def modE (b : Int) : Int := if b = 0 then 3 else 0
/-- The product of all. -/
def prod : List Int → Int
  | [] => 1
  | x :: r => x * prod r
theorem prod_append (a b : List Int) : prod (a ++ b) = prod a * prod b := by
  induction a with
  | nil => simp [prod]
  | cons x r ih => simp [prod, ih, Int.mul_assoc]
theorem prod_take (xs : List Int) (i : Nat) (h : i < xs.length) : prod (xs.take (i + 1)) = prod (xs.take i) * xs.getD i 0 := by
  rw [List.take_succ_eq_append_getElem h, prod_append]
  simp [prod, List.getD, h]
theorem prod_ne (xs : List Int) (h : ∀ x ∈ xs, x ≠ 0) : prod xs ≠ 0 := by
  induction xs with
  | nil => simp [prod]
  | cons x r ih =>
    simp only [prod]
    exact Int.mul_ne_zero (h x (by simp)) (ih fun y hy => h y (by simp [hy]))
theorem prod_zero (xs : List Int) (h : (0 : Int) ∈ xs) : prod xs = 0 := by
  induction xs with
  | nil => simp at h
  | cons x r ih =>
    simp only [prod]
    rcases List.mem_cons.1 h with rfl | h
    · simp
    · rw [ih h]; simp
theorem prod_big (xs : List Int) (i : Nat) (h : ∀ x ∈ xs, x ≠ 0) (m : Nat) (hm : m ≤ (prod (xs.take i)).natAbs) : m ≤ (prod xs).natAbs := by
  have e : prod xs = prod (xs.take i) * prod (xs.drop i) := by rw [← prod_append, List.take_append_drop]
  have hd : prod (xs.drop i) ≠ 0 := prod_ne _ fun x hx => h x (List.mem_of_mem_drop hx)
  rw [e, Int.natAbs_mul]
  have h1 : 1 ≤ (prod (xs.drop i)).natAbs := by omega
  exact Nat.le_trans hm (Nat.le_mul_of_pos_right _ h1)
theorem sign_mul (p x : Int) (hp : p ≠ 0) (hx : x ≠ 0) : (!(decide (p < 0) == decide (x < 0))) = decide (p * x < 0) := by
  by_cases h1 : p < 0 <;> by_cases h2 : x < 0
  · have := Int.mul_pos_of_neg_of_neg h1 h2
    have h3 : ¬ p * x < 0 := by omega
    simp [h1, h2, h3]
  · have := Int.mul_neg_of_neg_of_pos h1 (show 0 < x by omega)
    simp [h1, h2, this]
  · have := Int.mul_neg_of_pos_of_neg (show 0 < p by omega) h2
    simp [h1, h2, this]
  · have := Int.mul_pos (show 0 < p by omega) (show 0 < x by omega)
    have h3 : ¬ p * x < 0 := by omega
    simp [h1, h2, h3]
end Go.Proofs.Ytgdfjcmjhagmoaa.Ar

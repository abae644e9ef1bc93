/- Digits, the lowest first, as the reference for package calc has them: what they are worth. Nothing of any program. -/
import Derived.Below
namespace Go.Proofs.Ytgdfjcmjhagmoaa.Ar
def val : List Int → Int
  | [] => 0
  | d :: r => d + 10 * val r
def Dig (D : List Int) : Prop := ∀ d ∈ D, 0 ≤ d ∧ d ≤ 9
def Canon (D : List Int) : Prop := D = [] ∨ D.getD (D.length - 1) 0 ≠ 0
theorem val_append (a b : List Int) : val (a ++ b) = val a + 10 ^ a.length * val b := by
  induction a with
  | nil => simp [val]
  | cons x r ih => simp only [List.cons_append, val, ih, List.length_cons, Int.pow_succ]; rw [Int.mul_add, ← Int.mul_assoc, Int.mul_comm 10 (10 ^ r.length)]; omega
theorem val_snoc (a : List Int) (d : Int) : val (a ++ [d]) = val a + 10 ^ a.length * d := by rw [val_append]; simp [val]
theorem val_bd (D : List Int) (h : Dig D) : 0 ≤ val D ∧ val D < 10 ^ D.length := by
  induction D with
  | nil => simp [val]
  | cons x r ih =>
    obtain ⟨h1, h2⟩ := ih fun d hd => h d (by simp [hd])
    have h3 := h x (by simp)
    simp only [val, List.length_cons, Int.pow_succ]
    omega
theorem getD_mem {D : List Int} {i : Nat} (h : i < D.length) : D.getD i 0 ∈ D := by
  have : D.getD i 0 = D[i] := by simp [List.getD, h]
  rw [this]; exact List.getElem_mem h
theorem Dig.at_ {D : List Int} (h : Dig D) (i : Nat) : 0 ≤ D.getD i 0 ∧ D.getD i 0 ≤ 9 := by
  by_cases hi : i < D.length
  · exact h _ (getD_mem hi)
  · simp only [List.getD, List.getElem?_eq_none (Nat.not_lt.1 hi), Option.getD_none]; omega
theorem Dig.take {D : List Int} (h : Dig D) (n : Nat) : Dig (D.take n) := fun d hd => h d (List.mem_of_mem_take hd)
theorem Dig.snoc {D : List Int} (h : Dig D) {d : Int} (h1 : 0 ≤ d) (h2 : d ≤ 9) : Dig (D ++ [d]) := by
  intro x hx
  rcases List.mem_append.1 hx with hx | hx
  · exact h x hx
  · rw [List.mem_singleton] at hx; subst hx; exact ⟨h1, h2⟩
theorem take_snoc (D : List Int) (n : Nat) (h : n < D.length) : D.take (n + 1) = D.take n ++ [D.getD n 0] := by
  have : D.getD n 0 = D[n] := by simp [List.getD, h]
  rw [this]; exact List.take_succ_eq_append_getElem h
theorem val_take (D : List Int) (n : Nat) (h : n < D.length) : val (D.take (n + 1)) = val (D.take n) + 10 ^ n * D.getD n 0 := by
  rw [take_snoc D n h, val_snoc, List.length_take, Nat.min_eq_left (by omega)]
theorem val_drop (D : List Int) (n : Nat) (h : n < D.length) : val (D.drop n) = D.getD n 0 + 10 * val (D.drop (n + 1)) := by
  rw [List.drop_eq_getElem_cons h]
  have : D.getD n 0 = D[n] := by simp [List.getD, h]
  rw [this]; rfl
theorem pow_pos (n : Nat) : (0 : Int) < 10 ^ n := Int.pow_pos (by omega)
theorem pow_le {a b : Nat} (h : a ≤ b) : (10 : Int) ^ a ≤ 10 ^ b := by
  obtain ⟨k, rfl⟩ := Nat.exists_eq_add_of_le h
  rw [Int.pow_add]
  have h1 := pow_pos a
  have h2 := pow_pos k
  have h3 : 10 ^ a * 1 ≤ (10 : Int) ^ a * 10 ^ k := Int.mul_le_mul_of_nonneg_left (by omega) (by omega)
  omega
theorem val_lo (D : List Int) (h : Dig D) (hc : Canon D) (hn : D ≠ []) : 10 ^ (D.length - 1) ≤ val D := by
  rcases hc with hc | hc
  · exact absurd hc hn
  · have hl : D.length - 1 < D.length := by
      have := List.length_pos_iff.2 hn; omega
    have h1 := val_take D (D.length - 1) hl
    rw [show D.length - 1 + 1 = D.length by omega, List.take_length] at h1
    have h2 := (val_bd _ (h.take (D.length - 1))).1
    have h3 := h.at_ (D.length - 1)
    have h4 : 10 ^ (D.length - 1) * 1 ≤ (10 : Int) ^ (D.length - 1) * D.getD (D.length - 1) 0 := Int.mul_le_mul_of_nonneg_left (by omega) (by have := pow_pos (D.length - 1); omega)
    omega
theorem val_zero (D : List Int) (h : Dig D) (hc : Canon D) : val D = 0 ↔ D = [] := by
  constructor
  · intro hv
    rcases Classical.em (D = []) with h1 | h1
    · exact h1
    · have := val_lo D h hc h1
      have := pow_pos (D.length - 1)
      omega
  · rintro rfl; rfl
/-- Digits of fewer places are worth less. -/
theorem val_short (a b : List Int) (ha : Dig a) (hb : Dig b) (hcb : Canon b) (hl : a.length < b.length) : val a < val b := by
  have h1 := (val_bd a ha).2
  have h2 := val_lo b hb hcb (by intro h; subst h; simp at hl)
  have h3 := pow_le (show a.length ≤ b.length - 1 by omega)
  omega
/-- Equal from a place on, and there less: worth less. -/
theorem val_top (a b : List Int) (ha : Dig a) (hb : Dig b) (hl : a.length = b.length) (i : Nat) (hi : i < a.length) (heq : ∀ j, i < j → j < a.length → a.getD j 0 = b.getD j 0) (hlt : a.getD i 0 < b.getD i 0) : val a < val b := by
  have key : ∀ k, i < k → k ≤ a.length → val (a.take k) < val (b.take k) := by
    intro k
    induction k with
    | zero => intro h; omega
    | succ k ih =>
      intro h1 h2
      rw [val_take a k (by omega), val_take b k (by omega)]
      by_cases hk : k = i
      · subst hk
        have h3 := (val_bd _ (ha.take k)).2
        have h4 := (val_bd _ (hb.take k)).1
        rw [List.length_take, Nat.min_eq_left (by omega)] at h3
        have h5 : (10 : Int) ^ k * (a.getD k 0 + 1) ≤ 10 ^ k * b.getD k 0 := Int.mul_le_mul_of_nonneg_left (by omega) (by have := pow_pos k; omega)
        rw [Int.mul_add] at h5
        omega
      · rw [heq k (by omega) (by omega)]
        have := ih (by omega) (by omega)
        omega
  have h := key a.length hi (Nat.le_refl _)
  rw [List.take_length] at h
  rw [show b.take a.length = b by rw [hl, List.take_length]] at h
  exact h
theorem val_same (a b : List Int) (hl : a.length = b.length) (heq : ∀ j, j < a.length → a.getD j 0 = b.getD j 0) : a = b := by
  apply List.ext_getElem hl
  intro i h1 h2
  have := heq i h1
  simpa [List.getD, h1, h2] using this
/-- What noughts above leave. -/
theorem val_trim (D : List Int) (n : Nat) (hn : n ≤ D.length) (h : ∀ i, n ≤ i → i < D.length → D.getD i 0 = 0) : val (D.take n) = val D := by
  have key : ∀ k, n ≤ k → k ≤ D.length → val (D.take k) = val (D.take n) := by
    intro k
    induction k with
    | zero => intro h1 _; rw [show n = 0 by omega]
    | succ k ih =>
      intro h1 h2
      by_cases hk : n = k + 1
      · rw [hk]
      · rw [val_take D k (by omega), h k (by omega) (by omega), ih (by omega) (by omega)]; simp
  have := key D.length hn (Nat.le_refl _)
  rw [List.take_length] at this
  exact this.symm
/-- 10 to the 20, less so many places. -/
def top (k : Nat) : Int := 10 ^ (20 - k)
theorem top_step (k : Nat) (u : Int) (h0 : 0 < u) (h : u < top k) (hk : k ≤ 20) : k < 20 ∧ u / 10 < top (k + 1) := by
  have hk' : k ≠ 20 := by rintro rfl; simp [top] at h; omega
  refine ⟨by omega, ?_⟩
  unfold top at *
  rw [show 20 - k = (20 - (k + 1)) + 1 by omega, Int.pow_succ] at h
  omega
theorem split_step (n v p u : Int) (h : v + p * u = n) : v + p * (u % 10) + p * 10 * (u / 10) = n := by
  have : u = u % 10 + 10 * (u / 10) := by omega
  rw [Int.mul_assoc, Int.add_assoc, ← Int.mul_add]
  rw [← this]; exact h
theorem val_set (O : List Int) (t : Nat) (v : Int) (h : t < O.length) : val (O.set t v) = val O + 10 ^ t * (v - O.getD t 0) := by
  induction O generalizing t with
  | nil => simp at h
  | cons x r ih =>
    cases t with
    | zero => simp [val]; omega
    | succ t =>
      have := ih t (by simpa using h)
      simp only [List.set_cons_succ, val, this, List.getD_cons_succ, Int.pow_succ]
      rw [Int.mul_add, Int.mul_comm (10 ^ t) 10, Int.mul_assoc]; omega
theorem val_replicate (n : Nat) : val (List.replicate n 0) = 0 := by
  induction n with
  | zero => rfl
  | succ n ih => simp [List.replicate_succ, val, ih]
theorem getD_set (O : List Int) (t u : Nat) (v : Int) (h : t < O.length) : (O.set t v).getD u 0 = if u = t then v else O.getD u 0 := by
  simp only [List.getD, List.getElem?_set]
  by_cases e : u = t
  · subst e; simp [h]
  · rw [if_neg (fun e' => e e'.symm), if_neg e]
theorem val_drop_le (D : List Int) (h : Dig D) (k : Nat) : val (D.drop k) ≤ val D := by
  induction k with
  | zero => simp
  | succ k ih =>
    by_cases hk : k < D.length
    · have h1 := val_drop D k hk
      have h2 := h.at_ k
      have h3 := (val_bd (D.drop (k + 1)) (fun d hd => h d (List.mem_of_mem_drop hd))).1
      omega
    · have h1 := (val_bd D h).1
      rw [List.drop_eq_nil_of_le (by omega)]; exact h1
end Go.Proofs.Ytgdfjcmjhagmoaa.Ar

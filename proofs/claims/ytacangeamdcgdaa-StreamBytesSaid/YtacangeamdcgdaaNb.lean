/- Numbers as bytes: plain mathematics. -/
import Derived.Test.YtacangeamdcgdaaKey
namespace Go.Proofs.Ytacangeamdcgdaa
/-- A number's bytes, highest first, none of them a leading nought. -/
def nb (n : Nat) : List UInt8 := if _h : n = 0 then [] else nb (n / 256) ++ [UInt8.ofNat (n % 256)]
termination_by n
decreasing_by omega
theorem nb_zero : nb 0 = [] := by rw [nb]; simp
theorem nb_pos (n : Nat) (h : 0 < n) : nb n = nb (n / 256) ++ [UInt8.ofNat (n % 256)] := by
  rw [nb, dif_neg (by omega)]
/-- How many bytes a number has. -/
theorem nb_len (k n : Nat) (h : n < 256 ^ k) : (nb n).length ≤ k := by
  induction k generalizing n with
  | zero => rw [show n = 0 by simpa using h, nb_zero]; simp
  | succ k ih =>
    rcases Nat.eq_zero_or_pos n with h0 | h0
    · rw [h0, nb_zero]; simp
    · rw [nb_pos n h0, List.length_append, List.length_singleton]
      have := ih (n / 256) (by rw [Nat.pow_succ] at h; omega)
      omega
theorem snoc_ind {α : Type} {P : List α → Prop} (h0 : P []) (h1 : ∀ l c, P l → P (l ++ [c])) (l : List α) : P l := by
  rw [← List.reverse_reverse l]
  induction l.reverse with
  | nil => exact h0
  | cons a r ih => rw [List.reverse_cons]; exact h1 _ _ ih
theorem head_app {α : Type} {l r : List α} (h : l ≠ []) : (l ++ r).head? = l.head? := by
  cases l with
  | nil => exact absurd rfl h
  | cons a t => rfl
/-- The number that bytes are. -/
def de (l : List UInt8) : Nat := l.foldl (fun a c => a * 256 + c.toNat) 0
theorem de_snoc (l : List UInt8) (c : UInt8) : de (l ++ [c]) = de l * 256 + c.toNat := by simp [de]
theorem de_nb (n : Nat) : de (nb n) = n := by
  induction n using Nat.strongRecOn with
  | ind n ih =>
    rcases Nat.eq_zero_or_pos n with h0 | h0
    · rw [h0, nb_zero]; rfl
    · rw [nb_pos n h0, de_snoc, ih _ (by omega), UInt8.toNat_ofNat']
      omega
theorem nb_ne_nil (n : Nat) (h : 0 < n) : nb n ≠ [] := by rw [nb_pos n h]; simp
/-- The first byte isn't nought. -/
theorem nb_head (n : Nat) : ∀ c, (nb n).head? = some c → c ≠ 0 := by
  induction n using Nat.strongRecOn with
  | ind n ih =>
    intro c hc
    rcases Nat.eq_zero_or_pos n with h0 | h0
    · rw [h0, nb_zero] at hc; simp at hc
    · rw [nb_pos n h0] at hc
      by_cases h1 : n / 256 = 0
      · rw [h1, nb_zero] at hc
        simp at hc
        subst hc
        intro h
        have := congrArg UInt8.toNat h
        simp at this
        omega
      · rw [head_app (nb_ne_nil _ (by omega))] at hc
        exact ih _ (by omega) c hc
theorem de_lt (l : List UInt8) : de l < 256 ^ l.length := by
  induction l using snoc_ind with
  | h0 => simp [de]
  | h1 l c ih =>
    rw [de_snoc, List.length_append, List.length_singleton, Nat.pow_succ]
    have := c.toNat_lt
    omega
theorem de_pos (l : List UInt8) (hn : l ≠ []) (h : ∀ c, l.head? = some c → c ≠ 0) : 0 < de l := by
  induction l using snoc_ind with
  | h0 => simp at hn
  | h1 l c ih =>
    rw [de_snoc]
    by_cases h1 : l = []
    · subst h1
      have h2 := h c (by simp)
      have : 0 < c.toNat := Nat.pos_of_ne_zero (fun e => h2 (UInt8.toNat_inj.1 (by simpa using e)))
      simp [de]; omega
    · have := ih h1 (fun d hd => h d (by rw [head_app h1]; exact hd))
      omega
/-- Bytes without a leading nought are those of their number. -/
theorem nb_de (l : List UInt8) (h : ∀ c, l.head? = some c → c ≠ 0) : nb (de l) = l := by
  induction l using snoc_ind with
  | h0 => exact nb_zero
  | h1 l c ih =>
    have hp := de_pos (l ++ [c]) (by simp) h
    rw [nb_pos _ hp, de_snoc]
    have hc := c.toNat_lt
    have h1 : (de l * 256 + c.toNat) / 256 = de l := by omega
    have h2 : (de l * 256 + c.toNat) % 256 = c.toNat := by omega
    rw [h1, h2, UInt8.ofNat_toNat]
    by_cases h3 : l = []
    · subst h3; rw [show de [] = 0 from rfl, nb_zero]
    · rw [ih (fun d hd => h d (by rw [head_app h3]; exact hd))]
/-- Byte i of a number. -/
theorem nb_at (n : Nat) : ∀ i, i < (nb n).length → (nb n)[i]? = some (UInt8.ofNat (n / 256 ^ ((nb n).length - 1 - i))) := by
  induction n using Nat.strongRecOn with
  | ind n ih =>
    intro i hi
    rcases Nat.eq_zero_or_pos n with h0 | h0
    · rw [h0, nb_zero] at hi; simp at hi
    · have e := nb_pos n h0
      have hl : (nb n).length = (nb (n / 256)).length + 1 := by rw [e]; simp
      rw [hl] at hi ⊢
      rw [e]
      by_cases h1 : i < (nb (n / 256)).length
      · rw [List.getElem?_append_left h1, ih _ (by omega) i h1]
        rw [show (nb (n / 256)).length + 1 - 1 - i = ((nb (n / 256)).length - 1 - i) + 1 by omega, Nat.pow_succ, Nat.mul_comm, ← Nat.div_div_eq_div_mul]
      · have h2 : i = (nb (n / 256)).length := by omega
        rw [h2, List.getElem?_append_right (Nat.le_refl _)]
        simp
        apply UInt8.toNat_inj.1
        simp
theorem nb_take (n i : Nat) (h : i < (nb n).length) : (nb n).take (i + 1) = (nb n).take i ++ [UInt8.ofNat (n / 256 ^ ((nb n).length - 1 - i))] := by
  have h2 := nb_at n i h
  rw [List.getElem?_eq_getElem h] at h2
  rw [List.take_succ_eq_append_getElem h, Option.some.inj h2]
/-- A number as it is laid: how many bytes it has, and these. -/
def num (n : Nat) : List UInt8 := UInt8.ofNat (nb n).length :: nb n
theorem num_len (n : Nat) (h : n < 2 ^ 64) : (num n).length ≤ 9 := by
  have := nb_len 8 n (by simpa using h)
  simp [num]; omega
/-- A signed number's own one. -/
def zig (n : Int) : Nat := if n < 0 then (-2 * n - 1).toNat else (2 * n).toNat
def zag (m : Nat) : Int := if m % 2 = 0 then (m / 2 : Nat) else -(m / 2 : Nat) - 1
theorem zag_zig (n : Int) : zag (zig n) = n := by unfold zag zig; split <;> split <;> omega
theorem zig_lt (n : Int) (h1 : -9223372036854775808 ≤ n) (h2 : n ≤ 9223372036854775807) : zig n < 2 ^ 64 := by unfold zig; split <;> omega
theorem zag_bd (m : Nat) (h : m < 2 ^ 64) : -9223372036854775808 ≤ zag m ∧ zag m ≤ 9223372036854775807 := by unfold zag; split <;> omega
end Go.Proofs.Ytacangeamdcgdaa

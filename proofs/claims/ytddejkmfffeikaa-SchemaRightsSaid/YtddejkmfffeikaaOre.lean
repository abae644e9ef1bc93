/- Keys stand in the order of their rows: plain mathematics. -/
import Derived.Test.YtddejkmfffeikaaUnk
import Derived.Test.YtddejkmfffeikaaRwz
namespace Go.Proofs.Ytddejkmfffeikaa
open Go.ChangeShapes Go.WideShapes Go.ChangeAt Go.RowKit
theorem cmp_cons (a b : UInt8) (x y : List UInt8) : Lib.compareBytes (a :: x) (b :: y) = if a < b then -1 else if b < a then 1 else Lib.compareBytes x y := by rw [Lib.compareBytes]
theorem cmp_same (a : UInt8) (x y : List UInt8) : Lib.compareBytes (a :: x) (a :: y) = Lib.compareBytes x y := by
  rw [cmp_cons, if_neg (UInt8.lt_irrefl a), if_neg (UInt8.lt_irrefl a)]
theorem cmp_diff (a b : UInt8) (x y : List UInt8) (h : a ≠ b) : Lib.compareBytes (a :: x) (b :: y) = Lib.compareInt a.toNat b.toNat := by
  rw [cmp_cons]
  unfold Lib.compareInt
  have h2 : a.toNat ≠ b.toNat := fun e => h (UInt8.toNat_inj.1 e)
  by_cases h1 : a < b
  · have := UInt8.lt_iff_toNat_lt.1 h1
    rw [if_pos h1, if_pos (by omega)]
  · have h3 : ¬ a.toNat < b.toNat := fun e => h1 (UInt8.lt_iff_toNat_lt.2 e)
    have h4 : b < a := UInt8.lt_iff_toNat_lt.2 (by omega)
    rw [if_neg h1, if_pos h4, if_neg (by omega), if_pos (by omega)]
theorem be_cons (c : UInt8) (l : List UInt8) : be (c :: l) = c.toNat * 256 ^ l.length + be l := by
  have aux : ∀ (l : List UInt8) (a : Nat), l.foldl (fun a c => 256 * a + c.toNat) a = a * 256 ^ l.length + be l := by
    intro l
    induction l with
    | nil => intro a; simp [be]
    | cons d r ih =>
      intro a
      have h1 := ih (256 * a + d.toNat)
      have h2 := ih d.toNat
      simp only [List.foldl_cons, List.length_cons] at *
      have e : be (d :: r) = r.foldl (fun a c => 256 * a + c.toNat) (256 * 0 + d.toNat) := rfl
      rw [h1, e, Nat.mul_zero, Nat.zero_add, h2, Nat.pow_succ, Nat.add_mul, Nat.mul_comm 256 a, Nat.mul_assoc, Nat.mul_comm 256]
      omega
  have e : be (c :: l) = l.foldl (fun a c => 256 * a + c.toNat) (256 * 0 + c.toNat) := rfl
  rw [e, Nat.mul_zero, Nat.zero_add, aux]
theorem cmp_be : ∀ (l m r q : List UInt8), l.length = m.length → Lib.compareBytes (l ++ r) (m ++ q) = if be l ≠ be m then Lib.compareInt (be l) (be m) else Lib.compareBytes r q
  | [], [], r, q, _ => by simp
  | [], _ :: _, _, _, h => by simp at h
  | _ :: _, [], _, _, h => by simp at h
  | a :: l, b :: m, r, q, h => by
    have hl : l.length = m.length := by simpa using h
    have h1 := be_lt l
    have h2 := be_lt m
    rw [hl] at h1
    have hp : 0 < 256 ^ m.length := Nat.pow_pos (by decide)
    rw [List.cons_append, List.cons_append, be_cons, be_cons, hl]
    by_cases hab : a = b
    · subst hab
      rw [cmp_same, cmp_be l m r q hl]
      by_cases he : be l = be m
      · rw [he]; simp
      · rw [if_pos he, if_pos (by omega)]
        unfold Lib.compareInt
        by_cases hlt : be l < be m
        · rw [if_pos (by omega), if_pos (by omega)]
        · rw [if_neg (by omega), if_pos (by omega), if_neg (by omega), if_pos (by omega)]
    · rw [cmp_diff _ _ _ _ hab]
      have hne : a.toNat ≠ b.toNat := fun e => hab (UInt8.toNat_inj.1 e)
      rcases Nat.lt_or_gt_of_ne hne with hlt | hgt
      · have h3 : (a.toNat + 1) * 256 ^ m.length ≤ b.toNat * 256 ^ m.length := Nat.mul_le_mul_right _ hlt
        rw [Nat.add_mul] at h3
        rw [if_pos (by omega)]
        unfold Lib.compareInt
        rw [if_pos (by omega), if_pos (by omega)]
      · have h3 : (b.toNat + 1) * 256 ^ m.length ≤ a.toNat * 256 ^ m.length := Nat.mul_le_mul_right _ hgt
        rw [Nat.add_mul] at h3
        rw [if_pos (by omega)]
        unfold Lib.compareInt
        rw [if_neg (by omega), if_pos (by omega), if_neg (by omega), if_pos (by omega)]
theorem esc_cons (c : UInt8) (l : List UInt8) : esc (c :: l) = (if c = 0 then [0, 255] else [c]) ++ esc l := rfl
theorem cmp_esc : ∀ (s t r q : List UInt8), Lib.compareBytes (esc s ++ 0 :: 1 :: r) (esc t ++ 0 :: 1 :: q) = if Lib.compareBytes s t ≠ 0 then Lib.compareBytes s t else Lib.compareBytes r q
  | [], [], r, q => by
    show Lib.compareBytes (0 :: 1 :: r) (0 :: 1 :: q) = _
    rw [cmp_same, cmp_same]; simp [Lib.compareBytes]
  | [], b :: t, r, q => by
    rw [esc_cons]
    show Lib.compareBytes (0 :: 1 :: r) _ = _
    by_cases hb : b = 0
    · subst hb
      rw [if_pos rfl]
      show Lib.compareBytes (0 :: 1 :: r) (0 :: 255 :: (esc t ++ 0 :: 1 :: q)) = _
      rw [cmp_same, cmp_cons, if_pos (by decide)]; simp [Lib.compareBytes]
    · rw [if_neg hb]
      show Lib.compareBytes (0 :: 1 :: r) (b :: (esc t ++ 0 :: 1 :: q)) = _
      have : (0 : UInt8) < b := UInt8.lt_iff_toNat_lt.2 (by
        have : b.toNat ≠ 0 := fun e => hb (UInt8.toNat_inj.1 e)
        show 0 < b.toNat
        omega)
      rw [cmp_cons, if_pos this]; simp [Lib.compareBytes]
  | a :: s, [], r, q => by
    rw [esc_cons]
    show Lib.compareBytes _ (0 :: 1 :: q) = _
    by_cases ha : a = 0
    · subst ha
      rw [if_pos rfl]
      show Lib.compareBytes (0 :: 255 :: (esc s ++ 0 :: 1 :: r)) (0 :: 1 :: q) = _
      rw [cmp_same, cmp_cons, if_neg (by decide), if_pos (by decide)]; simp [Lib.compareBytes]
    · rw [if_neg ha]
      show Lib.compareBytes (a :: (esc s ++ 0 :: 1 :: r)) (0 :: 1 :: q) = _
      have h0 : (0 : UInt8) < a := UInt8.lt_iff_toNat_lt.2 (by
        have : a.toNat ≠ 0 := fun e => ha (UInt8.toNat_inj.1 e)
        show 0 < a.toNat
        omega)
      rw [cmp_cons, if_neg (fun h => UInt8.lt_irrefl _ (UInt8.lt_trans h h0)), if_pos h0]; simp [Lib.compareBytes]
  | a :: s, b :: t, r, q => by
    rw [esc_cons, esc_cons]
    have ih := cmp_esc s t r q
    by_cases hab : a = b
    · subst hab
      rw [cmp_same]
      by_cases ha : a = 0
      · subst ha
        rw [if_pos rfl]
        show Lib.compareBytes (0 :: 255 :: (esc s ++ 0 :: 1 :: r)) (0 :: 255 :: (esc t ++ 0 :: 1 :: q)) = _
        rw [cmp_same, cmp_same]; exact ih
      · rw [if_neg ha]
        show Lib.compareBytes (a :: (esc s ++ 0 :: 1 :: r)) (a :: (esc t ++ 0 :: 1 :: q)) = _
        rw [cmp_same]; exact ih
    · have hd : ∃ x y, Lib.compareBytes ((if a = 0 then [0, 255] else [a]) ++ esc s ++ 0 :: 1 :: r) ((if b = 0 then [0, 255] else [b]) ++ esc t ++ 0 :: 1 :: q) = Lib.compareBytes (a :: x) (b :: y) := by
        by_cases ha : a = 0
        · subst ha
          rw [if_pos rfl, if_neg (fun e => hab e.symm)]
          exact ⟨255 :: (esc s ++ 0 :: 1 :: r), esc t ++ 0 :: 1 :: q, by simp⟩
        · rw [if_neg ha]
          by_cases hb : b = 0
          · subst hb
            rw [if_pos rfl]
            exact ⟨esc s ++ 0 :: 1 :: r, 255 :: (esc t ++ 0 :: 1 :: q), by simp⟩
          · rw [if_neg hb]
            exact ⟨esc s ++ 0 :: 1 :: r, esc t ++ 0 :: 1 :: q, by simp⟩
      obtain ⟨x, y, e⟩ := hd
      rw [e, cmp_diff a b x y hab, cmp_diff a b s t hab]
      have hne : a.toNat ≠ b.toNat := fun e => hab (UInt8.toNat_inj.1 e)
      have : Lib.compareInt a.toNat b.toNat ≠ 0 := by unfold Lib.compareInt; split <;> (try split) <;> omega
      rw [if_pos this]
theorem right_cases {k n : Int} {s : ByteArray} (h : rightB k n s = true) : (k = 1 ∧ s = ⟨#[]⟩) ∨ (k = 2 ∧ n = 0 ∧ s.size ≤ 200) ∨ (k = 3 ∧ (n = 0 ∨ n = 1) ∧ s = ⟨#[]⟩) := by
  unfold rightB at h
  simp only [Bool.or_eq_true, Bool.and_eq_true, decide_eq_true_eq, beq_iff_eq] at h
  rcases h with (h | h) | h
  · exact .inl h
  · exact .inr (.inl ⟨h.1.1, h.1.2, h.2⟩)
  · exact .inr (.inr ⟨h.1.1, h.1.2, h.2⟩)
theorem int_self (a : Int) : Lib.compareInt a a = 0 := by unfold Lib.compareInt; rw [if_neg (by omega), if_neg (by omega)]
theorem int_ne {a b : Int} (h : a ≠ b) : Lib.compareInt a b ≠ 0 := by unfold Lib.compareInt; split <;> (try split) <;> omega
theorem keyOf_1 (n : Int) (s : ByteArray) : keyOf ⟨1, n, s⟩ = 1 :: be8 (n + 9223372036854775808).toNat := rfl
theorem keyOf_2 (n : Int) (s : ByteArray) (r : List UInt8) : keyOf ⟨2, n, s⟩ ++ r = 2 :: (esc s.data.toList ++ 0 :: 1 :: r) := by
  show [2] ++ esc s.data.toList ++ [0, 1] ++ r = _
  simp
theorem keyOf_3 (n : Int) (s : ByteArray) : keyOf ⟨3, n, s⟩ = [3, UInt8.ofNat n.toNat] := rfl
theorem cmp_kind (x y : Val) (h : x.k ≠ y.k) : valCmp x y = Lib.compareInt x.k y.k := by
  unfold valCmp or3
  rw [if_pos (int_ne h)]
theorem cmp_key (x y : Val) (hx : FitV x) (hy : FitV y) (rx : rightB x.k x.n x.s = true) (ry : rightB y.k y.n y.s = true) (r q : List UInt8) :
    Lib.compareBytes (keyOf x ++ r) (keyOf y ++ q) = if valCmp x y ≠ 0 then valCmp x y else Lib.compareBytes r q := by
  obtain ⟨k, n, s⟩ := x
  obtain ⟨k', n', s'⟩ := y
  have hn := hx.n
  have hn' := hy.n
  simp only at rx ry hn hn'
  rcases right_cases rx with ⟨rfl, rfl⟩ | ⟨rfl, rfl, _⟩ | ⟨rfl, h01, rfl⟩ <;> rcases right_cases ry with ⟨rfl, rfl⟩ | ⟨rfl, rfl, _⟩ | ⟨rfl, h01', rfl⟩
  · rw [keyOf_1, keyOf_1, List.cons_append, List.cons_append, cmp_same, cmp_be _ _ _ _ (by rw [be8_len, be8_len]), be_be8 _ (by omega), be_be8 _ (by omega)]
    have e : valCmp ⟨1, n, ⟨#[]⟩⟩ ⟨1, n', ⟨#[]⟩⟩ = Lib.compareInt n n' := by
      unfold valCmp or3
      simp only [int_self]
      by_cases h : n = n'
      · subst h; simp [int_self, Lib.compareBytes]
      · simp [int_ne h]
    rw [e]
    by_cases h : n = n'
    · subst h; simp [int_self]
    · rw [if_pos (by omega), if_pos (int_ne h)]
      unfold Lib.compareInt
      by_cases hlt : n < n'
      · rw [if_pos (by omega), if_pos hlt]
      · rw [if_neg (by omega), if_pos (by omega), if_neg hlt, if_pos (by omega)]
  · rw [cmp_kind _ _ (by simp), keyOf_1, keyOf_2, List.cons_append, cmp_diff _ _ _ _ (by decide)]; rfl
  · rw [cmp_kind _ _ (by simp), keyOf_1, keyOf_3, List.cons_append, List.cons_append, cmp_diff _ _ _ _ (by decide)]; rfl
  · rw [cmp_kind _ _ (by simp), keyOf_1, keyOf_2, List.cons_append, cmp_diff _ _ _ _ (by decide)]; rfl
  · rw [keyOf_2, keyOf_2, cmp_same, cmp_esc]
    have e : valCmp ⟨2, 0, s⟩ ⟨2, 0, s'⟩ = Lib.compareBytes s.data.toList s'.data.toList := by
      unfold valCmp or3
      simp [int_self]
    rw [e]
  · rw [cmp_kind _ _ (by simp), keyOf_2, keyOf_3, List.cons_append, cmp_diff _ _ _ _ (by decide)]; rfl
  · rw [cmp_kind _ _ (by simp), keyOf_1, keyOf_3]
    show Lib.compareBytes (3 :: (UInt8.ofNat n.toNat :: r)) (1 :: (be8 (n' + 9223372036854775808).toNat ++ q)) = _
    rw [cmp_diff _ _ _ _ (by decide)]; rfl
  · rw [cmp_kind _ _ (by simp), keyOf_2, keyOf_3, List.cons_append, cmp_diff _ _ _ _ (by decide)]; rfl
  · rw [keyOf_3, keyOf_3]
    rcases h01 with rfl | rfl <;> rcases h01' with rfl | rfl
    · show Lib.compareBytes (3 :: 0 :: r) (3 :: 0 :: q) = _
      rw [cmp_same, cmp_same]; rfl
    · show Lib.compareBytes (3 :: 0 :: r) (3 :: 1 :: q) = _
      rw [cmp_same, cmp_diff _ _ _ _ (by decide)]; rfl
    · show Lib.compareBytes (3 :: 1 :: r) (3 :: 0 :: q) = _
      rw [cmp_same, cmp_diff _ _ _ _ (by decide)]; rfl
    · show Lib.compareBytes (3 :: 1 :: r) (3 :: 1 :: q) = _
      rw [cmp_same, cmp_same]; rfl
theorem key_cons (x : Val) : ∃ c l, keyOf x = c :: l := by
  unfold keyOf
  split
  · exact ⟨_, _, rfl⟩
  · split
    · exact ⟨_, _, rfl⟩
    · exact ⟨_, _, rfl⟩
theorem cmp_keys : ∀ (xs ys : List Val), (∀ x ∈ xs, FitV x ∧ rightB x.k x.n x.s = true) → (∀ x ∈ ys, FitV x ∧ rightB x.k x.n x.s = true) → Lib.compareBytes (keysOf xs) (keysOf ys) = valRows xs ys
  | [], [], _, _ => rfl
  | [], y :: ys, _, _ => by
    obtain ⟨c, l, e⟩ := key_cons y
    show Lib.compareBytes [] (keyOf y ++ keysOf ys) = -1
    rw [e]; rfl
  | x :: xs, [], _, _ => by
    obtain ⟨c, l, e⟩ := key_cons x
    show Lib.compareBytes (keyOf x ++ keysOf xs) [] = 1
    rw [e]; rfl
  | x :: xs, y :: ys, hx, hy => by
    have h1 := hx x (by simp)
    have h2 := hy y (by simp)
    show Lib.compareBytes (keyOf x ++ keysOf xs) (keyOf y ++ keysOf ys) = valRows (x :: xs) (y :: ys)
    rw [cmp_key x y h1.1 h2.1 h1.2 h2.2, valRows, cmp_keys xs ys (fun z hz => hx z (by simp [hz])) (fun z hz => hy z (by simp [hz]))]
theorem keys_append (xs ys : List Val) : keysOf (xs ++ ys) = keysOf xs ++ keysOf ys := by simp [keysOf]
theorem keys_prefix : ∀ (xs ys : List Val), (∀ x ∈ xs, FitV x ∧ rightB x.k x.n x.s = true) → (∀ x ∈ ys, FitV x ∧ rightB x.k x.n x.s = true) → ∀ r, keysOf ys = keysOf xs ++ r → ∃ zs, ys = xs ++ zs
  | [], ys, _, _, _, _ => ⟨ys, rfl⟩
  | x :: xs, [], _, _, r, h => by
    obtain ⟨c, l, e⟩ := key_cons x
    have h2 : ([] : List UInt8) = keyOf x ++ keysOf xs ++ r := h
    rw [e] at h2
    cases h2
  | x :: xs, y :: ys, hx, hy, r, h => by
    have h1 := hx x (by simp)
    have h2 := hy y (by simp)
    have h3 : keyOf y ++ keysOf ys = keyOf x ++ (keysOf xs ++ r) := by rw [← List.append_assoc]; exact h
    have f1 := first_key y h2.1 h2.2 (keysOf ys)
    rw [h3, first_key x h1.1 h1.2 (keysOf xs ++ r)] at f1
    simp only [Option.some.injEq, Prod.mk.injEq] at f1
    obtain ⟨rfl, _⟩ := f1
    obtain ⟨zs, hz⟩ := keys_prefix xs ys (fun z hz => hx z (by simp [hz])) (fun z hz => hy z (by simp [hz])) r (List.append_cancel_left h3)
    exact ⟨zs, by rw [hz]; rfl⟩
theorem prefix_iff (xs ys : List Val) (hx : ∀ x ∈ xs, FitV x ∧ rightB x.k x.n x.s = true) (hy : ∀ x ∈ ys, FitV x ∧ rightB x.k x.n x.s = true) :
    ((keysOf xs).length ≤ (keysOf ys).length ∧ (keysOf ys).take (keysOf xs).length = keysOf xs) ↔ (xs.length ≤ ys.length ∧ xs = ys.take xs.length) := by
  constructor
  · rintro ⟨h1, h2⟩
    obtain ⟨zs, rfl⟩ := keys_prefix xs ys hx hy ((keysOf ys).drop (keysOf xs).length) (by
      have := List.take_append_drop (keysOf xs).length (keysOf ys)
      rw [h2] at this
      exact this.symm)
    simp
  · rintro ⟨h1, h2⟩
    have e : keysOf ys = keysOf xs ++ keysOf (ys.drop xs.length) := by
      rw [← keys_append]
      congr 1
      conv => rhs; arg 1; rw [h2]
      exact (List.take_append_drop _ _).symm
    rw [e]
    simp
end Go.Proofs.Ytddejkmfffeikaa

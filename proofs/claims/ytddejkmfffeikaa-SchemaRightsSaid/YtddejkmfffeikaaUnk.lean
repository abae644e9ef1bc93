/- The first value of a key: plain mathematics. -/
import Derived.Test.YtddejkmfffeikaaKey
namespace Go.Proofs.Ytddejkmfffeikaa
open Go.ChangeShapes Go.WideShapes Go.ChangeAt Go.RowKit
/-- The text up to its end, and how many bytes that took; none: it has no end. -/
def unesc : List UInt8 → Option (List UInt8 × Nat)
  | [] => none
  | [c] => none
  | c :: d :: l => if c ≠ 0 then (unesc (d :: l)).map fun r => (c :: r.1, r.2 + 1) else if d = 255 then (unesc l).map fun r => (0 :: r.1, r.2 + 2) else if d = 1 then some ([], 2) else none
/-- Eight bytes as a number. -/
def be (l : List UInt8) : Nat := l.foldl (fun a c => 256 * a + c.toNat) 0
/-- The first value of a key, and how many bytes it has there. -/
def first (l : List UInt8) : Option (Val × Nat) :=
  if l.head? = some 1 ∧ 9 ≤ l.length then some (⟨1, (be ((l.drop 1).take 8) : Int) - 9223372036854775808, ⟨#[]⟩⟩, 9)
  else if l.head? = some 2 then (unesc (l.drop 1)).bind fun r => if r.1.length ≤ 200 then some (⟨2, 0, ⟨r.1.toArray⟩⟩, r.2 + 1) else none
  else if l.head? = some 3 ∧ 2 ≤ l.length ∧ (l.getD 1 0).toNat ≤ 1 then some (⟨3, (l.getD 1 0).toNat, ⟨#[]⟩⟩, 2)
  else none
theorem unesc_esc (t r : List UInt8) : unesc (esc t ++ 0 :: 1 :: r) = some (t, (esc t).length + 2) := by
  induction t with
  | nil => simp [esc, unesc]
  | cons c t ih =>
    have e : esc (c :: t) = (if c = 0 then [0, 255] else [c]) ++ esc t := rfl
    rw [e]
    by_cases h : c = 0
    · subst h
      rw [if_pos rfl]
      show unesc (0 :: 255 :: (esc t ++ 0 :: 1 :: r)) = _
      unfold unesc
      rw [ih]
      simp
    · rw [if_neg h]
      have hne : ∃ d l, esc t ++ 0 :: 1 :: r = d :: l := by
        cases hh : esc t with
        | nil => exact ⟨0, 1 :: r, rfl⟩
        | cons d l => exact ⟨d, l ++ 0 :: 1 :: r, rfl⟩
      obtain ⟨d, l, hdl⟩ := hne
      show unesc (c :: (esc t ++ 0 :: 1 :: r)) = _
      rw [hdl]
      unfold unesc
      rw [if_pos h, ← hdl, ih]
      simp
theorem unesc_back : ∀ (l t : List UInt8) (n : Nat), unesc l = some (t, n) → n = (esc t).length + 2 ∧ ∃ r, l = esc t ++ 0 :: 1 :: r
  | [], t, n, h => by simp [unesc] at h
  | [c], t, n, h => by simp [unesc] at h
  | c :: d :: l, t, n, h => by
    unfold unesc at h
    by_cases hc : c = 0
    · subst hc
      simp only [ne_eq, not_true_eq_false, if_false] at h
      by_cases hd : d = 255
      · subst hd
        rw [if_pos rfl] at h
        obtain ⟨⟨t', n'⟩, h1, h2⟩ := Option.map_eq_some_iff.1 h
        simp only [Prod.mk.injEq] at h2
        obtain ⟨rfl, rfl⟩ := h2
        obtain ⟨e, r, hr⟩ := unesc_back l t' n' h1
        refine ⟨?_, r, ?_⟩
        · show _ = ([0, 255] ++ esc t').length + 2
          rw [e]; simp
        · show _ = ([0, 255] ++ esc t') ++ _
          rw [hr]; simp
      · rw [if_neg hd] at h
        by_cases hd1 : d = 1
        · subst hd1
          rw [if_pos rfl] at h
          simp only [Option.some.injEq, Prod.mk.injEq] at h
          obtain ⟨rfl, rfl⟩ := h
          exact ⟨rfl, l, rfl⟩
        · rw [if_neg hd1] at h; cases h
    · rw [if_pos hc] at h
      obtain ⟨⟨t', n'⟩, h1, h2⟩ := Option.map_eq_some_iff.1 h
      simp only [Prod.mk.injEq] at h2
      obtain ⟨rfl, rfl⟩ := h2
      obtain ⟨e, r, hr⟩ := unesc_back (d :: l) t' n' h1
      have ee : esc (c :: t') = [c] ++ esc t' := by show (if c = 0 then [0, 255] else [c]) ++ esc t' = _; rw [if_neg hc]
      refine ⟨?_, r, ?_⟩
      · rw [ee, e]; simp
      · rw [ee, hr]; simp
theorem be_lt (l : List UInt8) : be l < 256 ^ l.length := by
  have aux : ∀ (l : List UInt8) (a : Nat), l.foldl (fun a c => 256 * a + c.toNat) a < 256 ^ l.length * (a + 1) := by
    intro l
    induction l with
    | nil => intro a; simp
    | cons c r ih =>
      intro a
      have h := ih (256 * a + c.toNat)
      have hc := c.toNat_lt
      simp only [List.foldl_cons, List.length_cons, Nat.pow_succ]
      have : 256 ^ r.length * (256 * a + c.toNat + 1) ≤ 256 ^ r.length * (256 * (a + 1)) := Nat.mul_le_mul_left _ (by omega)
      rw [Nat.mul_assoc]
      omega
  have := aux l 0
  simpa [be] using this
theorem be_be8 (z : Nat) (h : z < 2 ^ 64) : be (be8 z) = z := by
  simp only [be, be8, List.range, List.range.loop, List.map_cons, List.map_nil, List.foldl_cons, List.foldl_nil, UInt8.toNat_ofNat']
  omega
theorem be8_be (l : List UInt8) (h : l.length = 8) : be8 (be l) = l := by
  match l, h with
  | [a, b, c, d, e, f, g, i], _ =>
    have ha := a.toNat_lt; have hb := b.toNat_lt; have hc := c.toNat_lt; have hd := d.toNat_lt
    have he := e.toNat_lt; have hf := f.toNat_lt; have hg := g.toNat_lt; have hi := i.toNat_lt
    simp only [be, be8, List.range, List.range.loop, List.map_cons, List.map_nil, List.foldl_cons, List.foldl_nil]
    simp only [List.cons.injEq, and_true, ← UInt8.toNat_inj, UInt8.toNat_ofNat']
    omega
theorem be8_len (z : Nat) : (be8 z).length = 8 := by simp [be8]
theorem first_key (x : Val) (hf : FitV x) (hr : rightB x.k x.n x.s = true) (r : List UInt8) : first (keyOf x ++ r) = some (x, (keyOf x).length) := by
  obtain ⟨k, n, s⟩ := x
  have hn := hf.n
  simp only at hr hn
  by_cases h1 : k = 1
  · subst h1
    rw [rightB_1] at hr
    have hs : s = ⟨#[]⟩ := of_decide_eq_true hr
    subst hs
    have e : keyOf ⟨1, n, ⟨#[]⟩⟩ = 1 :: be8 (n + 9223372036854775808).toNat := rfl
    rw [e]
    have hl := be8_len (n + 9223372036854775808).toNat
    unfold first
    rw [if_pos ⟨rfl, by simp [hl]⟩]
    have ht : ((1 :: be8 (n + 9223372036854775808).toNat ++ r).drop 1).take 8 = be8 (n + 9223372036854775808).toNat := by
      show (be8 (n + 9223372036854775808).toNat ++ r).take 8 = _
      rw [List.take_left' hl]
    rw [ht, be_be8 _ (by omega)]
    simp only [Option.some.injEq, Prod.mk.injEq, Val.mk.injEq, true_and, and_true]
    exact ⟨by omega, by simp [hl]⟩
  by_cases h2 : k = 2
  · subst h2
    rw [rightB_2] at hr
    simp at hr
    obtain ⟨rfl, hz⟩ := hr
    have e : keyOf ⟨2, 0, s⟩ ++ r = 2 :: (esc s.data.toList ++ 0 :: 1 :: r) := by
      show [2] ++ esc s.data.toList ++ [0, 1] ++ r = _
      simp
    have el : (keyOf ⟨2, 0, s⟩).length = (esc s.data.toList).length + 3 := by
      show ([2] ++ esc s.data.toList ++ [0, 1]).length = _
      simp
    rw [e, el]
    unfold first
    rw [if_neg (by simp), if_pos (by simp)]
    show (unesc (esc s.data.toList ++ 0 :: 1 :: r)).bind _ = _
    rw [unesc_esc]
    simp only [Option.bind_some]
    rw [if_pos (by simpa using hz)]
  by_cases h3 : k = 3
  · subst h3
    rw [rightB_3] at hr
    simp at hr
    obtain ⟨hn01, rfl⟩ := hr
    rcases hn01 with rfl | rfl
    · show first (3 :: 0 :: r) = _
      unfold first
      rw [if_neg (by simp), if_neg (by simp), if_pos ⟨by simp, by simp, by simp⟩]
      rfl
    · show first (3 :: 1 :: r) = _
      unfold first
      rw [if_neg (by simp), if_neg (by simp), if_pos ⟨by simp, by simp, by simp⟩]
      rfl
  · rw [rightB_no k n s h1 h2 h3] at hr
    cases hr
theorem first_back (l : List UInt8) (x : Val) (n : Nat) (h : first l = some (x, n)) : rightB x.k x.n x.s = true ∧ FitV x ∧ n = (keyOf x).length ∧ (∃ r, l = keyOf x ++ r) := by
  unfold first at h
  split at h
  · rename_i hc
    obtain ⟨h1, h9⟩ := hc
    simp only [Option.some.injEq, Prod.mk.injEq] at h
    obtain ⟨rfl, rfl⟩ := h
    have hl : ((l.drop 1).take 8).length = 8 := by simp; omega
    have hlt := be_lt ((l.drop 1).take 8)
    rw [hl] at hlt
    have hlt2 : be ((l.drop 1).take 8) < 18446744073709551616 := by simpa using hlt
    have e : keyOf ⟨1, (be ((l.drop 1).take 8) : Int) - 9223372036854775808, ⟨#[]⟩⟩ = 1 :: (l.drop 1).take 8 := by
      show [1] ++ be8 _ = _
      rw [show ((be ((l.drop 1).take 8) : Int) - 9223372036854775808 + 9223372036854775808).toNat = be ((l.drop 1).take 8) from by omega, be8_be _ hl]
      rfl
    refine ⟨by simp [rightB_1], ⟨by simp, by simp only; omega, by simp [ByteArray.size]⟩, by rw [e]; simp; omega, (l.drop 1).drop 8, ?_⟩
    rw [e]
    cases l with
    | nil => simp at h1
    | cons c t =>
      simp at h1
      subst h1
      simp
  · split at h
    · rename_i hc
      obtain ⟨⟨t, m⟩, h1, h2⟩ := Option.bind_eq_some_iff.1 h
      simp only at h2
      split at h2
      · rename_i hz
        simp only [Option.some.injEq, Prod.mk.injEq] at h2
        obtain ⟨rfl, rfl⟩ := h2
        obtain ⟨e1, r, hr⟩ := unesc_back _ _ _ h1
        have e : keyOf ⟨2, 0, ⟨t.toArray⟩⟩ = [2] ++ esc t ++ [0, 1] := rfl
        have hsz : (⟨t.toArray⟩ : ByteArray).size = t.length := by show t.toArray.size = _; rw [List.size_toArray]
        refine ⟨by rw [rightB_2, hsz]; simp [hz], ⟨by simp, by simp, by simp only [hsz]; omega⟩, by rw [e, e1]; simp, r, ?_⟩
        rw [e]
        cases l with
        | nil => simp at hc
        | cons c t' =>
          simp at hc
          subst hc
          simp at hr
          rw [hr]; simp
      · cases h2
    · split at h
      · rename_i hc
        obtain ⟨h1, h2, h3⟩ := hc
        simp only [Option.some.injEq, Prod.mk.injEq] at h
        obtain ⟨rfl, rfl⟩ := h
        match l, h1, h2, h3 with
        | c :: d :: r, h1, h2, h3 =>
          simp at h1
          subst h1
          simp only [List.getD_cons_succ, List.getD_cons_zero] at h3 ⊢
          have hd : d.toNat = 0 ∨ d.toNat = 1 := by omega
          refine ⟨by rw [rightB_3]; rcases hd with h | h <;> rw [h] <;> simp, ⟨by simp, by simp only; omega, by simp [ByteArray.size]⟩, rfl, r, ?_⟩
          show _ = [3, UInt8.ofNat (d.toNat : Int).toNat] ++ r
          simp
      · cases h
/-- All values of a key; none: there are none such. -/
def unkeyF : Nat → List UInt8 → Option (List Val)
  | 0, _ => none
  | f + 1, l => if l = [] then some [] else (first l).bind fun r => (unkeyF f (l.drop r.2)).map fun vs => r.1 :: vs
def unkey (l : List UInt8) : Option (List Val) := unkeyF (l.length + 1) l
theorem first_pos (l : List UInt8) (x : Val) (n : Nat) (h : first l = some (x, n)) : 0 < n ∧ n ≤ l.length := by
  obtain ⟨_, _, h1, r, h2⟩ := first_back l x n h
  have h3 : 0 < (keyOf x).length := by
    unfold keyOf
    split
    · simp
    · split <;> simp
  rw [h2, List.length_append]; omega
theorem unkeyF_fuel : ∀ (f g : Nat) (l : List UInt8), l.length < f → l.length < g → unkeyF f l = unkeyF g l
  | 0, _, _, h, _ => absurd h (Nat.not_lt_zero _)
  | _ + 1, 0, _, _, h => absurd h (Nat.not_lt_zero _)
  | f + 1, g + 1, l, h1, h2 => by
    unfold unkeyF
    split
    · rfl
    · cases hf : first l with
      | none => rfl
      | some r =>
        obtain ⟨x, n⟩ := r
        have hp := first_pos l x n hf
        simp only [Option.bind_some]
        rw [unkeyF_fuel f g (l.drop n) (by rw [List.length_drop]; omega) (by rw [List.length_drop]; omega)]
theorem unkey_nil : unkey [] = some [] := rfl
theorem unkey_step (l : List UInt8) (h : l ≠ []) : unkey l = (first l).bind fun r => (unkey (l.drop r.2)).map fun vs => r.1 :: vs := by
  unfold unkey
  rw [unkeyF, if_neg h]
  cases hf : first l with
  | none => rfl
  | some r =>
    obtain ⟨x, n⟩ := r
    have hp := first_pos l x n hf
    simp only [Option.bind_some]
    rw [unkeyF_fuel l.length ((l.drop n).length + 1) (l.drop n) (by rw [List.length_drop]; omega) (by omega)]
theorem unkey_keys : ∀ (vs : List Val), (∀ x ∈ vs, FitV x) → (∀ x ∈ vs, rightB x.k x.n x.s = true) → unkey (keysOf vs) = some vs
  | [], _, _ => rfl
  | x :: r, hf, hr => by
    have e : keysOf (x :: r) = keyOf x ++ keysOf r := rfl
    have hfirst := first_key x (hf x (by simp)) (hr x (by simp)) (keysOf r)
    have hpos := first_pos _ _ _ hfirst
    rw [e, unkey_step _ (fun h => by have h2 := hpos.2; rw [h] at h2; simp only [List.length_nil] at h2; omega), hfirst]
    simp only [Option.bind_some, List.drop_left]
    rw [unkey_keys r (fun y hy => hf y (by simp [hy])) (fun y hy => hr y (by simp [hy]))]
    rfl
end Go.Proofs.Ytddejkmfffeikaa

/- A register of 64 bits, bit by bit: plain mathematics. -/
namespace Go.Proofs.YtmmgicomidpmhaaDoor.Crc
def P : Nat := 0xc96c5795d7870f42
/-- One bit's step. -/
def st (r : Nat) : Nat := (r >>> 1) ^^^ (if r.testBit 0 then P else 0)
def stn : Nat → Nat → Nat
  | 0, r => r
  | n + 1, r => stn n (st r)
theorem st_xor (a b : Nat) : st (a ^^^ b) = st a ^^^ st b := by
  unfold st
  rw [Nat.shiftRight_xor_distrib, Nat.testBit_xor]
  cases ha : a.testBit 0 <;> cases hb : b.testBit 0 <;> simp
  · rw [Nat.xor_assoc]
  · rw [Nat.xor_assoc, Nat.xor_assoc, Nat.xor_comm P]
  · rw [Nat.xor_assoc, ← Nat.xor_assoc P, Nat.xor_comm P, Nat.xor_assoc, Nat.xor_self, Nat.xor_zero]
theorem stn_xor (n : Nat) : ∀ a b, stn n (a ^^^ b) = stn n a ^^^ stn n b := by
  induction n with
  | zero => intro a b; rfl
  | succ n ih => intro a b; simp only [stn]; rw [st_xor, ih]
theorem stn_add (n m : Nat) : ∀ a, stn (n + m) a = stn m (stn n a) := by
  induction n with
  | zero => intro a; simp [stn]
  | succ n ih => intro a; rw [Nat.succ_add]; simp only [stn]; rw [ih]
theorem P_lt : P < 2 ^ 64 := by decide
theorem st_lt {r : Nat} (h : r < 2 ^ 64) : st r < 2 ^ 64 := by
  unfold st
  refine Nat.xor_lt_two_pow ?_ ?_
  · rw [Nat.shiftRight_eq_div_pow]; exact Nat.lt_of_le_of_lt (Nat.div_le_self _ _) h
  · split
    · exact P_lt
    · decide
theorem stn_lt (n : Nat) : ∀ {r : Nat}, r < 2 ^ 64 → stn n r < 2 ^ 64 := by
  induction n with
  | zero => intro r h; exact h
  | succ n ih => intro r h; exact ih (st_lt h)
theorem st_zero {r : Nat} (hr : r < 2 ^ 64) (h : st r = 0) : r = 0 := by
  unfold st at h
  have h1 : r >>> 1 < 2 ^ 63 := by rw [Nat.shiftRight_eq_div_pow]; omega
  by_cases hb : r.testBit 0 = true
  · rw [if_pos hb] at h
    have h2 : (r >>> 1 ^^^ P).testBit 63 = true := by
      rw [Nat.testBit_xor, Nat.testBit_lt_two_pow h1]; decide
    rw [h] at h2; simp at h2
  · rw [if_neg hb, Nat.xor_zero, Nat.shiftRight_eq_div_pow] at h
    have h3 : r % 2 = 0 := by
      have : r.testBit 0 = false := by simpa using hb
      rw [Nat.testBit_zero] at this
      simp at this; omega
    omega
theorem stn_zero (n : Nat) : ∀ {r : Nat}, r < 2 ^ 64 → stn n r = 0 → r = 0 := by
  induction n with
  | zero => intro r _ h; exact h
  | succ n ih => intro r hr h; exact st_zero hr (ih (st_lt hr) h)
theorem xor_eq_zero {a b : Nat} (h : a ^^^ b = 0) : a = b := by
  have : a ^^^ b ^^^ b = b := by rw [h, Nat.zero_xor]
  rwa [Nat.xor_assoc, Nat.xor_self, Nat.xor_zero] at this
theorem stn_inj (n : Nat) {a b : Nat} (ha : a < 2 ^ 64) (hb : b < 2 ^ 64) (h : stn n a = stn n b) : a = b := by
  have : stn n (a ^^^ b) = 0 := by rw [stn_xor, h, Nat.xor_self]
  exact xor_eq_zero (stn_zero n (Nat.xor_lt_two_pow ha hb) this)
theorem stn_of_zero (n : Nat) : stn n 0 = 0 := by
  induction n with
  | zero => rfl
  | succ n ih => simp only [stn]; rw [show st 0 = 0 from rfl, ih]
/-- Bits that have not come down yet only move. -/
theorem st_two (x : Nat) : st (x <<< 1) = x := by
  unfold st
  have : (x <<< 1).testBit 0 = false := by simp
  rw [this]; simp [Nat.shiftRight_eq_div_pow, Nat.shiftLeft_eq]
theorem stn_shl (n : Nat) : ∀ x, stn n (x <<< n) = x := by
  induction n with
  | zero => intro x; rfl
  | succ n ih => intro x; simp only [stn]; rw [show x <<< (n + 1) = (x <<< n) <<< 1 from by rw [← Nat.shiftLeft_add], st_two, ih]
def Q : List Nat := [0x0000000000000000, 0x7d9ba13851336649, 0xfb374270a266cc92, 0x86ace348f355aadb,
  0x64b62bcaebc387a1, 0x192d8af2baf0e1e8, 0x9f8169ba49a54b33, 0xe21ac88218962d7a,
  0xc96c5795d7870f42, 0xb4f7f6ad86b4690b, 0x325b15e575e1c3d0, 0x4fc0b4dd24d2a599,
  0xadda7c5f3c4488e3, 0xd041dd676d77eeaa, 0x56ed3e2f9e224471, 0x2b769f17cf112238]
theorem Q_eq : ∀ k, k < 16 → stn 4 k = Q.getD k 0 := by decide
theorem split4 (r : Nat) : r = ((r / 16) <<< 4) ^^^ (r % 16) := by
  have h : r % 16 < 2 ^ 4 := Nat.mod_lt _ (by decide)
  apply Nat.eq_of_testBit_eq
  intro i
  rw [Nat.testBit_xor, Nat.testBit_shiftLeft]
  by_cases hi : 4 ≤ i
  · have h2 : (r % 16).testBit i = false := Nat.testBit_lt_two_pow (Nat.lt_of_lt_of_le h (Nat.pow_le_pow_right (by decide) hi))
    rw [h2, show (16 : Nat) = 2 ^ 4 from rfl, Nat.testBit_div_two_pow]
    simp [hi]
  · rw [show (16 : Nat) = 2 ^ 4 from rfl, Nat.testBit_mod_two_pow]
    simp [hi, Nat.not_le.1 hi]
theorem four (r : Nat) : stn 4 r = (r / 16) ^^^ Q.getD (r % 16) 0 := by
  conv => lhs; rw [split4 r]
  rw [stn_xor, stn_shl, Q_eq _ (Nat.mod_lt _ (by decide))]
/-- One byte. -/
def byte (r c : Nat) : Nat := stn 8 (r ^^^ c)
def crc (r : Nat) (l : List UInt8) : Nat := l.foldl (fun r c => byte r c.toNat) r
theorem byte_eq (r c : Nat) : byte r c = ((((r ^^^ c) / 16) ^^^ Q.getD ((r ^^^ c) % 16) 0) / 16) ^^^ Q.getD ((((r ^^^ c) / 16) ^^^ Q.getD ((r ^^^ c) % 16) 0) % 16) 0 := by
  unfold byte
  rw [show 8 = 4 + 4 from rfl, stn_add, four (stn 4 _), four]
theorem byte_lt {r : Nat} {c : UInt8} (h : r < 2 ^ 64) : byte r c.toNat < 2 ^ 64 :=
  stn_lt 8 (Nat.xor_lt_two_pow h (Nat.lt_trans c.toNat_lt (by decide)))
theorem crc_lt (l : List UInt8) : ∀ {r : Nat}, r < 2 ^ 64 → crc r l < 2 ^ 64 := by
  induction l with
  | nil => intro r h; exact h
  | cons c l ih => intro r h; exact ih (byte_lt h)
theorem crc_append (r : Nat) (a b : List UInt8) : crc r (a ++ b) = crc (crc r a) b := by unfold crc; rw [List.foldl_append]
theorem crc_snoc (r : Nat) (a : List UInt8) (c : UInt8) : crc r (a ++ [c]) = byte (crc r a) c.toNat := by rw [crc_append]; rfl
/-- All bits turned. -/
def inv (r : Nat) : Nat := r ^^^ 18446744073709551615
theorem inv_inv (r : Nat) : inv (inv r) = r := by unfold inv; rw [Nat.xor_assoc, Nat.xor_self, Nat.xor_zero]
theorem inv_lt {r : Nat} (h : r < 2 ^ 64) : inv r < 2 ^ 64 := Nat.xor_lt_two_pow h (by decide)
theorem inv_sub {r : Nat} (h : r < 2 ^ 64) : inv r = 18446744073709551615 - r := by
  unfold inv
  apply Nat.eq_of_testBit_eq
  intro i
  rw [Nat.testBit_xor, show 18446744073709551615 - r = 2 ^ 64 - (r + 1) from by omega, Nat.testBit_two_pow_sub_succ h,
    show 18446744073709551615 = 2 ^ 64 - 1 from rfl, Nat.testBit_two_pow_sub_one]
  by_cases hi : i < 64
  · simp [hi]
  · simp [hi]; exact Nat.testBit_lt_two_pow (Nat.lt_of_lt_of_le h (Nat.pow_le_pow_right (by decide) (Nat.not_lt.1 hi)))
/-- The sum of a text. -/
def sum (l : List UInt8) : Nat := inv (crc 18446744073709551615 l)
theorem sum_lt (l : List UInt8) : sum l < 2 ^ 64 := inv_lt (crc_lt l (by decide))
/-- The document's step for a bit. -/
theorem bit_step (r b : Nat) (hb : b < 2) : st (r ^^^ b) = if r % 2 = b then r / 2 else (r / 2) ^^^ P := by
  have e : (r ^^^ b) >>> 1 = r / 2 := by
    rw [Nat.shiftRight_xor_distrib, Nat.shiftRight_eq_div_pow, Nat.shiftRight_eq_div_pow]
    rw [show b / 2 ^ 1 = 0 from by omega, Nat.xor_zero]
  have t : (r ^^^ b).testBit 0 = decide (r % 2 ≠ b) := by
    rw [Nat.testBit_xor, Nat.testBit_zero, Nat.testBit_zero]
    have h2 : r % 2 = 0 ∨ r % 2 = 1 := by omega
    have h3 : b = 0 ∨ b = 1 := by omega
    rcases h2 with h2 | h2 <;> rcases h3 with h3 | h3 <;> subst h3 <;> simp [h2]
  unfold st
  rw [e, t]
  by_cases h : r % 2 = b <;> simp [h]
/-- Bytes as one number, the lowest first. -/
def le : List UInt8 → Nat
  | [] => 0
  | c :: l => c.toNat ^^^ (le l <<< 8)
theorem crc_le (l : List UInt8) : ∀ r, crc r l = stn (8 * l.length) (r ^^^ le l) := by
  induction l with
  | nil => intro r; simp [crc, le, stn]
  | cons c l ih =>
    intro r
    have e : crc r (c :: l) = crc (byte r c.toNat) l := rfl
    rw [e, ih, List.length_cons, show 8 * (l.length + 1) = 8 + 8 * l.length from by omega, stn_add]
    congr 1
    show stn 8 (r ^^^ c.toNat) ^^^ le l = stn 8 (r ^^^ (c.toNat ^^^ (le l <<< 8)))
    rw [← Nat.xor_assoc, stn_xor 8 (r ^^^ c.toNat), stn_shl]
theorem le_low (c : UInt8) (x : Nat) : (c.toNat ^^^ (x <<< 8)) % 256 = c.toNat ∧ (c.toNat ^^^ (x <<< 8)) / 256 = x := by
  have hc : c.toNat < 2 ^ 8 := c.toNat_lt
  constructor
  · apply Nat.eq_of_testBit_eq
    intro i
    rw [show 256 = 2 ^ 8 from rfl, Nat.testBit_mod_two_pow, Nat.testBit_xor, Nat.testBit_shiftLeft]
    by_cases hi : i < 8
    · simp [hi, Nat.not_le.2 hi]
    · simp [hi, Nat.testBit_lt_two_pow (Nat.lt_of_lt_of_le hc (Nat.pow_le_pow_right (by decide) (Nat.not_lt.1 hi)))]
  · apply Nat.eq_of_testBit_eq
    intro i
    rw [show 256 = 2 ^ 8 from rfl, Nat.testBit_div_two_pow, Nat.testBit_xor, Nat.testBit_shiftLeft, Nat.testBit_lt_two_pow (Nat.lt_of_lt_of_le hc (Nat.pow_le_pow_right (by decide) (Nat.le_add_left 8 i)))]
    simp
theorem le_lt (l : List UInt8) : le l < 2 ^ (8 * l.length) := by
  induction l with
  | nil => decide
  | cons c l ih =>
    have h := le_low c (le l)
    have hc : c.toNat < 256 := c.toNat_lt
    rw [List.length_cons, show 8 * (l.length + 1) = 8 * l.length + 8 from by omega, Nat.pow_add]
    have e : le (c :: l) = c.toNat ^^^ (le l <<< 8) := rfl
    rw [e]
    generalize c.toNat ^^^ (le l <<< 8) = z at *
    omega
theorem le_add (c : UInt8) (l : List UInt8) : le (c :: l) = c.toNat + 256 * le l := by
  have h := le_low c (le l)
  show c.toNat ^^^ (le l <<< 8) = _
  generalize c.toNat ^^^ (le l <<< 8) = z at *
  omega
theorem le_inj : ∀ {a b : List UInt8}, a.length = b.length → le a = le b → a = b
  | [], [], _, _ => rfl
  | [], _ :: _, h, _ => by simp at h
  | _ :: _, [], h, _ => by simp at h
  | c :: a, d :: b, h, e => by
    have h1 := le_low c (le a)
    have h2 := le_low d (le b)
    have e' : c.toNat ^^^ (le a <<< 8) = d.toNat ^^^ (le b <<< 8) := e
    rw [e'] at h1
    have hc : c = d := UInt8.toNat_inj.1 (h1.1.symm.trans h2.1)
    have hl : a = b := le_inj (by simpa using h) (h1.2.symm.trans h2.2)
    rw [hc, hl]
theorem le_set (m : UInt8) : ∀ (l : List UInt8) (j : Nat) (x : UInt8), l[j]? = some x → le (l.set j (x ^^^ m)) = le l ^^^ (m.toNat <<< (8 * j))
  | [], j, x, h => by simp at h
  | c :: l, 0, x, h => by
    have hx : c = x := by simpa using h
    subst hx
    show (c ^^^ m).toNat ^^^ (le l <<< 8) = (c.toNat ^^^ (le l <<< 8)) ^^^ (m.toNat <<< (8 * 0))
    rw [UInt8.toNat_xor, Nat.mul_zero, Nat.shiftLeft_zero, Nat.xor_assoc, Nat.xor_comm m.toNat, ← Nat.xor_assoc]
  | c :: l, j + 1, x, h => by
    have ih := le_set m l j x (by simpa using h)
    show c.toNat ^^^ (le (l.set j (x ^^^ m)) <<< 8) = (c.toNat ^^^ (le l <<< 8)) ^^^ (m.toNat <<< (8 * (j + 1)))
    rw [ih, Nat.shiftLeft_xor_distrib, ← Nat.shiftLeft_add, Nat.xor_assoc]
    rfl
/-- A burst of at most 64 bits turns the register. -/
theorem burst (r : Nat) {s t : List UInt8} (hl : t.length = s.length) (a B : Nat) (hB : B < 2 ^ 64) (ha : a ≤ 8 * s.length) (h : le t = le s ^^^ (B <<< a)) : crc r t = crc r s ↔ t = s := by
  constructor
  · intro e
    rw [crc_le, crc_le, hl, h] at e
    have e2 : stn (8 * s.length) ((r ^^^ (le s ^^^ (B <<< a))) ^^^ (r ^^^ le s)) = 0 := by rw [stn_xor, e, Nat.xor_self]
    have e3 : (r ^^^ (le s ^^^ (B <<< a))) ^^^ (r ^^^ le s) = B <<< a := by
      rw [← Nat.xor_assoc r (le s), Nat.xor_comm (r ^^^ le s), Nat.xor_assoc, Nat.xor_self, Nat.xor_zero]
    rw [e3, show 8 * s.length = a + (8 * s.length - a) from by omega, stn_add, stn_shl] at e2
    have hz := stn_zero _ hB e2
    subst hz
    rw [Nat.zero_shiftLeft, Nat.xor_zero] at h
    exact le_inj hl h
  · rintro rfl; rfl
theorem stn_pow (n x : Nat) (h : x < 2 ^ 64) : stn n x < 2 ^ 64 := stn_lt n h
/-- The sum of a text stands behind it: just then the register has one and the same value. -/
theorem stored {a b : List UInt8} (hb : b.length = 8) : sum a = le b ↔ crc 18446744073709551615 (a ++ b) = stn 64 18446744073709551615 := by
  have h1 : crc 18446744073709551615 a < 2 ^ 64 := crc_lt a (by decide)
  have h2 : le b < 2 ^ 64 := by have := le_lt b; rw [hb] at this; exact this
  rw [crc_append, crc_le b, hb]
  unfold sum inv
  constructor
  · intro h
    rw [← h, ← Nat.xor_assoc, Nat.xor_self, Nat.zero_xor]
  · intro h
    have h3 := stn_inj 64 (Nat.xor_lt_two_pow h1 h2) (by decide) h
    generalize crc 18446744073709551615 a = z at *
    rw [← h3, ← Nat.xor_assoc, Nat.xor_self, Nat.zero_xor]
end Go.Proofs.YtmmgicomidpmhaaDoor.Crc

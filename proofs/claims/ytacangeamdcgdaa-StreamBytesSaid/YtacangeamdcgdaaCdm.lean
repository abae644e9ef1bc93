/- What is laid, and what is read: plain mathematics. -/
import Derived.Test.YtacangeamdcgdaaNb
namespace Go.Proofs.Ytacangeamdcgdaa
/-- A value as it is laid: of one that isn't right the number 0. -/
def valW (v : Val) : List UInt8 :=
  if rightB v.k v.n v.s = true then (if v.k = 1 then 1 :: num (zig v.n) else if v.k = 2 then 2 :: (num v.s.size ++ v.s.data.toList) else [3, UInt8.ofNat v.n.toNat]) else 1 :: num (zig 0)
def valsW (l : List Val) : List UInt8 := l.flatMap valW
def rowW (l : List Val) : List UInt8 := num l.length ++ valsW l
def rowsW (l : List (List Val)) : List UInt8 := num l.length ++ l.flatMap rowW
/-- So many bytes, and what is behind. -/
def cutR (n : Nat) (l : List UInt8) : Option (List UInt8 × List UInt8) := if l.length < n then none else some (l.take n, l.drop n)
def natR : List UInt8 → Option (Nat × List UInt8)
  | [] => none
  | c :: r => if 8 < c.toNat then none else if r.length < c.toNat then none else if (r.take c.toNat).head? = some 0 then none else some (de (r.take c.toNat), r.drop c.toNat)
def sizeR (most : Int) (l : List UInt8) : Option (Nat × List UInt8) := (natR l).bind fun x => if most < (x.1 : Int) then none else some x
def signedR (l : List UInt8) : Option (Int × List UInt8) := (natR l).map fun x => (zag x.1, x.2)
def textR (most : Int) (l : List UInt8) : Option (List UInt8 × List UInt8) := (sizeR most l).bind fun x => cutR x.1 x.2
def boolR : List UInt8 → Option (Val × List UInt8)
  | [] => none
  | b :: t => if b.toNat ≤ 1 then some (⟨3, b.toNat, ⟨#[]⟩⟩, t) else none
def valR : List UInt8 → Option (Val × List UInt8)
  | [] => none
  | c :: r =>
    if c = 1 then (signedR r).map fun x => (⟨1, x.1, ⟨#[]⟩⟩, x.2)
    else if c = 2 then (textR 200 r).map fun x => (⟨2, 0, ⟨x.1.toArray⟩⟩, x.2)
    else if c = 3 then boolR r
    else none
/-- n things, one behind the other. -/
def manyR {α : Type} (f : List UInt8 → Option (α × List UInt8)) : Nat → List UInt8 → Option (List α × List UInt8)
  | 0, l => some ([], l)
  | n + 1, l => (f l).bind fun x => (manyR f n x.2).map fun y => (x.1 :: y.1, y.2)
def rowR (most : Int) (l : List UInt8) : Option (List Val × List UInt8) := (sizeR most l).bind fun x => manyR valR x.1 x.2
def rowsR (most cols : Int) (l : List UInt8) : Option (List (List Val) × List UInt8) := (sizeR most l).bind fun x => manyR (rowR cols) x.1 x.2
/-- f reads e as x, whatever is behind; and nothing that e only begins with. -/
structure Reads {α : Type} (f : List UInt8 → Option (α × List UInt8)) (x : α) (e : List UInt8) : Prop where
  all : ∀ r, f (e ++ r) = some (x, r)
  cut : ∀ p, p.length < e.length → (∃ r, p ++ r = e) → f p = none
theorem nat_reads (n : Nat) (h : n < 2 ^ 64) : Reads natR n (num n) := by
  have hl := nb_len 8 n (by simpa using h)
  have hc : (UInt8.ofNat (nb n).length).toNat = (nb n).length := by rw [UInt8.toNat_ofNat']; omega
  constructor
  · intro r
    show natR (UInt8.ofNat (nb n).length :: (nb n ++ r)) = _
    unfold natR
    simp only [hc]
    rw [if_neg (by omega), if_neg (by rw [List.length_append]; omega), List.take_left, List.drop_left, de_nb, if_neg (fun h2 => nb_head n 0 h2 rfl)]
  · rintro p hp ⟨r, hr⟩
    cases p with
    | nil => rfl
    | cons c t =>
      unfold num at hr hp
      rw [List.cons_append] at hr
      obtain ⟨rfl, hr⟩ := List.cons.inj hr
      unfold natR
      simp only [hc]
      rw [if_neg (by omega), if_pos (by simpa using hp)]
theorem Reads.map {α β : Type} {f : List UInt8 → Option (α × List UInt8)} {x : α} {e : List UInt8} (h : Reads f x e) (g : α → β) : Reads (fun l => (f l).map fun y => (g y.1, y.2)) (g x) e :=
  ⟨fun r => by rw [h.all]; rfl, fun p hp hr => by rw [h.cut p hp hr]; rfl⟩
theorem size_reads (n : Nat) (most : Int) (h : n < 2 ^ 64) (hm : (n : Int) ≤ most) : Reads (sizeR most) n (num n) :=
  ⟨fun r => by unfold sizeR; rw [(nat_reads n h).all]; simp; omega, fun p hp hr => by unfold sizeR; rw [(nat_reads n h).cut p hp hr]; rfl⟩
theorem signed_reads (n : Int) (h1 : -9223372036854775808 ≤ n) (h2 : n ≤ 9223372036854775807) : Reads signedR n (num (zig n)) := by
  have := (nat_reads (zig n) (zig_lt n h1 h2)).map zag
  rw [zag_zig] at this
  exact this
theorem Reads.bind {α β : Type} {f : List UInt8 → Option (α × List UInt8)} {x : α} {e : List UInt8} (h : Reads f x e) (g : α → List UInt8 → Option (β × List UInt8)) {y : β} {d : List UInt8} (k : Reads (g x) y d) :
    Reads (fun l => (f l).bind fun z => g z.1 z.2) y (e ++ d) := by
  constructor
  · intro r
    rw [List.append_assoc, h.all]
    exact k.all r
  · rintro p hp ⟨r, hr⟩
    by_cases h1 : p.length < e.length
    · rw [h.cut p h1 ⟨r.take (e.length - p.length), ?_⟩]; · rfl
      have := congrArg (List.take e.length) hr
      rw [List.take_left, List.take_append, List.take_of_length_le (by omega)] at this
      exact this
    · have h2 : p = e ++ p.drop e.length := by
        have := congrArg (List.take e.length) hr
        rw [List.take_left, List.take_append, show e.length - p.length = 0 by omega, List.take_zero, List.append_nil] at this
        conv => lhs; rw [← List.take_append_drop e.length p, this]
      rw [h2, h.all]
      refine k.cut _ (by rw [List.length_drop]; rw [List.length_append] at hp; omega) ⟨r, ?_⟩
      rw [h2, List.append_assoc] at hr
      exact List.append_cancel_left hr
theorem cut_reads (l : List UInt8) : Reads (cutR l.length) l l := by
  constructor
  · intro r
    unfold cutR
    rw [if_neg (by rw [List.length_append]; omega), List.take_left, List.drop_left]
  · intro p hp _
    unfold cutR
    rw [if_pos hp]
theorem text_reads (l : List UInt8) (most : Int) (h : l.length < 2 ^ 64) (hm : (l.length : Int) ≤ most) : Reads (textR most) l (num l.length ++ l) :=
  (size_reads l.length most h hm).bind (fun n r => cutR n r) (cut_reads l)
theorem cons_reads {α : Type} (c : UInt8) (f : List UInt8 → Option (α × List UInt8)) (F : List UInt8 → Option (α × List UInt8)) (hF : ∀ r, F (c :: r) = f r) (h0 : F [] = none) {x : α} {e : List UInt8} (h : Reads f x e) : Reads F x (c :: e) := by
  constructor
  · intro r; rw [List.cons_append, hF]; exact h.all r
  · rintro p hp ⟨r, hr⟩
    cases p with
    | nil => exact h0
    | cons d t =>
      rw [List.cons_append] at hr
      obtain ⟨rfl, hr2⟩ := List.cons.inj hr
      rw [hF]
      exact h.cut t (by simpa using hp) ⟨r, hr2⟩
theorem val_reads (v : Val) (hr : rightB v.k v.n v.s = true) (hn : -9223372036854775808 ≤ v.n ∧ v.n ≤ 9223372036854775807) : Reads valR v (valW v) := by
  obtain ⟨k, n, s⟩ := v
  simp only at hr hn
  unfold valW
  rw [if_pos hr]
  by_cases h1 : k = 1
  · subst h1
    rw [rightB_1] at hr
    have hs : s = ⟨#[]⟩ := by simpa using hr
    subst hs
    rw [if_pos rfl]
    refine cons_reads 1 (fun r => (signedR r).map fun x => (⟨1, x.1, ⟨#[]⟩⟩, x.2)) valR (fun r => rfl) rfl ?_
    exact (signed_reads n hn.1 hn.2).map (fun x => (⟨1, x, ⟨#[]⟩⟩ : Val))
  · by_cases h2 : k = 2
    · subst h2
      rw [rightB_2] at hr
      have hr2 : n = 0 ∧ s.size ≤ 200 := by simpa using hr
      obtain ⟨rfl, hs⟩ := hr2
      rw [if_neg (show ¬ (2 : Int) = 1 by decide), if_pos rfl]
      refine cons_reads 2 (fun r => (textR 200 r).map fun x => (⟨2, 0, ⟨x.1.toArray⟩⟩, x.2)) valR (fun r => rfl) rfl ?_
      have hl : s.data.toList.length = s.size := by simp
      have := (text_reads s.data.toList 200 (by omega) (by omega)).map (fun x => (⟨2, 0, ⟨x.toArray⟩⟩ : Val))
      rw [hl] at this
      simpa using this
    · by_cases h3 : k = 3
      · subst h3
        rw [rightB_3] at hr
        have hr2 : (n = 0 ∨ n = 1) ∧ s = ⟨#[]⟩ := by simpa using hr
        obtain ⟨hn2, rfl⟩ := hr2
        rw [if_neg (show ¬ (3 : Int) = 1 by decide), if_neg (show ¬ (3 : Int) = 2 by decide)]
        rcases hn2 with rfl | rfl
        · refine cons_reads 3 boolR valR (fun r => rfl) rfl (cons_reads 0 (fun r => some (⟨3, 0, ⟨#[]⟩⟩, r)) boolR (fun r => rfl) rfl ⟨fun r => rfl, fun p hp _ => ?_⟩)
          exact absurd hp (by simp)
        · refine cons_reads 3 boolR valR (fun r => rfl) rfl (cons_reads 1 (fun r => some (⟨3, 1, ⟨#[]⟩⟩, r)) boolR (fun r => rfl) rfl ⟨fun r => rfl, fun p hp _ => ?_⟩)
          exact absurd hp (by simp)
      · rw [rightB_no k n s h1 h2 h3] at hr; cases hr
theorem many_reads {α : Type} (f : List UInt8 → Option (α × List UInt8)) (e : α → List UInt8) (l : List α) (h : ∀ x ∈ l, Reads f x (e x)) : Reads (manyR f l.length) l (l.flatMap e) := by
  induction l with
  | nil => exact ⟨fun r => rfl, fun p hp _ => absurd hp (by simp)⟩
  | cons x t ih =>
    rw [List.flatMap_cons, List.length_cons]
    exact (h x (by simp)).bind (fun a r => (manyR f t.length r).map fun y => (a :: y.1, y.2)) ((ih fun y hy => h y (by simp [hy])).map (x :: ·))
theorem row_reads (l : List Val) (most : Int) (hl : l.length < 2 ^ 64) (hm : (l.length : Int) ≤ most) (h : ∀ v ∈ l, rightB v.k v.n v.s = true ∧ -9223372036854775808 ≤ v.n ∧ v.n ≤ 9223372036854775807) : Reads (rowR most) l (rowW l) :=
  (size_reads l.length most hl hm).bind (fun n r => manyR valR n r) (many_reads valR valW l fun v hv => val_reads v (h v hv).1 (h v hv).2)
theorem rows_reads (l : List (List Val)) (most cols : Int) (hl : l.length < 2 ^ 64) (hm : (l.length : Int) ≤ most)
    (h : ∀ r ∈ l, r.length < 2 ^ 64 ∧ (r.length : Int) ≤ cols ∧ ∀ v ∈ r, rightB v.k v.n v.s = true ∧ -9223372036854775808 ≤ v.n ∧ v.n ≤ 9223372036854775807) : Reads (rowsR most cols) l (rowsW l) :=
  (size_reads l.length most hl hm).bind (fun n r => manyR (rowR cols) n r) (many_reads (rowR cols) rowW l fun r hr => row_reads r cols (h r hr).1 (h r hr).2.1 (h r hr).2.2)
theorem natR_cons (c : UInt8) (r : List UInt8) : natR (c :: r) = if 8 < c.toNat then none else if r.length < c.toNat then none else if (r.take c.toNat).head? = some 0 then none else some (de (r.take c.toNat), r.drop c.toNat) := rfl
theorem valR_cons (c : UInt8) (r : List UInt8) : valR (c :: r) = if c = 1 then (signedR r).map fun x => (⟨1, x.1, ⟨#[]⟩⟩, x.2)
    else if c = 2 then (textR 200 r).map fun x => (⟨2, 0, ⟨x.1.toArray⟩⟩, x.2)
    else if c = 3 then boolR r
    else none := rfl
theorem boolR_cons (b : UInt8) (t : List UInt8) : boolR (b :: t) = if b.toNat ≤ 1 then some (⟨3, b.toNat, ⟨#[]⟩⟩, t) else none := rfl
/-- What is read is shorter than what it was read of. -/
theorem nat_short (l r : List UInt8) (n : Nat) (h : natR l = some (n, r)) : r.length < l.length := by
  cases l with
  | nil => simp [natR] at h
  | cons c t =>
    rw [natR_cons] at h
    by_cases a1 : 8 < c.toNat
    · rw [if_pos a1] at h; cases h
    · rw [if_neg a1] at h
      by_cases a2 : t.length < c.toNat
      · rw [if_pos a2] at h; cases h
      · rw [if_neg a2] at h
        by_cases a3 : (t.take c.toNat).head? = some 0
        · rw [if_pos a3] at h; cases h
        · rw [if_neg a3] at h
          obtain ⟨_, rfl⟩ := Prod.mk.inj (Option.some.inj h)
          simp; omega
theorem nat_bd (l r : List UInt8) (n : Nat) (h : natR l = some (n, r)) : n < 2 ^ 64 := by
  cases l with
  | nil => simp [natR] at h
  | cons c t =>
    rw [natR_cons] at h
    by_cases a1 : 8 < c.toNat
    · rw [if_pos a1] at h; cases h
    · rw [if_neg a1] at h
      by_cases a2 : t.length < c.toNat
      · rw [if_pos a2] at h; cases h
      · rw [if_neg a2] at h
        by_cases a3 : (t.take c.toNat).head? = some 0
        · rw [if_pos a3] at h; cases h
        · rw [if_neg a3] at h
          obtain ⟨rfl, _⟩ := Prod.mk.inj (Option.some.inj h)
          have h2 := de_lt (t.take c.toNat)
          have h3 : 256 ^ (t.take c.toNat).length ≤ 256 ^ 8 := Nat.pow_le_pow_right (by decide) (by rw [List.length_take]; omega)
          have h4 : (256 : Nat) ^ 8 = 2 ^ 64 := by decide
          omega
theorem size_short (most : Int) (l r : List UInt8) (n : Nat) (h : sizeR most l = some (n, r)) : r.length < l.length ∧ (n : Int) ≤ most := by
  unfold sizeR at h
  cases h1 : natR l with
  | none => rw [h1] at h; cases h
  | some x =>
    obtain ⟨m, t⟩ := x
    rw [h1] at h
    simp only [Option.bind_some] at h
    split at h
    · cases h
    · obtain ⟨rfl, rfl⟩ := Prod.mk.inj (Option.some.inj h)
      exact ⟨nat_short _ _ _ h1, by omega⟩
theorem text_short (most : Int) (l r t : List UInt8) (h : textR most l = some (t, r)) : r.length < l.length ∧ (t.length : Int) ≤ most := by
  unfold textR at h
  cases h1 : sizeR most l with
  | none => rw [h1] at h; cases h
  | some x =>
    obtain ⟨m, u⟩ := x
    rw [h1] at h
    simp only [Option.bind_some, cutR] at h
    have := size_short _ _ _ _ h1
    split at h
    · cases h
    · obtain ⟨rfl, rfl⟩ := Prod.mk.inj (Option.some.inj h)
      simp; omega
theorem val_short (l r : List UInt8) (v : Val) (h : valR l = some (v, r)) : r.length < l.length := by
  cases l with
  | nil => cases h
  | cons c t =>
    rw [valR_cons] at h
    by_cases h1 : c = 1
    · rw [if_pos h1] at h
      unfold signedR at h
      cases h2 : natR t with
      | none => rw [h2] at h; cases h
      | some x =>
        rw [h2] at h
        obtain ⟨_, rfl⟩ := Prod.mk.inj (Option.some.inj h)
        have := nat_short _ _ _ h2
        simp; omega
    · rw [if_neg h1] at h
      by_cases h3 : c = 2
      · rw [if_pos h3] at h
        cases h2 : textR 200 t with
        | none => rw [h2] at h; cases h
        | some x =>
          rw [h2] at h
          obtain ⟨_, rfl⟩ := Prod.mk.inj (Option.some.inj h)
          have := (text_short _ _ _ _ h2).1
          simp; omega
      · rw [if_neg h3] at h
        by_cases h4 : c = 3
        · rw [if_pos h4] at h
          cases t with
          | nil => cases h
          | cons b u =>
            rw [boolR_cons] at h
            split at h
            · obtain ⟨_, rfl⟩ := Prod.mk.inj (Option.some.inj h)
              simp; omega
            · cases h
        · rw [if_neg h4] at h; cases h
/-- What is read is right. -/
theorem val_right (l r : List UInt8) (v : Val) (h : valR l = some (v, r)) : rightB v.k v.n v.s = true ∧ -9223372036854775808 ≤ v.n ∧ v.n ≤ 9223372036854775807 := by
  cases l with
  | nil => cases h
  | cons c t =>
    rw [valR_cons] at h
    by_cases h1 : c = 1
    · rw [if_pos h1] at h
      unfold signedR at h
      cases h2 : natR t with
      | none => rw [h2] at h; cases h
      | some x =>
        rw [h2] at h
        obtain ⟨rfl, _⟩ := Prod.mk.inj (Option.some.inj h)
        exact ⟨by simp [rightB], zag_bd _ (nat_bd t x.2 x.1 h2)⟩
    · rw [if_neg h1] at h
      by_cases h3 : c = 2
      · rw [if_pos h3] at h
        cases h2 : textR 200 t with
        | none => rw [h2] at h; cases h
        | some x =>
          rw [h2] at h
          obtain ⟨rfl, _⟩ := Prod.mk.inj (Option.some.inj h)
          have := (text_short _ _ _ _ h2).2
          refine ⟨?_, by simp⟩
          simp only [rightB_2]
          simp [ByteArray.size]; omega
      · rw [if_neg h3] at h
        by_cases h4 : c = 3
        · rw [if_pos h4] at h
          cases t with
          | nil => cases h
          | cons b u =>
            rw [boolR_cons] at h
            split at h
            · rename_i hb
              obtain ⟨rfl, _⟩ := Prod.mk.inj (Option.some.inj h)
              have : b.toNat = 0 ∨ b.toNat = 1 := by omega
              refine ⟨?_, by simp only; omega⟩
              simp only [rightB_3]
              rcases this with h | h <;> simp [h]
            · cases h
        · rw [if_neg h4] at h; cases h
end Go.Proofs.Ytacangeamdcgdaa

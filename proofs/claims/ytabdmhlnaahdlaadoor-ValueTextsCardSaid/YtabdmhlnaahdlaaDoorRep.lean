/- Texts with one text in the place of another one, everywhere: plain mathematics. -/
import Derived.Lib.Replace
import Derived.Test.YtabdmhlnaahdlaaDoorKey
namespace Go.Proofs.YtabdmhlnaahdlaaDoor
open Go.Lib
def rep (old new s : List UInt8) : List UInt8 := replaceK old new (count s old) s
theorem rep_eq (old new s : List UInt8) (h : old ≠ new) : replaceAll s old new = rep old new s := by
  unfold replaceAll replace replaceNum rep
  rw [if_neg (by simpa using h), if_pos (by omega)]
theorem rep_nil (old new : List UInt8) (h : old ≠ []) : rep old new [] = [] := by
  have hi : index [] old = -1 := by
    cases old with
    | nil => exact absurd rfl h
    | cons _ _ => rfl
  unfold rep
  rw [count_miss hi]
  rfl
theorem rep_skip (old new : List UInt8) (h : old ≠ []) (b : UInt8) (l : List UInt8) (hp : old.isPrefixOf (b :: l) = false) : rep old new (b :: l) = b :: rep old new l := by
  have hix : index (b :: l) old = if index l old == -1 then -1 else index l old + 1 := by rw [index, hp]; simp
  by_cases hm : index l old = -1
  · unfold rep
    rw [count_miss hm, count_miss (by rw [hix, if_pos (beq_iff_eq.2 hm)])]
    rfl
  · have hge := index_ge l old
    obtain ⟨j, hj⟩ : ∃ j : Nat, index l old = j := ⟨(index l old).toNat, by omega⟩
    have hix' : index (b :: l) old = ((j + 1 : Nat) : Int) := by rw [hix, if_neg (fun e => hm (beq_iff_eq.1 e)), hj]; omega
    have hc1 := count_hit h hj
    have hc2 := count_hit h hix'
    unfold rep
    rw [hc1, hc2, Nat.add_comm 1, Nat.add_comm 1, replaceK_hit old new _ _ j hj, replaceK_hit old new _ _ (j + 1) hix']
    rw [show j + 1 + old.length = (j + old.length) + 1 from by omega, List.drop_succ_cons, List.take_succ_cons]
    rfl
theorem rep_hit (old new : List UInt8) (h : old ≠ []) (s : List UInt8) (hp : old.isPrefixOf s = true) : rep old new s = new ++ rep old new (s.drop old.length) := by
  have hix : index s old = ((0 : Nat) : Int) := by
    cases s with
    | nil => cases old with
      | nil => exact absurd rfl h
      | cons _ _ => simp at hp
    | cons b l => rw [index, if_pos hp]; rfl
  unfold rep
  rw [count_hit h hix, Nat.add_comm 1, replaceK_hit old new _ _ 0 hix]
  simp
/-- Each apostrophe twice. -/
def dbl (l : List UInt8) : List UInt8 := l.flatMap fun c => if c = 39 then [39, 39] else [c]
theorem dbl_cons (c : UInt8) (l : List UInt8) : dbl (c :: l) = (if c = 39 then [39, 39] else [c]) ++ dbl l := rfl
theorem dbl_snoc (l : List UInt8) (c : UInt8) : dbl (l ++ [c]) = dbl l ++ if c = 39 then [39, 39] else [c] := by simp [dbl]
theorem dbl_len (l : List UInt8) : (dbl l).length ≤ 2 * l.length := by
  induction l with
  | nil => simp [dbl]
  | cons c r ih =>
    rw [dbl_cons, List.length_append, List.length_cons]
    split <;> simp <;> omega
theorem rep_dbl (l : List UInt8) : rep [39] [39, 39] l = dbl l := by
  induction l with
  | nil => exact rep_nil _ _ (by simp)
  | cons c r ih =>
    rw [dbl_cons]
    by_cases hc : c = 39
    · subst hc
      rw [rep_hit _ _ (by simp) _ (by simp [List.isPrefixOf]), if_pos rfl]
      simp [ih]
    · rw [rep_skip _ _ (by simp) _ _ (by simp [List.isPrefixOf, Ne.symm hc]), if_neg hc, ih]
      rfl
/-- Two apostrophes as one, from the left. -/
def und : List UInt8 → List UInt8
  | [] => []
  | [c] => [c]
  | c :: d :: l => if c = 39 ∧ d = 39 then 39 :: und l else c :: und (d :: l)
theorem rep_und : ∀ l : List UInt8, rep [39, 39] [39] l = und l
  | [] => rep_nil _ _ (by simp)
  | [c] => by
    rw [rep_skip _ _ (by simp) _ _ (by simp [List.isPrefixOf]), rep_nil _ _ (by simp)]
    rfl
  | c :: d :: l => by
    unfold und
    by_cases h : c = 39 ∧ d = 39
    · obtain ⟨rfl, rfl⟩ := h
      rw [rep_hit _ _ (by simp) _ (by simp [List.isPrefixOf]), if_pos ⟨rfl, rfl⟩]
      simp [rep_und l]
    · rw [if_neg h, rep_skip _ _ (by simp) _ _ (by
        simp only [List.isPrefixOf, Bool.and_true, Bool.and_eq_false_iff, beq_eq_false_iff_ne]
        by_cases hc : c = 39
        · exact .inr (fun e => h ⟨hc, e.symm⟩)
        · exact .inl (fun e => hc e.symm)), rep_und (d :: l)]
theorem und_dbl : ∀ l : List UInt8, und (dbl l) = l
  | [] => rfl
  | c :: r => by
    rw [dbl_cons]
    by_cases hc : c = 39
    · subst hc
      rw [if_pos rfl]
      show und (39 :: 39 :: dbl r) = 39 :: r
      unfold und
      rw [if_pos ⟨rfl, rfl⟩, und_dbl r]
    · rw [if_neg hc]
      show und (c :: dbl r) = c :: r
      have ih := und_dbl r
      cases hd : dbl r with
      | nil =>
        rw [hd] at ih
        have : r = [] := ih.symm
        subst this
        rfl
      | cons d t =>
        unfold und
        rw [if_neg (fun h => hc h.1), ← hd, ih]
end Go.Proofs.YtabdmhlnaahdlaaDoor

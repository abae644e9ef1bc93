/- A text as words: places; rows of words. -/
import Derived.Test.YtgdfjcmjhagmoaaLxi
namespace Go.Proofs.Ytgdfjcmjhagmoaa
open Go.ChangeShapes Go.WideShapes Go.ChangeAt Go.RowKit
theorem txt_le : ∀ (l : List UInt8) (x : List UInt8 × Nat), txt l = some x → x.2 ≤ l.length
  | [], x, h => by cases h
  | [c], x, h => by
    unfold txt at h
    split at h
    · cases h; simp
    · cases h
  | c :: d :: r, x, h => by
    rw [txt] at h
    split at h
    · cases h
    · split at h
      · split at h
        · cases e : txt r with
          | none => rw [e] at h; cases h
          | some y => rw [e] at h; cases h; have := txt_le r y e; simp; omega
        · cases h; simp
      · cases e : txt (d :: r) with
        | none => rw [e] at h; cases h
        | some y => rw [e] at h; cases h; have := txt_le (d :: r) y e; simp at this ⊢; omega
theorem run_pos (c : UInt8) (r : List UInt8) (h : isP c = true) : 0 < runN (c :: r) := by
  rw [runN_cons, if_pos h]; omega
theorem fst_pos (l : List UInt8) (x : Wd × Nat) (h : fstW l = some x) : 0 < x.2 ∧ x.2 ≤ l.length := by
  cases l with
  | nil => cases h
  | cons c r =>
    rw [fstW_cons (c :: r) r c rfl] at h
    have hle := runN_le (c :: r)
    split at h
    · rename_i hc
      have hp := run_pos c r (by unfold isP; simp at hc ⊢; exact .inl (.inr hc))
      unfold numW at h
      split at h
      · cases h; exact ⟨hp, hle⟩
      · cases h
    · split at h
      · rename_i hc
        have hp := run_pos c r (by unfold isP; simp at hc ⊢; exact .inl (.inl (.inl hc)))
        unfold namW at h
        split at h
        · cases h; exact ⟨hp, hle⟩
        · cases h
      · split at h
        · unfold txtW at h
          cases e : txt (c :: r).tail with
          | none => rw [e] at h; cases h
          | some y =>
            rw [e] at h
            have hl := txt_le _ _ e
            simp only [Option.bind_some] at h
            split at h
            · cases h
            · cases h; simp at hl ⊢; omega
        · unfold sgnW at h
          split at h
          · rename_i h2
            cases h
            cases r with
            | nil => simp [two] at h2
            | cons d t => simp
          · split at h
            · cases h; simp
            · cases h
theorem wordsF_at (f : Nat) (l : List UInt8) (p k : Nat) (hk : k = p + blk false (l.drop p)) :
    wordsF (f + 1) (l.drop p) p = if l.drop k = [] then .ok [] else match fstW (l.drop k) with
      | none => .error k
      | some x => (wordsF f (l.drop (k + x.2)) (k + x.2)).map ({ x.1 with at_ := (k : Int) } :: ·) := by
  subst hk
  rw [wordsF]
  simp only [List.drop_drop]
  by_cases h : List.drop (p + blk false (List.drop p l)) l = []
  · rw [if_pos h, if_pos h]
  · rw [if_neg h, if_neg h]
    cases fstW (List.drop (p + blk false (List.drop p l)) l) <;> rfl
/-- A word's cells. -/
def wcs (x : Wd) : List Value := [.int .i64 x.kd, .string x.tx, .int .i64 x.n, .int .i64 x.at_]
def wcells (l : List Wd) : List Value := l.flatMap wcs
theorem wcells_len (l : List Wd) : (wcells l).length = l.length * 4 := by
  induction l with
  | nil => rfl
  | cons x r ih => simp [wcells, wcs] at ih ⊢; omega
theorem wcells_one (l : List Wd) (x : Wd) : wcells (l ++ [x]) = wcells l ++ wcs x := by simp [wcells]
theorem Src.four (w : World) (x : Wd) (t : TypeId) : Src (w.alloc (.cells #[.int .i64 x.kd, .string x.tx, .int .i64 x.n, .int .i64 x.at_] t)) (some ⟨w.heap.size, 0, none⟩) 1 4 (wcs x) := by
  refine ⟨rfl, (by intro h; cases h), fun ad hA j u hu => ?_, fun u hu => by
    simp [wcs] at hu
    rcases hu with rfl | rfl | rfl | rfl <;> rfl⟩
  obtain rfl := Option.some.inj hA
  rw [addr_add, Nat.zero_add, (Blk.new w t _).cell, ← hu]
  match j with
  | 0 => rfl
  | 1 => rfl
  | 2 => rfl
  | 3 => rfl
  | j + 4 => simp [wcs]
theorem info35 : (Try.prog.info? 35).map (fun i => (i.zero, i.size, i.bytes)) = some (some (.agg #[.int .i64 0, .string ⟨#[]⟩, .int .i64 0, .int .i64 0]), 4, 40) := by kernel_rfl
theorem own_slice {w : World} {base e size n : Nat} {v : Value} {xs : List Value} (h : w.ownsRow base e size v n xs) : ∃ A c, v = .slice A n c := by
  rcases h.2 with ⟨rfl, h0⟩ | ⟨g, cap, cur, rfl, _⟩
  · subst h0; exact ⟨_, _, rfl⟩
  · exact ⟨_, _, rfl⟩
end Go.Proofs.Ytgdfjcmjhagmoaa

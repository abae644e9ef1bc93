/- Where words stand: plain mathematics. -/
import Derived.Test.YtgdfjcmjhagmoaaLxw
namespace Go.Proofs.Ytgdfjcmjhagmoaa
open Go.ChangeShapes Go.WideShapes Go.ChangeAt Go.RowKit
set_option maxRecDepth 100000 in
set_option maxHeartbeats 8000000 in
theorem words_big (s : ByteArray) (w : World) (hs : s.size ≤ 9223372036854775807) (hlong : 8000 < s.size) :
    Calls Try.prog 8/-f-/ #[.string s] w fun e w' => e = .returned (.tuple #[.slice none 0 0, .int .i64 0, .int .i64 5]) ∧ w' = w := by
  go_enter Try.func8, Try.ntmps8
  go_wp2
  exact bodyPost_ret (v := .tuple #[.slice none 0 0, .int .i64 0, .int .i64 5]) (by simp [results, Try.results8, go_sem]) rfl ⟨rfl, rfl⟩
theorem txt_size : ∀ (l : List UInt8) (x : List UInt8 × Nat), txt l = some x → x.2 = x.1.length + 1 + x.1.count 39
  | [], x, h => by cases h
  | [c], x, h => by
    unfold txt at h
    split at h
    · cases h; rfl
    · cases h
  | c :: d :: r, x, h => by
    rw [txt] at h
    split at h
    · cases h
    · split at h
      · split at h
        · cases e : txt r with
          | none => rw [e] at h; cases h
          | some y => rw [e] at h; cases h; have := txt_size r y e; simp; omega
        · cases h; rfl
      · rename_i hc
        cases e : txt (d :: r) with
        | none => rw [e] at h; cases h
        | some y => rw [e] at h; cases h; have := txt_size (d :: r) y e; simp [List.count_cons, hc]; omega
theorem arr_size (l : List UInt8) : (⟨l.toArray⟩ : ByteArray).size = l.length := by simp [ByteArray.size]
theorem fst_size (l : List UInt8) (x : Wd) (m : Nat) (h : fstW l = some (x, m)) :
    (x.kd = 2 → m = x.tx.size + 2 + x.tx.data.toList.count 39) ∧ (x.kd ≠ 2 → x.tx = ⟨(l.take m).toArray⟩) := by
  cases l with
  | nil => cases h
  | cons c r =>
    rw [fstW_cons (c :: r) r c rfl] at h
    split at h
    · unfold numW at h
      split at h
      · cases h; exact ⟨fun h => (by cases h), fun _ => rfl⟩
      · cases h
    · split at h
      · unfold namW at h
        split at h
        · cases h; exact ⟨fun h => (by cases h), fun _ => rfl⟩
        · cases h
      · split at h
        · unfold txtW at h
          cases e : txt (c :: r).tail with
          | none => rw [e] at h; cases h
          | some y =>
            rw [e] at h
            have hl := txt_size _ _ e
            simp only [Option.bind_some] at h
            split at h
            · cases h
            · cases h
              refine ⟨fun _ => ?_, fun h => absurd rfl h⟩
              simp only [arr_size]
              omega
        · unfold sgnW at h
          split at h
          · cases h; exact ⟨fun h => (by cases h), fun _ => rfl⟩
          · split at h
            · cases h; exact ⟨fun h => (by cases h), fun _ => rfl⟩
            · cases h
/-- Words that stand where they say, from a place on; between them, and behind them, there are blanks and remarks. -/
def Stand (l : List UInt8) : List Wd → Nat → Prop
  | [], k => k + blk false (l.drop k) = l.length
  | x :: r, k => ∃ m y, fstW (l.drop (k + blk false (l.drop k))) = some (y, m) ∧ x = { y with at_ := ((k + blk false (l.drop k) : Nat) : Int) } ∧ Stand l r (k + blk false (l.drop k) + m)
theorem words_stand (l : List UInt8) : ∀ (f k : Nat) (ws : List Wd), k ≤ l.length → l.length - k < f → wordsF f (l.drop k) k = .ok ws → Stand l ws k
  | 0, k, ws, _, hf, _ => by omega
  | f + 1, k, ws, hk, hf, h => by
    rw [wordsF_at f l k _ rfl] at h
    have hle := blk_le false (l.drop k)
    rw [List.length_drop] at hle
    split at h
    · rename_i hd
      cases h
      have := List.drop_eq_nil_iff.1 hd
      show k + blk false (l.drop k) = l.length
      omega
    · cases e : fstW (l.drop (k + blk false (l.drop k))) with
      | none => rw [e] at h; cases h
      | some x =>
        obtain ⟨y, m⟩ := x
        rw [e] at h
        have hp := fst_pos _ _ e
        rw [List.length_drop] at hp
        cases e2 : wordsF f (l.drop (k + blk false (l.drop k) + m)) (k + blk false (l.drop k) + m) with
        | error q => simp only [e2] at h; cases h
        | ok r =>
          simp only [e2] at h
          cases h
          exact ⟨m, y, e, rfl, words_stand l f _ r (by omega) (by omega) e2⟩
theorem scan_step (l : List UInt8) (p : Nat) (b : Bool) (e : Nat) (h : p + blk b (l.drop p) = e) (hp : p < e) (c : UInt8) (hc : l.drop p = c :: l.drop (p + 1)) :
    p + 1 + blk (c != 10 && (b || c == 47)) (l.drop (p + 1)) = e ∧ ((c != 10 && (b || c == 47)) = true ∨ c = 32 ∨ c = 9 ∨ c = 10) := by
  rw [hc] at h
  cases b with
  | true =>
    unfold blk at h
    by_cases h1 : (c == 10) = true
    · rw [if_pos h1] at h
      have h2 : c = 10 := by simpa using h1
      subst h2
      exact ⟨by rw [show ((10 : UInt8) != 10 && (true || (10 : UInt8) == 47)) = false from rfl]; omega, .inr (.inr (.inr rfl))⟩
    · rw [if_neg h1] at h
      have h2 : (c != 10 && (true || c == 47)) = true := by simpa using h1
      rw [h2]
      exact ⟨by omega, .inl rfl⟩
  | false =>
    unfold blk at h
    by_cases h1 : isBl c = true
    · rw [if_pos h1] at h
      have h3 : c = 32 ∨ c = 9 ∨ c = 10 := by
        unfold isBl at h1
        simp at h1
        rcases h1 with (h | h) | h
        · exact .inl h
        · exact .inr (.inl h)
        · exact .inr (.inr h)
      have h2 : (c != 10 && (false || c == 47)) = false := by rcases h3 with rfl | rfl | rfl <;> rfl
      rw [h2]
      exact ⟨by omega, .inr h3⟩
    · rw [if_neg h1] at h
      split at h
      · rename_i h4
        have h5 : c = 47 := by simp at h4; exact h4.1
        subst h5
        exact ⟨by rw [show ((47 : UInt8) != 10 && (false || (47 : UInt8) == 47)) = true from rfl]; omega, .inl rfl⟩
      · omega
theorem scan_end (l : List UInt8) (b : Bool) (e : Nat) (h : e + blk b (l.drop e) = e) (he : e < l.length) : b = false := by
  cases b with
  | false => rfl
  | true =>
    rw [List.drop_eq_getElem_cons he] at h
    unfold blk at h
    split at h <;> omega
end Go.Proofs.Ytgdfjcmjhagmoaa

/- Words with blanks behind them: plain mathematics. -/
import Derived.Test.YtgdfjcmjhagmoaaLxy
namespace Go.Proofs.Ytgdfjcmjhagmoaa
/-- What stands behind each word. -/
def sep (b : Bool) : List UInt8 := 32 :: if b then [47, 47, 32, 39, 32, 123, 10] else []
/-- Words, one behind the other. -/
def joined (b : Bool) (ws : List Wd) : List UInt8 := ws.flatMap fun x => x.tx.data.toList ++ sep b
theorem joined_cons (b : Bool) (x : Wd) (r : List Wd) : joined b (x :: r) = x.tx.data.toList ++ (sep b ++ joined b r) := by
  simp [joined]
theorem joined_snoc (b : Bool) (ws : List Wd) (j : Nat) (hj : j < ws.length) : joined b (ws.take (j + 1)) = joined b (ws.take j) ++ (ws.getD j default).tx.data.toList ++ sep b := by
  rw [List.take_add_one, joined, joined, List.flatMap_append]
  simp [List.getD, hj]
theorem run_app : ∀ (l : List UInt8) (r : List UInt8), runN (l.take (runN l) ++ 32 :: r) = (l.take (runN l)).length
  | [], r => rfl
  | c :: t, r => by
    rw [runN_cons]
    by_cases h : isP c = true
    · rw [if_pos h, List.take_succ_cons, List.cons_append, runN_cons, if_pos h, run_app t r]
      simp
    · rw [if_neg h]
      rfl
theorem take_app {α : Type} (a b : List α) : (a ++ b).take a.length = a := by simp
theorem toArr (l : List UInt8) : (⟨l.toArray⟩ : ByteArray).data.toList = l := by simp
/-- A word that stays as it is with a blank behind it. -/
def Good (x : Wd) : Prop := 0 < x.tx.size ∧ ∃ a, ∀ r, fstW (x.tx.data.toList ++ 32 :: r) = some (⟨x.kd, x.tx, x.n, a⟩, x.tx.size) ∧ blk false (x.tx.data.toList ++ 32 :: r) = 0
theorem take_run_cons (c : UInt8) (t : List UInt8) (h : isP c = true) : (c :: t).take (runN (c :: t)) = c :: t.take (runN t) := by
  rw [runN_cons, if_pos h, List.take_succ_cons]
theorem blk_zero (c : UInt8) (r : List UInt8) (h1 : isBl c = false) (h2 : c ≠ 47) : blk false (c :: r) = 0 := by
  unfold blk
  rw [h1]
  simp [h2]
theorem isP_plain (c : UInt8) (h : isP c = true) : isBl c = false ∧ c ≠ 47 := by
  constructor
  · cases e : isBl c with
    | false => rfl
    | true =>
      unfold isBl at e
      simp at e
      rcases e with (rfl | rfl) | rfl <;> exact absurd h (by decide)
  · rintro rfl
    exact absurd h (by decide)
theorem fst_good (l : List UInt8) (x : Wd) (m : Nat) (h : fstW l = some (x, m)) (hk : x.kd ≠ 2) : Good x := by
  cases l with
  | nil => cases h
  | cons c t =>
    rw [fstW_cons (c :: t) t c rfl] at h
    by_cases h1 : (48 ≤ c && c ≤ 57) = true
    · rw [if_pos h1] at h
      have hp : isP c = true := by unfold isP; simp at h1 ⊢; exact .inl (.inr h1)
      unfold numW at h
      split at h
      · rename_i hE
        cases h
        have hT := take_run_cons c t hp
        refine ⟨by rw [arr_size, hT]; simp, 0, fun r => ⟨?_, ?_⟩⟩
        · have hR := run_app (c :: t) r
          simp only [toArr, arr_size]
          rw [fstW_cons _ (t.take (runN t) ++ 32 :: r) c (by rw [hT]; rfl), if_pos h1]
          unfold numW
          rw [hR, take_app, if_pos hE]
        · rw [toArr, hT]
          exact blk_zero _ _ (isP_plain c hp).1 (isP_plain c hp).2
      · cases h
    · rw [if_neg h1] at h
      by_cases h2 : (97 ≤ c && c ≤ 122) = true
      · rw [if_pos h2] at h
        have hp : isP c = true := by unfold isP; simp at h2 ⊢; exact .inl (.inl (.inl h2))
        unfold namW at h
        split at h
        · rename_i hE
          cases h
          have hT := take_run_cons c t hp
          refine ⟨by rw [arr_size, hT]; simp, 0, fun r => ⟨?_, ?_⟩⟩
          · have hR := run_app (c :: t) r
            simp only [toArr, arr_size]
            rw [fstW_cons _ (t.take (runN t) ++ 32 :: r) c (by rw [hT]; rfl), if_neg h1, if_pos h2]
            unfold namW
            rw [hR, take_app, if_pos hE]
          · rw [toArr, hT]
            exact blk_zero _ _ (isP_plain c hp).1 (isP_plain c hp).2
        · cases h
      · rw [if_neg h2] at h
        by_cases h3 : (c == 39) = true
        · rw [if_pos h3] at h
          unfold txtW at h
          cases e : txt (c :: t).tail with
          | none => rw [e] at h; cases h
          | some y =>
            rw [e] at h
            simp only [Option.bind_some] at h
            split at h
            · cases h
            · cases h; exact absurd rfl hk
        · rw [if_neg h3] at h
          unfold sgnW at h
          by_cases h4 : two (c :: t) = true
          · rw [if_pos h4] at h
            cases h
            cases t with
            | nil => cases h4
            | cons d u =>
              have h5 : two (c :: d :: u) = (d == 61 && (c == 60 || c == 33 || c == 62)) := rfl
              rw [h5] at h4
              refine ⟨by simp [ByteArray.size], 0, fun r => ⟨?_, ?_⟩⟩
              · simp only [toArr, arr_size]
                show fstW (c :: d :: 32 :: r) = _
                rw [fstW_cons _ (d :: 32 :: r) c rfl, if_neg h1, if_neg h2, if_neg h3]
                unfold sgnW
                rw [if_pos (show two (c :: d :: 32 :: r) = true from h4)]
                rfl
              · rw [toArr]
                show blk false (c :: d :: 32 :: r) = 0
                have h6 : c = 60 ∨ c = 33 ∨ c = 62 := by
                  simp at h4
                  rcases h4.2 with (h | h) | h
                  · exact .inl h
                  · exact .inr (.inl h)
                  · exact .inr (.inr h)
                rcases h6 with rfl | rfl | rfl <;> exact blk_zero _ _ (by decide) (by decide)
          · rw [if_neg h4] at h
            split at h
            · rename_i h5
              cases h
              refine ⟨by simp [ByteArray.size], 0, fun r => ⟨?_, ?_⟩⟩
              · simp only [toArr, arr_size]
                show fstW (c :: 32 :: r) = _
                rw [fstW_cons _ (32 :: r) c rfl, if_neg h1, if_neg h2, if_neg h3]
                unfold sgnW
                rw [if_neg (show ¬ two (c :: 32 :: r) = true from fun h => by cases h), if_pos (show Option.any (fun x => signs.contains x) (c :: 32 :: r).head? = true from h5)]
                rfl
              · rw [toArr]
                show blk false (c :: 32 :: r) = 0
                have h6 : isBl c = false := by
                  have h7 : signs.contains c = true := h5
                  cases e : isBl c with
                  | false => rfl
                  | true =>
                    unfold isBl at e
                    simp at e
                    rcases e with (rfl | rfl) | rfl <;> exact absurd h7 (by decide)
                unfold blk
                rw [h6]
                simp
            · cases h
theorem blk_sep (b : Bool) (l : List UInt8) : blk false (sep b ++ l) = (sep b).length + blk false l := by
  cases b with
  | false =>
    show blk false (32 :: l) = 1 + blk false l
    rw [Nat.add_comm]; rfl
  | true =>
    show blk false (32 :: 47 :: 47 :: 32 :: 39 :: 32 :: 123 :: 10 :: l) = 8 + blk false l
    rw [Nat.add_comm]; rfl
theorem joined_blk (b : Bool) (ws : List Wd) (hg : ∀ x ∈ ws, Good x) : blk false (joined b ws) = 0 := by
  cases ws with
  | nil => rfl
  | cons x r =>
    rw [joined_cons]
    obtain ⟨_, a, h⟩ := hg x (by simp)
    exact (h _).2
/-- Words but for their places. -/
def bare (ws : List Wd) : List (Int × ByteArray × Int) := ws.map fun x => (x.kd, x.tx, x.n)
theorem words_joined (b : Bool) : ∀ (ws : List Wd) (f k : Nat) (S : List UInt8), (∀ x ∈ ws, Good x) → (S = [] ∨ S = sep b) → (S ++ joined b ws).length < f → ∃ vs, wordsF f (S ++ joined b ws) k = .ok vs ∧ bare vs = bare ws
  | ws, 0, k, S, _, _, hf => by omega
  | ws, f + 1, k, S, hg, hS, hf => by
    have hb : blk false (S ++ joined b ws) = S.length := by
      rcases hS with rfl | rfl
      · simp [joined_blk b ws hg]
      · rw [blk_sep, joined_blk b ws hg]; omega
    have hd : (S ++ joined b ws).drop (blk false (S ++ joined b ws)) = joined b ws := by rw [hb]; simp
    rw [wordsF, hd]
    cases ws with
    | nil => exact ⟨[], by rw [if_pos (show joined b [] = [] from rfl)], rfl⟩
    | cons x r =>
      obtain ⟨hpos, a, h⟩ := hg x (by simp)
      rw [joined_cons] at hf ⊢
      have hfst := (h ((sep b).tail ++ joined b r)).1
      rw [show x.tx.data.toList ++ 32 :: ((sep b).tail ++ joined b r) = x.tx.data.toList ++ (sep b ++ joined b r) from rfl] at hfst
      have hne : x.tx.data.toList ++ (sep b ++ joined b r) ≠ [] := by
        intro h0
        have := congrArg List.length h0
        simp [sep] at this
      rw [if_neg hne, hfst]
      have hdr : (x.tx.data.toList ++ (sep b ++ joined b r)).drop x.tx.size = sep b ++ joined b r := by
        rw [show x.tx.size = x.tx.data.toList.length from by simp]; simp
      obtain ⟨vs, h1, h2⟩ := words_joined b r f (k + blk false (S ++ (x.tx.data.toList ++ (sep b ++ joined b r))) + x.tx.size) (sep b) (fun y hy => hg y (by simp [hy])) (.inr rfl) (by
        simp only [List.length_append] at hf ⊢
        have : x.tx.data.toList.length = x.tx.size := by simp
        omega)
      simp only [hdr, h1]
      exact ⟨_, rfl, by simp [bare] at h2 ⊢; exact h2⟩
theorem stand_good (l : List UInt8) : ∀ (ws : List Wd) (k : Nat), Stand l ws k → (∀ x ∈ ws, x.kd ≠ 2) → ∀ x ∈ ws, Good x
  | [], _, _, _, x, hx => by cases hx
  | y :: r, k, h, hk, x, hx => by
    obtain ⟨m, y', e, h1, h2⟩ := h
    rcases List.mem_cons.1 hx with rfl | hx
    · have h3 := hk x (by simp)
      rw [h1] at h3 ⊢
      exact (show Good y' from fst_good _ y' m e h3)
    · exact stand_good l r _ h2 (fun z hz => hk z (by simp [hz])) x hx
theorem stand_size (b : Bool) (l : List UInt8) : ∀ (ws : List Wd) (k : Nat), k ≤ l.length → Stand l ws k → (joined b ws).length + 9 * k ≤ 9 * l.length
  | [], k, hk, _ => by simp [joined]; omega
  | x :: r, k, hk, h => by
    obtain ⟨m, y, e, h1, h2⟩ := h
    have hp := fst_pos _ _ e
    have hle := blk_le false (l.drop k)
    have hs := fst_size _ _ _ e
    rw [List.length_drop] at hp hle
    have ih := stand_size b l r _ (by omega) h2
    have htx : x.tx.size ≤ m := by
      rw [h1]
      by_cases h2 : y.kd = 2
      · have := hs.1 h2; show y.tx.size ≤ m; omega
      · have h3 := hs.2 h2
        show y.tx.size ≤ m
        have h4 : y.tx.size = (List.take m (List.drop (k + blk false (l.drop k)) l)).length := by
          conv => lhs; rw [h3]
          exact arr_size _
        rw [List.length_take] at h4
        omega
    have hsep : (sep b).length ≤ 8 := by cases b <;> decide
    rw [joined_cons]
    simp only [List.length_append]
    have : x.tx.data.toList.length = x.tx.size := by simp
    omega
theorem joined_take_le (b : Bool) (ws : List Wd) (j : Nat) : (joined b (ws.take j)).length ≤ (joined b ws).length := by
  have h : joined b ws = joined b (ws.take j) ++ joined b (ws.drop j) := by
    rw [joined, joined, joined, ← List.flatMap_append, List.take_append_drop]
  rw [h]; simp
end Go.Proofs.Ytgdfjcmjhagmoaa

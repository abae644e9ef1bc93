/- The document's words: plain mathematics; bytes of one's own. -/
import Derived.Test.YtgdfjcmjhagmoaaLyb
import Derived.Test.YtgdfjcmjhagmoaaRfp
import Derived.Lib.AppendStr
import Derived.Laws.IdiomStrings
namespace Go.Proofs.Ytgdfjcmjhagmoaa
open Go.ChangeShapes Go.WideShapes Go.ChangeAt Go.RowKit
theorem words_move (f : Nat) (l : List UInt8) (p q : Nat) (h : p + blk false (l.drop p) = q + blk false (l.drop q)) : wordsF (f + 1) (l.drop p) p = wordsF (f + 1) (l.drop q) q := by
  rw [wordsF_at f l p _ h.symm, wordsF_at f l q _ rfl]
theorem words_word (f : Nat) (l : List UInt8) (p : Nat) (h : blk false (l.drop p) = 0) (hp : p < l.length) :
    wordsF (f + 1) (l.drop p) p = match fstW (l.drop p) with
      | none => .error p
      | some x => (wordsF f (l.drop (p + x.2)) (p + x.2)).map ({ x.1 with at_ := (p : Int) } :: ·) := by
  rw [wordsF_at f l p p (by omega), if_neg (by intro h; have := List.drop_eq_nil_iff.1 h; omega)]
  cases fstW (l.drop p) <;> rfl
theorem txt_step (c : UInt8) (t : List UInt8) (h1 : c ≠ 10) (h2 : c ≠ 39) : txt (c :: t) = (txt t).map fun x => (c :: x.1, x.2 + 1) := by
  cases t with
  | nil => unfold txt; simp [h2]
  | cons d r => rw [txt]; simp [h1, h2]

theorem fst_quote (t : List UInt8) : fstW (39 :: t) = txtW (39 :: t) := by
  rw [fstW_cons (39 :: t) t 39 rfl, if_neg (by decide), if_neg (by decide), if_pos (by decide)]
theorem fst_digit (c : UInt8) (t : List UInt8) (h : (48 ≤ c && c ≤ 57) = true) : fstW (c :: t) = numW (c :: t) := by rw [fstW_cons _ t c rfl, if_pos h]
theorem fst_lower (c : UInt8) (t : List UInt8) (h1 : ¬ (48 ≤ c && c ≤ 57) = true) (h : (97 ≤ c && c ≤ 122) = true) : fstW (c :: t) = namW (c :: t) := by rw [fstW_cons _ t c rfl, if_neg h1, if_pos h]
theorem fst_sign (c : UInt8) (t : List UInt8) (h1 : ¬ (48 ≤ c && c ≤ 57) = true) (h2 : ¬ (97 ≤ c && c ≤ 122) = true) (h3 : c ≠ 39) : fstW (c :: t) = sgnW (c :: t) := by
  rw [fstW_cons _ t c rfl, if_neg h1, if_neg h2, if_neg (by simpa using h3)]
theorem isP_no_sign (c : UInt8) (t : List UInt8) (hp : isP c = true) : sgnW (c :: t) = none := by
  have h1 : ¬ signs.contains c = true := by
    intro h
    simp [signs] at h
    rcases h with rfl | rfl | rfl | rfl | rfl | rfl | rfl | rfl | rfl | rfl | rfl | rfl | rfl | rfl | rfl | rfl | rfl | rfl <;> exact absurd hp (by decide)
  have h2 : ¬ two (c :: t) = true := by
    intro h
    cases t with
    | nil => cases h
    | cons d r =>
      have h3 : (d == 61 && (c == 60 || c == 33 || c == 62)) = true := h
      simp at h3
      rcases h3.2 with (rfl | rfl) | rfl <;> exact absurd hp (by decide)
  unfold sgnW
  rw [if_neg h2, if_neg (show ¬ Option.any (fun x => signs.contains x) (c :: t).head? = true from h1)]
theorem upper_none (c : UInt8) (t : List UInt8) (hp : isP c = true) (h1 : ¬ (48 ≤ c && c ≤ 57) = true) (h2 : ¬ (97 ≤ c && c ≤ 122) = true) : fstW (c :: t) = none := by
  rw [fst_sign c t h1 h2 (by rintro rfl; exact absurd hp (by decide)), isP_no_sign c t hp]
theorem take_run (c : UInt8) (t : List UInt8) (h : isP c = true) : (c :: t).take (runN (c :: t)) = c :: t.take (runN t) := by
  rw [runN_cons, if_pos h, List.take_succ_cons]
theorem upper_nam (c : UInt8) (t : List UInt8) (hp : isP c = true) (h2 : ¬ (97 ≤ c && c ≤ 122) = true) : namB ⟨((c :: t).take (runN (c :: t))).toArray⟩ = false := by
  unfold namB
  rw [take_run c t hp]
  have : letB c = false := by
    unfold letB
    rw [Bool.eq_false_iff]
    intro h
    apply h2
    simp only [Bool.and_eq_true, decide_eq_true_eq, UInt8.le_iff_toNat_le] at h ⊢
    exact h
  simp [this]
theorem digit_neg (c : UInt8) (t : List UInt8) (h : (48 ≤ c && c ≤ 57) = true) : Ar.pneg (c :: t) = false := by
  unfold Ar.pneg
  simp only [List.headD_cons]
  rw [beq_eq_false_iff_ne]
  rintro rfl
  exact absurd h (by decide)
theorem ext_data (s : ByteArray) (p q : Nat) (hpq : p ≤ q) (hq : q ≤ s.size) : s.extract p q = ⟨((s.data.toList.drop p).take (q - p)).toArray⟩ := by
  apply ByteArray.ext
  apply Array.toList_inj.1
  simp
/-- Bytes as cells. -/
def cells8 (l : List UInt8) : List Value := l.map fun b => Value.int .u8 b.toNat
theorem conv_nil (W : World) : (convert 54 9 (.slice none 0 0)).run Try.prog W = .ok (.string ⟨#[]⟩) W := by
  rw [run_convert_bytes_string (P := Try.prog) W 54 9 5 none 0 0 Try.underlying54/-t-/ Try.underlying5/-t-/ Try.underlying9/-t-/]
  rfl
/-- Bytes of one's own; where there are none, there is no slice. -/
def Row8 (w : World) (base : Nat) (v : Value) (l : List UInt8) : Prop := w.ownsRow base 5 1 v l.length (cells8 l) ∧ (l = [] → v = .slice none 0 0)
theorem Row8.conv {w : World} {base : Nat} {v : Value} {l : List UInt8} (h : Row8 w base v l) : (convert 54 9 v).run Try.prog w = .ok (.string ⟨l.toArray⟩) w := by
  by_cases h0 : l = []
  · rw [h.2 h0, h0]; exact conv_nil w
  · have hl : 0 < l.length := List.length_pos_iff.2 h0
    obtain ⟨g, cap, rfl, _, _⟩ := h.1.form hl
    exact run_convert_bytes_back (P := Try.prog) _ 54 9 5 ⟨g, 0, none⟩ cap l Try.underlying54/-t-/ Try.underlying5/-t-/ Try.underlying9/-t-/ (fun j hj => by
      refine h.1.cells (g := g) rfl j _ ?_
      simp [cells8, hj])
theorem row8_snoc {w : World} {B : Nat} {v : Value} {l : List UInt8} {c : UInt8} (h : w.ownsRow B 5 1 v (l.length + 1) (cells8 l ++ [.int .u8 (c.toNat : Int)])) : Row8 w B v (l ++ [c]) := by
  refine ⟨?_, fun h => absurd h (by simp)⟩
  rw [show cells8 (l ++ [c]) = cells8 l ++ [.int .u8 (c.toNat : Int)] from by simp [cells8], List.length_append]
  exact h
/-- What the document's Words answers. -/
def RWordsR (w' : World) (e : Ending) : Except Nat (List Wd) → Prop
  | .error p => e = .returned (.tuple #[.slice none 0 0, .int .i64 (p : Nat)])
  | .ok ws => ∃ A c, e = .returned (.tuple #[.slice A ws.length c, .int .i64 (-1)]) ∧ Wds w' A ws
end Go.Proofs.Ytgdfjcmjhagmoaa

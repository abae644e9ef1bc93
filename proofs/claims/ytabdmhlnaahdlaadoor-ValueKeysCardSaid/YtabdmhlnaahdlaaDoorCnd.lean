/- The value that the document's Unkey tries: plain mathematics. -/
import Derived.Test.YtabdmhlnaahdlaaDoorUnk
namespace Go.Proofs.YtabdmhlnaahdlaaDoor
open Go.ChangeShapes Go.WideShapes Go.ChangeAt Go.RowKit
/-- The text as the document's loop reads it. -/
def rd : List UInt8 → List UInt8
  | [] => []
  | [_] => []
  | c :: d :: l => if c = 0 ∧ d = 1 then [] else if c = 0 then 0 :: rd l else c :: rd (d :: l)
theorem rd_esc (t r : List UInt8) : rd (esc t ++ 0 :: 1 :: r) = t := by
  induction t with
  | nil => simp [esc, rd]
  | cons c t ih =>
    have e : esc (c :: t) = (if c = 0 then [0, 255] else [c]) ++ esc t := rfl
    rw [e]
    by_cases h : c = 0
    · subst h
      rw [if_pos rfl]
      show rd (0 :: 255 :: (esc t ++ 0 :: 1 :: r)) = _
      unfold rd
      rw [ih, if_neg (by simp), if_pos rfl]
    · rw [if_neg h]
      have hne : ∃ d l, esc t ++ 0 :: 1 :: r = d :: l := by
        cases hh : esc t with
        | nil => exact ⟨0, 1 :: r, rfl⟩
        | cons d l => exact ⟨d, l ++ 0 :: 1 :: r, rfl⟩
      obtain ⟨d, l, hdl⟩ := hne
      show rd (c :: (esc t ++ 0 :: 1 :: r)) = _
      rw [hdl]
      unfold rd
      rw [if_neg (fun h2 => h h2.1), if_neg h, ← hdl, ih]
def cand (l : List UInt8) : Option Val :=
  if l.head? = some 1 ∧ 9 ≤ l.length then some ⟨1, (be ((l.drop 1).take 8) : Int) - 9223372036854775808, ⟨#[]⟩⟩
  else if l.head? = some 2 then some ⟨2, 0, ⟨(rd (l.drop 1)).toArray⟩⟩
  else if l.head? = some 3 ∧ 2 ≤ l.length then some ⟨3, (l.getD 1 0).toNat, ⟨#[]⟩⟩
  else none
def okK (l : List UInt8) (x : Val) : Bool := rightB x.k x.n x.s && decide ((keyOf x).length ≤ l.length ∧ l.take (keyOf x).length = keyOf x)
theorem first_is_cand (l : List UInt8) (x : Val) (n : Nat) (h : first l = some (x, n)) : cand l = some x := by
  unfold first at h
  unfold cand
  split at h
  · rename_i hc
    simp only [Option.some.injEq, Prod.mk.injEq] at h
    rw [if_pos hc, h.1]
  · rename_i hc
    rw [if_neg hc]
    split at h
    · rename_i hc2
      rw [if_pos hc2]
      obtain ⟨⟨t, m⟩, h1, h2⟩ := Option.bind_eq_some_iff.1 h
      simp only at h2
      split at h2
      · simp only [Option.some.injEq, Prod.mk.injEq] at h2
        obtain ⟨_, r, hr⟩ := unesc_back _ _ _ h1
        rw [hr, rd_esc, h2.1]
      · cases h2
    · rename_i hc2
      rw [if_neg hc2]
      split at h
      · rename_i hc3
        simp only [Option.some.injEq, Prod.mk.injEq] at h
        rw [if_pos ⟨hc3.1, hc3.2.1⟩, h.1]
      · cases h
theorem cand_fit (l : List UInt8) (x : Val) (h : cand l = some x) (hr : rightB x.k x.n x.s = true) : FitV x := by
  unfold cand at h
  split at h
  · rename_i hc
    obtain rfl := Option.some.inj h
    have hl : ((l.drop 1).take 8).length = 8 := by simp; omega
    have hlt := be_lt ((l.drop 1).take 8)
    rw [hl] at hlt
    have hlt2 : be ((l.drop 1).take 8) < 18446744073709551616 := by simpa using hlt
    exact ⟨by simp, by simp only; omega, by simp [ByteArray.size]⟩
  · split at h
    · obtain rfl := Option.some.inj h
      simp only [rightB_2, Bool.and_eq_true, decide_eq_true_eq] at hr
      exact ⟨by simp, by simp, by simp only; omega⟩
    · split at h
      · obtain rfl := Option.some.inj h
        have := (l.getD 1 0).toNat_lt
        exact ⟨by simp, by simp only; omega, by simp [ByteArray.size]⟩
      · cases h
theorem first_cand (l : List UInt8) : first l = (cand l).bind fun x => if okK l x = true then some (x, (keyOf x).length) else none := by
  cases hf : first l with
  | some r =>
    obtain ⟨x, n⟩ := r
    rw [first_is_cand l x n hf]
    obtain ⟨h1, h2, h3, r, h4⟩ := first_back l x n hf
    have ok : okK l x = true := by
      unfold okK
      rw [h1, Bool.true_and]
      exact decide_eq_true ⟨by rw [h4]; simp, by rw [h4]; simp⟩
    rw [Option.bind_some, if_pos ok, h3]
  | none =>
    cases hc : cand l with
    | none => rfl
    | some x =>
      rw [Option.bind_some]
      by_cases ok : okK l x = true
      · exfalso
        unfold okK at ok
        simp only [Bool.and_eq_true, decide_eq_true_eq] at ok
        obtain ⟨h1, h2, h3⟩ := ok
        have := first_key x (cand_fit l x hc h1) h1 (l.drop (keyOf x).length)
        rw [← h3] at this
        have e : l.take (keyOf x).length ++ l.drop (keyOf x).length = l := List.take_append_drop _ _
        rw [h3] at this e
        rw [e, hf] at this
        cases this
      · rw [if_neg ok]
end Go.Proofs.YtabdmhlnaahdlaaDoor

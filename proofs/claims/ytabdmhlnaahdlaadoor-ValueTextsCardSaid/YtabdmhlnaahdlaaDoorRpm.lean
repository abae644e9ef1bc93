/- What the document's Parse of a print tries, and that it is what package value reads: plain mathematics. -/
import Derived.Test.YtabdmhlnaahdlaaDoorValueBack
namespace Go.Proofs.YtabdmhlnaahdlaaDoor
open Go.ChangeShapes Go.WideShapes Go.ChangeAt Go.RowKit
/-- The text as the document's loop reads it. -/
def qd : List UInt8 → List UInt8
  | [] => []
  | [_] => []
  | c :: d :: l => c :: if c = 39 then qd l else qd (d :: l)
theorem qd_dbl : ∀ t : List UInt8, qd (dbl t ++ [39]) = t
  | [] => rfl
  | c :: t => by
    rw [dbl_cons]
    have ih := qd_dbl t
    by_cases hc : c = 39
    · subst hc
      rw [if_pos rfl]
      show qd (39 :: 39 :: (dbl t ++ [39])) = 39 :: t
      rw [qd, if_pos rfl, ih]
    · rw [if_neg hc]
      show qd (c :: (dbl t ++ [39])) = c :: t
      obtain ⟨d, l, hdl⟩ : ∃ d l, dbl t ++ [39] = d :: l := by
        cases dbl t with
        | nil => exact ⟨39, [], rfl⟩
        | cons d l => exact ⟨d, l ++ [39], rfl⟩
      rw [hdl] at ih ⊢
      rw [qd, if_neg hc, ih]
def rcand (s : ByteArray) : Option Val :=
  if s = sTrue then some ⟨3, 1, ⟨#[]⟩⟩ else if s = sFalse then some ⟨3, 0, ⟨#[]⟩⟩
  else if s.data.toList.head? = some 39 then some ⟨2, 0, ⟨(qd (s.data.toList.drop 1)).toArray⟩⟩
  else if parseE s.data.toList = 0 then some ⟨1, parseV s.data.toList, ⟨#[]⟩⟩ else none
def okP (s : ByteArray) (v : Val) : Bool := rightB v.k v.n v.s && decide (printOf v = s.data.toList)
def parsedR (s : ByteArray) : Option Val := (rcand s).bind fun v => if okP s v = true then some v else none
theorem rcand_fit (s : ByteArray) (v : Val) (h : rcand s = some v) (hr : rightB v.k v.n v.s = true) : FitV v := by
  unfold rcand at h
  split at h
  · obtain rfl := Option.some.inj h
    exact ⟨by simp, by simp, by simp [ByteArray.size]⟩
  · split at h
    · obtain rfl := Option.some.inj h
      exact ⟨by simp, by simp, by simp [ByteArray.size]⟩
    · split at h
      · obtain rfl := Option.some.inj h
        simp only [rightB_2, Bool.and_eq_true, decide_eq_true_eq] at hr
        exact ⟨by simp, by simp, by simp only; omega⟩
      · split at h
        · obtain rfl := Option.some.inj h
          refine ⟨by simp, ?_, by simp [ByteArray.size]⟩
          simp only
          unfold parseV narV
          split
          · split
            · assumption
            · omega
          · omega
        · cases h
theorem rcand_read (s : ByteArray) (hr : rightB (readV s).k (readV s).n (readV s).s = true) (hp : printOf (readV s) = s.data.toList) : rcand s = some (readV s) := by
  by_cases h1 : s = sTrue
  · unfold rcand readV
    rw [if_pos h1, if_pos h1]
  · by_cases h2 : s = sFalse
    · unfold rcand readV
      rw [if_neg h1, if_neg h1, if_pos h2, if_pos h2]
    · by_cases h3 : s.data.toList.head? = some 39
      · have key : (readV s).k = 2 ∧ (readV s).n = 0 := by
          generalize readV s = x at hr hp
          obtain ⟨k, n, t⟩ := x
          simp only at hr ⊢
          by_cases k1 : k = 1
          · subst k1
            exfalso
            have e : printOf ⟨1, n, t⟩ = Lib.itoa n := rfl
            rw [e] at hp
            cases hc : Lib.itoa n with
            | nil => rw [← hp, hc] at h3; cases h3
            | cons c r =>
              rw [← hp, hc] at h3
              exact (ValueBack.itoa_head n r c hc).1 (Option.some.inj h3)
          · by_cases k2 : k = 2
            · subst k2
              rw [rightB_2] at hr
              simp at hr
              exact ⟨rfl, hr.1⟩
            · exfalso
              have e : printOf ⟨k, n, t⟩ = if n = 1 then [116, 114, 117, 101] else [102, 97, 108, 115, 101] := by
                unfold printOf
                rw [if_neg k1, if_neg k2]
              rw [e] at hp
              rw [← hp] at h3
              split at h3 <;> simp at h3
        have e : rcand s = some ⟨2, 0, ⟨(qd (s.data.toList.drop 1)).toArray⟩⟩ := by
          unfold rcand
          rw [if_neg h1, if_neg h2, if_pos h3]
        rw [e]
        generalize readV s = x at hp key
        obtain ⟨k, n, t⟩ := x
        simp only at key
        obtain ⟨rfl, rfl⟩ := key
        have e2 : printOf ⟨2, 0, t⟩ = 39 :: (dbl t.data.toList ++ [39]) := rfl
        rw [e2] at hp
        rw [← hp]
        show some (⟨2, 0, ⟨(qd (dbl t.data.toList ++ [39])).toArray⟩⟩ : Val) = _
        rw [qd_dbl]
      · have e : readV s = if parseE s.data.toList = 0 then ⟨1, parseV s.data.toList, ⟨#[]⟩⟩ else ⟨0, 0, ⟨#[]⟩⟩ := by
          unfold readV
          rw [if_neg h1, if_neg h2, if_neg (fun h => h3 h.2)]
        have e0 : parseE s.data.toList = 0 := by
          apply Classical.byContradiction
          intro hne
          rw [e, if_neg hne] at hr
          revert hr
          simp [rightB]
        rw [e, if_pos e0]
        unfold rcand
        rw [if_neg h1, if_neg h2, if_neg h3, if_pos e0]
theorem parsedR_eq (s : ByteArray) : parsedR s = if parsedB s = true then some (readV s) else none := by
  by_cases hb : parsedB s = true
  · rw [if_pos hb]
    unfold parsedB at hb
    simp only [Bool.and_eq_true, decide_eq_true_eq] at hb
    obtain ⟨hne, hp⟩ := hb
    unfold printed at hp
    by_cases hr : rightB (readV s).k (readV s).n (readV s).s = true
    · rw [if_pos hr] at hp
      unfold parsedR
      rw [rcand_read s hr hp, Option.bind_some, if_pos]
      unfold okP
      rw [hr, Bool.true_and]
      exact decide_eq_true hp
    · rw [if_neg hr] at hp
      exact absurd (ByteArray.ext (Array.toList_inj.1 hp.symm)) hne
  · rw [if_neg hb]
    unfold parsedR
    cases hc : rcand s with
    | none => rfl
    | some v =>
      rw [Option.bind_some]
      by_cases hok : okP s v = true
      · exfalso
        unfold okP at hok
        simp only [Bool.and_eq_true, decide_eq_true_eq] at hok
        have := ValueBack.parsed_print v (rcand_fit s v hc hok.1) hok.1
        rw [hok.2] at this
        exact hb this
      · rw [if_neg hok]
end Go.Proofs.YtabdmhlnaahdlaaDoor

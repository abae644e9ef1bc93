/- Contracts of package lex: whether the word is one of some. -/
import Derived.Test.YtgdfjcmjhagmoaaLxo
namespace Go.Proofs.Ytgdfjcmjhagmoaa
open Go.ChangeShapes Go.WideShapes Go.ChangeAt Go.RowKit
/-- Where the first text stands that is the word's, or -1. -/
def isIx (x : Wd) : List ByteArray → Nat → Int
  | [], _ => -1
  | t :: r, k => if saysB x t then (k : Int) else isIx x r (k + 1)
theorem isIx_any (x : Wd) : ∀ (l : List ByteArray) (k : Nat), decide ((0 : Int) ≤ isIx x l k) = l.any (saysB x)
  | [], k => rfl
  | t :: r, k => by
    unfold isIx
    cases h : saysB x t with
    | true => simp [h]
    | false => rw [if_neg (by decide), isIx_any x r (k + 1)]; simp [h]
set_option maxRecDepth 100000 in
set_option maxHeartbeats 8000000 in
theorem index_any (x : Wd) (A : Option Addr) (n c : Nat) (ss : List ByteArray) (w : World) (hA : Txts w A ss) (hn : ss.length = n) (hs : n ≤ 9223372036854775807) :
    Calls Try.prog 37/-f-/ #[.slice A n c, .func (.func 29) #[wdV x] #[]] w fun e w' => e = .returned (.int .i64 (isIx x ss 0)) ∧ Below w.heap.size w w' := by
  subst hn
  obtain ⟨R, hR⟩ : ∃ R, R = isIx x ss 0 := ⟨_, rfl⟩
  rw [← hR]
  have HR := Lib.hid hR
  have HA := Lib.hid hA
  clear hR hA
  have HS := Lib.hid (fun t W => says_any x t W)
  generalize wdV x = xv at *
  go_enter Try.func37, Try.ntmps37
  go_wp2
  go_loopw [8] (fun i wr => ∃ k : Nat, k ≤ ss.length ∧ i = .int .i64 k ∧ Hid (Below w.heap.size w wr) ∧ Hid (R = isIx x (ss.drop k) k)) (fun i _ => ss.length - (intOf i).toNat)
  case atStart => exact ⟨0, Nat.zero_le _, rfl, Lib.hid (Below.refl _ _), Lib.hid (by rw [HR.out, List.drop_zero])⟩
  case round =>
    obtain ⟨k, hk, rfl, hbl, heq⟩ := hrel
    have hsz := hbl.out.size
    by_cases hlt : k < ss.length
    · obtain ⟨b, off, rfl, hb, hc⟩ : ∃ b off, A = some ⟨b, off, none⟩ ∧ b < w.heap.size ∧ wr.cell? ⟨b, off + k, none⟩ = some (.string (ss.getD k default)) := by
        rcases HA.out with h | ⟨b, off, h1, h2, h3⟩
        · rw [h] at hlt; simp at hlt
        · exact ⟨b, off, h1, h2, (hbl.out.cell (p := ⟨b, off + k, none⟩) h2).trans (h3 k hlt)⟩
      have HE := heq.out
      rw [List.drop_eq_getElem_cons hlt, show ss[k] = ss.getD k default from by simp [List.getD, hlt]] at HE
      unfold isIx at HE
      generalize ss.getD k default = t at *
      have S' := fun W => HS.out t W
      cases hq : saysB x t with
      | true =>
        rw [hq] at S' HE
        rw [if_pos rfl] at HE
        have S := Lib.hid S'
        have HX := Lib.hid HE
        clear S' HE hq
        go_wp2_with (go_at_call 29/-f-/; (with_reducible refine (S.out _).mono ?_); rintro e w2 ⟨rfl, hb2⟩; have HB2 := Lib.hid (hbl.out.trans (hb2.mono hsz)); clear hb2)
        go_ret
        exact ⟨ret_int (by rw [HX.out]), HB2.out⟩
      | false =>
        rw [hq] at S' HE
        rw [if_neg (by decide)] at HE
        have S := Lib.hid S'
        have HX := Lib.hid HE
        clear S' HE hq
        go_wp2_with (go_at_call 29/-f-/; (with_reducible refine (S.out _).mono ?_); rintro e w2 ⟨rfl, hb2⟩; have HB2 := Lib.hid (hbl.out.trans (hb2.mono hsz)); clear hb2)
        go_roundw
        case rel => exact ⟨k + 1, hlt, by go_num, HB2, HX⟩
        case measure => simp [intOf]; omega
    · have hkl : k = ss.length := by omega
      have HX := Lib.hid (show R = -1 from by rw [heq.out, hkl, List.drop_length]; rfl)
      subst hkl
      go_wp2
      go_ret
      exact ⟨ret_int (by rw [HX.out]), hbl.out⟩
set_option maxRecDepth 100000 in
theorem contains_any (x : Wd) (A : Option Addr) (n c : Nat) (ss : List ByteArray) (w : World) (hA : Txts w A ss) (hn : ss.length = n) (hs : n ≤ 9223372036854775807) :
    Calls Try.prog 28/-f-/ #[.slice A n c, .func (.func 29) #[wdV x] #[]] w fun e w' => e = .returned (.bool (ss.any (saysB x))) ∧ Below w.heap.size w w' := by
  have I := Lib.hid (index_any x A n c ss w hA hn hs)
  rw [← isIx_any x ss 0]
  generalize isIx x ss 0 = R at *
  generalize wdV x = xv at *
  clear hA
  go_enter Try.func28, Try.ntmps28
  go_wp2_with (go_at_call 37/-f-/; (with_reducible refine I.out.mono ?_); rintro e w2 ⟨rfl, hb2⟩; have HB2 := Lib.hid hb2; clear hb2)
  go_ret
  exact ⟨rfl, HB2.out⟩
end Go.Proofs.Ytgdfjcmjhagmoaa

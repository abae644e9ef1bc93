/- Contracts of package lex: Is; Take where no cursor is. -/
import Derived.Test.YtgdfjcmjhagmoaaLxp
namespace Go.Proofs.Ytgdfjcmjhagmoaa
open Go.ChangeShapes Go.WideShapes Go.ChangeAt Go.RowKit
theorem Txts.keep {w w' : World} {A : Option Addr} {ss : List ByteArray} (h : Txts w A ss) (hb : Below w.heap.size w w') : Txts w' A ss := by
  rcases h with h | ⟨b, off, h1, h2, h3⟩
  · exact .inl h
  · exact .inr ⟨b, off, h1, Nat.lt_of_lt_of_le h2 hb.size, fun i hi => (hb.cell (p := ⟨b, off + i, none⟩) h2).trans (h3 i hi)⟩
set_option maxRecDepth 100000 in
set_option maxHeartbeats 4000000 in
theorem is_of (v : Value) (x : Wd) (A : Option Addr) (n c : Nat) (ss : List ByteArray) (w : World) (hA : Txts w A ss) (hn : ss.length = n) (hs : n ≤ 9223372036854775807)
    (h : Calls Try.prog 15/-f-/ #[v] w fun e w' => e = .returned (wdV x) ∧ Below w.heap.size w w') :
    Calls Try.prog 16/-f-/ #[v, .slice A n c] w fun e w' => e = .returned (.bool (ss.any (saysB x))) ∧ Below w.heap.size w w' := by
  have HW := Lib.hid h
  have C := Lib.hid (fun W h => contains_any x A n c ss W h hn hs)
  have HA := Lib.hid hA
  clear h hA hn
  generalize ss.any (saysB x) = R at *
  generalize wdV x = xv at *
  go_enter Try.func16, Try.ntmps16
  go_wp2_with (first
    | (go_at_call 15/-f-/; (with_reducible refine HW.out.mono ?_); rintro e w2 ⟨rfl, hb2⟩; have HB2 := Lib.hid hb2; clear hb2)
    | (go_at_call 28/-f-/; (with_reducible refine (C.out _ (HA.out.keep HB2.out)).mono ?_); rintro e w3 ⟨rfl, hb3⟩; have HB3 := Lib.hid (HB2.out.trans (hb3.mono HB2.out.size)); clear hb3))
  go_ret
  exact ⟨rfl, HB3.out⟩
theorem says_end (z : Int) (t : ByteArray) : saysB ⟨4, ⟨#[]⟩, 0, z⟩ t = false := rfl
set_option maxRecDepth 100000 in
set_option maxHeartbeats 4000000 in
theorem take_nil (A : Option Addr) (n c : Nat) (ss : List ByteArray) (w : World) (hA : Txts w A ss) (hn : ss.length = n) (hs : n ≤ 9223372036854775807) :
    Calls Try.prog 17/-f-/ #[.pointer none, .slice A n c] w fun e w' => e = .returned (.bool false) ∧ Below w.heap.size w w' := by
  subst hn
  have HA := Lib.hid hA
  clear hA
  have AH := Lib.hid (show ∀ W, Calls Try.prog 27/-f-/ #[.pointer none, .int .i64 0] W fun e w' => e = .returned (.agg #[.int .i64 4, .string ⟨#[]⟩, .int .i64 0, .int .i64 0]) ∧ Below W.heap.size W w' from fun W => ahead_nil W 0)
  have SY := Lib.hid (show ∀ t W, Calls Try.prog 29/-f-/ #[.agg #[.int .i64 4, .string ⟨#[]⟩, .int .i64 0, .int .i64 0], .string t] W fun e w' => e = .returned (.bool false) ∧ Below W.heap.size W w' from fun t W => says_any ⟨4, ⟨#[]⟩, 0, 0⟩ t W)
  go_enter Try.func17, Try.ntmps17
  go_wp2
  go_loopw [9] (fun i wr => i = .int .i64 0 ∧ wr = w) (fun _ _ => 0)
  case atStart => exact ⟨rfl, rfl⟩
  case round =>
    obtain ⟨rfl, rfl⟩ := hrel
    by_cases hlt : 0 < ss.length
    · obtain ⟨b, off, rfl, hb, hc⟩ : ∃ b off, A = some ⟨b, off, none⟩ ∧ b < wr.heap.size ∧ wr.cell? ⟨b, off, none⟩ = some (.string (ss.getD 0 default)) := by
        rcases HA.out with h | ⟨b, off, h1, h2, h3⟩
        · rw [h] at hlt; simp at hlt
        · exact ⟨b, off, h1, h2, h3 0 hlt⟩
      generalize ss.getD 0 default = t at *
      go_wp2_with (first
        | (go_at_call 27/-f-/; (with_reducible refine (AH.out _).mono ?_); rintro e w2 ⟨rfl, hb2⟩; have HB2 := Lib.hid hb2; clear hb2)
        | (go_at_call 29/-f-/; (with_reducible refine (SY.out _ _).mono ?_); rintro e w3 ⟨rfl, hb3⟩; have HB3 := Lib.hid (HB2.out.trans (hb3.mono HB2.out.size)); clear hb3))
      go_ret
      exact ⟨rfl, HB3.out⟩
    · have h0 : ss.length = 0 := by omega
      go_wp2
      go_ret
      exact ⟨rfl, Below.refl _ _⟩
end Go.Proofs.Ytgdfjcmjhagmoaa

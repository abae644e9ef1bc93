/- Contracts of package schema: whether texts are names. -/
import Derived.Test.YtgdfjcmjhagmoaaNan
namespace Go.Proofs.Ytgdfjcmjhagmoaa
open Go.ChangeShapes Go.WideShapes Go.ChangeAt Go.RowKit
theorem getD_in {α : Type} [Inhabited α] (l : List α) (k : Nat) (h : k < l.length) : l.getD k default ∈ l := by simp [List.getD, List.getElem?_eq_getElem h]
theorem all_fail {α : Type} [Inhabited α] (f : α → Bool) (l : List α) (k : Nat) (h : k < l.length) (hf : f (l.getD k default) = false) : l.all f = false := by
  rw [List.all_eq_false]
  exact ⟨l.getD k default, by simp [List.getD, List.getElem?_eq_getElem h], by rw [hf]; exact Bool.false_ne_true⟩
theorem all_take {α : Type} [Inhabited α] (f : α → Bool) (l : List α) (k : Nat) (h : k < l.length) : (l.take (k + 1)).all f = ((l.take k).all f && f (l.getD k default)) := by
  rw [List.take_succ_eq_append_getElem h, List.all_append]
  simp [List.getD, List.getElem?_eq_getElem h]
/-- A slice reads as texts. -/
def Txts (w : World) (A : Option Addr) (ss : List ByteArray) : Prop :=
  ss = [] ∨ ∃ b off, A = some ⟨b, off, none⟩ ∧ b < w.heap.size ∧ ∀ i (_ : i < ss.length), w.cell? ⟨b, off + i, none⟩ = some (.string (ss.getD i default))
set_option maxRecDepth 100000 in
set_option maxHeartbeats 8000000 in
theorem namedv_any (A : Option Addr) (n c : Nat) (ss : List ByteArray) (w : World) (hA : Txts w A ss) (hn : ss.length = n) (hs : n ≤ 1000000) (hz : ∀ s ∈ ss, s.size ≤ 9223372036854775807) :
    Calls Try.prog 41/-f-/ #[.slice A n c] w fun e w' => e = .returned (.bool (ss.all namB)) ∧ w = w' := by
  subst hn
  obtain ⟨r, hr⟩ : ∃ r, r = ss.all namB := ⟨_, rfl⟩
  rw [← hr]
  have HR := Lib.hid hr
  have HA := Lib.hid hA
  have HZ := Lib.hid hz
  clear hr hA hz
  go_enter Try.func41, Try.ntmps41
  go_wp2
  go_loop [4, 7] (fun _ i => ∃ k : Nat, k ≤ ss.length ∧ i = .int .i64 k ∧ Hid ((ss.take k).all namB = true)) (fun _ i => ss.length - (intOf i).toNat)
  case atStart => exact ⟨0, Nat.zero_le _, rfl, Lib.hid rfl⟩
  case round =>
    obtain ⟨k, hk, rfl, hall⟩ := hrel
    by_cases hlt : k < ss.length
    · rcases HA.out with h | ⟨b, off, rfl, hbw, hcell⟩
      · subst h; simp at hlt
      have x0 := hcell k hlt
      have HT := Lib.hid (all_take namB ss k hlt)
      have HN := Lib.hid (all_fail namB ss k hlt)
      have hzx := HZ.out _ (getD_in ss k hlt)
      clear hcell
      generalize ss.getD k default = x at *
      have C := Lib.hid (fun W => named_any x W hzx)
      obtain ⟨q, hq⟩ : ∃ q, q = namB x := ⟨_, rfl⟩
      rw [← hq] at C
      have HQ := Lib.hid hq
      clear hq
      cases q with
      | false =>
        have HX := Lib.hid (show r = false from by rw [HR.out, HN.out HQ.out.symm])
        go_wp2_with (go_at_call 53/-f-/; (with_reducible refine (C.out _).mono ?_); rintro e w1 ⟨rfl, rfl⟩)
        go_ret
        exact ⟨ret_bool HX.out.symm, rfl⟩
      | true =>
        go_wp2_with (go_at_call 53/-f-/; (with_reducible refine (C.out _).mono ?_); rintro e w1 ⟨rfl, rfl⟩)
        go_round
        case rel => exact ⟨k + 1, by omega, by go_num, Lib.hid (by rw [HT.out, hall.out, ← HQ.out]; rfl)⟩
        case measure => simp [intOf]; omega
    · have hkl : k = ss.length := by omega
      subst hkl
      rw [List.take_length] at hall
      have HX := Lib.hid (show r = true from by rw [HR.out, hall.out])
      go_wp2
      go_ret
      exact ⟨ret_bool HX.out.symm, rfl⟩
end Go.Proofs.Ytgdfjcmjhagmoaa

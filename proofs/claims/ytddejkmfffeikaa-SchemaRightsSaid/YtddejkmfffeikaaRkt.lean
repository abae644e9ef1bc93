/- Contract of the document's Keys of a right row. -/
import Derived.Test.YtddejkmfffeikaaRky
import Derived.Test.YtddejkmfffeikaaRwz
import Derived.Test.YtddejkmfffeikaaKpw
namespace Go.Proofs.Ytddejkmfffeikaa
open Go.ChangeShapes Go.WideShapes Go.ChangeAt Go.RowKit
set_option maxRecDepth 100000 in
set_option maxHeartbeats 8000000 in
theorem refkeys_any (A : Option Addr) (n c : Nat) (vs : List Val) (w : World) (hA : Vals w A vs) (hn : vs.length = n) (hf : ∀ x ∈ vs, FitV x) (hs : n ≤ 1000) (hz : ∀ x ∈ vs, x.s.size ≤ 300) (hr : rall vs = true) :
    Calls Try.prog 47/-f-/ #[.slice A n c] w fun e w' => e = .returned (.string ⟨(keysOf vs).toArray⟩) ∧ Below w.heap.size w w' := by
  subst hn
  have HA := Lib.hid hA
  have HF := Lib.hid hf
  have HZ := Lib.hid hz
  have HR := Lib.hid (show ∀ x ∈ vs, rightB x.k x.n x.s = true from by
    unfold rall at hr
    exact fun x hx => List.all_eq_true.1 hr x hx)
  clear hA hf hz hr
  go_enter Try.func47/-f-/, Try.ntmps47/-f-/
  go_wp2
  go_loopw [3, 4] (fun v i wr => ∃ k : Nat, k ≤ vs.length ∧ i = .int .i64 k ∧ Below w.heap.size w wr ∧ v = .string ⟨(keysOf (vs.take k)).toArray⟩) (fun _ i _ => vs.length - (intOf i).toNat)
  case atStart => exact ⟨0, Nat.zero_le _, rfl, Below.refl _ _, rfl⟩
  case round =>
    obtain ⟨k, hk, rfl, hbl, rfl⟩ := hrel
    have hsz := hbl.size
    by_cases hlt : k < vs.length
    · obtain ⟨b1, o1, rfl, hb1, hz1, x0, x1, x2⟩ := HA.out.at_ hbl k hlt
      have HT := Lib.hid (keysOf_take vs k hlt)
      have RK := Lib.hid (fun W => refkey_any (vs.getD k default) W (HF.out _ (getD_mem vs k hlt)) (HR.out _ (getD_mem vs k hlt)))
      have l1 := keysOf_len (vs.take k) (fun x hx => HZ.out x (List.mem_of_mem_take hx))
      have l2 := keyOf_len (vs.getD k default) (HZ.out _ (getD_mem vs k hlt))
      have l3 : (vs.take k).length = k := by rw [List.length_take]; omega
      generalize vs.getD k default = x at *
      obtain ⟨L, hL⟩ : ∃ L, L = keysOf (vs.take k) := ⟨_, rfl⟩
      rw [← hL] at l1 HT
      rw [← hL]
      clear hL
      have hll : L.length ≤ 700000 := by omega
      clear l1 l3
      go_wp2_with (go_at_call 63/-f-/; (with_reducible refine (RK.out _).mono ?_); rintro e w2 ⟨rfl, hb2⟩)
      go_roundw
      case rel => exact ⟨k + 1, hlt, by go_num, hbl.trans (hb2.mono hsz), by rw [HT.out]; exact congrArg Value.string (app_mk L (keyOf x))⟩
      case measure => simp [intOf]; omega
    · obtain rfl : k = vs.length := by omega
      rw [List.take_length]
      go_wp2
      go_ret
      exact ⟨rfl, hbl⟩
end Go.Proofs.Ytddejkmfffeikaa

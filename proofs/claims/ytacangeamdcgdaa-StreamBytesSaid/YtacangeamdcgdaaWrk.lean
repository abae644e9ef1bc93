/- Contracts of package codec: the writer's signed numbers, texts and values. -/
import Derived.Test.YtacangeamdcgdaaWrj
namespace Go.Proofs.Ytacangeamdcgdaa
open Go.ChangeShapes Go.WideShapes Go.ChangeAt Go.RowKit
def signedsW (xs : List Int) : List UInt8 := xs.flatMap fun x => num (zig x)
theorem signedsW_take (xs : List Int) (k : Nat) (h : k < xs.length) : signedsW (xs.take (k + 1)) = signedsW (xs.take k) ++ num (zig (xs.getD k 0)) := by
  unfold signedsW
  rw [List.take_succ_eq_append_getElem h, List.flatMap_append]
  simp [List.getD, h]
theorem wsigned_nil (v : Value) (w : World) : Calls Try.prog 107/-f-/ #[.pointer none, v] w fun e w' => e = .returned (.pointer none) ∧ w = w' := by
  go_enter Try.func107, Try.ntmps107
  go_wp2
  go_ret
  exact ⟨rfl, rfl⟩
set_option maxHeartbeats 4000000 in
theorem wsigned_any (g base : Nat) (l : List UInt8) (A : Option Addr) (n c : Nat) (xs : List Int) (w : World) (h : Wr w g base l) (hA : Ints w .i64 A xs) (hS : xs ≠ [] → Safe w base g A) (hn : xs.length = n) (hf : Fit64 xs) (hb : base ≤ w.heap.size) (hl : l.length ≤ 500000000) (hs : n ≤ 1000000) :
    Calls Try.prog 107/-f-/ #[.pointer (some ⟨g, 0, none⟩), .slice A n c] w fun e w' => e = .returned (.pointer (some ⟨g, 0, none⟩)) ∧ Laid g base (l ++ signedsW xs) w w' := by
  subst hn
  have HL0 := Lib.hid (Laid.refl h)
  have HA := Lib.hid hA
  have HS := Lib.hid hS
  have HF := Lib.hid hf
  clear h hA hS hf
  go_enter Try.func107, Try.ntmps107
  go_wp2
  go_loopw [6, 11] (fun _ i wr => ∃ k : Nat, k ≤ xs.length ∧ i = .int .i64 k ∧ Laid g base (l ++ signedsW (xs.take k)) w wr) (fun _ i _ => xs.length - (intOf i).toNat)
  case atStart => exact ⟨0, Nat.zero_le _, rfl, by simpa [signedsW] using HL0.out⟩
  case round =>
    obtain ⟨k, hk, rfl, hlaid⟩ := hrel
    have hbs := hlaid.base hb
    have HLD := Lib.hid hlaid
    by_cases hlt : k < xs.length
    · rcases HA.out with h | ⟨b, off, rfl, hbw, hcell⟩
      · subst h; simp at hlt
      have x0 := (hlaid.cell (HS.out (by rintro rfl; simp at hlt)) (off + k)).trans (hcell k hlt)
      have hbw2 : b < wr.heap.size := Nat.lt_of_lt_of_le hbw hlaid.below.size
      have HT := Lib.hid (signedsW_take xs k hlt)
      have hfx := HF.out.at_ k
      have hll : (l ++ signedsW (xs.take k)).length ≤ 600000000 := by
        rw [List.length_append]
        have := flat_len (fun x : Int => num (zig x)) 9 (xs.take k) (fun x hx => num_len9 _ (by have := zig_lt x (HF.out x (List.mem_of_mem_take hx)).1 (HF.out x (List.mem_of_mem_take hx)).2; omega))
        have h2 : (xs.take k).length ≤ k := List.length_take_le _ _
        unfold signedsW; omega
      clear hlaid hcell
      generalize xs.getD k 0 = x at *
      have HZ := Lib.hid (show bits .xor .u64 (IntKind.u64.wrap (wrap64 (x * 2))) (IntKind.u64.wrap (x / 9223372036854775808)) = (zig x : Nat) from by rw [← IntWalk.i64_left]; exact zig_bits x hfx.1 hfx.2)
      have HZL := Lib.hid (zig_lt x hfx.1 hfx.2)
      go_wp2_with fail
      rw [HZ.out]
      refine (natural_any g base _ (zig x) _ HLD.out.wr (by have := HZL.out; omega) (by assumption) (by omega)).mono ?_
      rintro e w1 ⟨rfl, hl1⟩
      go_wp2
      go_roundw
      case rel => exact ⟨k + 1, by omega, by go_num, by rw [HT.out, ← List.append_assoc]; exact HLD.out.trans hl1⟩
      case measure => simp [intOf]; omega
    · have hkl : k = xs.length := by omega
      subst hkl
      rw [List.take_length] at HLD
      go_wp2
      go_ret
      exact ⟨rfl, HLD.out⟩
end Go.Proofs.Ytacangeamdcgdaa

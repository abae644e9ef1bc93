/- Contracts of package codec: the writer's numbers and texts. -/
import Derived.Test.YtacangeamdcgdaaWri
namespace Go.Proofs.Ytacangeamdcgdaa
open Go.ChangeShapes Go.WideShapes Go.ChangeAt Go.RowKit
/-- Laying does not touch what lies there. -/
def Safe (w : World) (base g : Nat) (A : Option Addr) : Prop := ∀ b off, A = some ⟨b, off, none⟩ → b < base ∨ ∃ t cs, Blk w b t cs ∧ t ≠ 5 ∧ b ≠ g
theorem Laid.cell {g base : Nat} {l : List UInt8} {w w' : World} (h : Laid g base l w w') {b off : Nat} (hs : Safe w base g (some ⟨b, off, none⟩)) (i : Nat) : w'.cell? ⟨b, i, none⟩ = w.cell? ⟨b, i, none⟩ := by
  rcases hs b off rfl with h1 | ⟨t, cs, h1, h2, h3⟩
  · exact h.below.cell (p := ⟨b, i, none⟩) h1
  · rw [(h.kept b t cs h3 h2 h1).cell, h1.cell]
theorem Safe.laid {g base : Nat} {l : List UInt8} {w w' : World} {A : Option Addr} (hs : Safe w base g A) (h : Laid g base l w w') : Safe w' base g A := by
  intro b off hA
  rcases hs b off hA with h1 | ⟨t, cs, h1, h2, h3⟩
  · exact .inl h1
  · exact .inr ⟨t, cs, h.kept b t cs h3 h2 h1, h2, h3⟩
theorem natural_z (g base : Nat) (l : List UInt8) (z : Int) (w : World) (h : Wr w g base l) (h0 : 0 ≤ z) (h1 : z < 18446744073709551616) (hb : base ≤ w.heap.size) (hl : l.length ≤ 1000000000) :
    Calls Try.prog 78/-f-/ #[.pointer (some ⟨g, 0, none⟩), .int .u64 z] w fun e w' => e = .returned (.tuple #[]) ∧ Laid g base (l ++ num z.toNat) w w' := by
  have := natural_any g base l z.toNat w h (by omega) hb hl
  rw [Int.toNat_of_nonneg h0] at this
  exact this
def sizesW (xs : List Int) : List UInt8 := xs.flatMap fun x => num x.toNat
theorem sizesW_take (xs : List Int) (k : Nat) (h : k < xs.length) : sizesW (xs.take (k + 1)) = sizesW (xs.take k) ++ num (xs.getD k 0).toNat := by
  unfold sizesW
  rw [List.take_succ_eq_append_getElem h, List.flatMap_append]
  simp [List.getD, h]
theorem num_len9 (n : Nat) (h : n < 18446744073709551616) : (num n).length ≤ 9 := num_len n (by omega)
theorem flat_len {α : Type} (f : α → List UInt8) (m : Nat) (xs : List α) (h : ∀ x ∈ xs, (f x).length ≤ m) : (xs.flatMap f).length ≤ m * xs.length := by
  induction xs with
  | nil => simp
  | cons x r ih =>
    have := ih fun y hy => h y (by simp [hy])
    have h2 := h x (by simp)
    rw [List.flatMap_cons, List.length_append, List.length_cons, Nat.mul_add]
    omega
theorem size_nil (v : Value) (w : World) : Calls Try.prog 60/-f-/ #[.pointer none, v] w fun e w' => e = .returned (.pointer none) ∧ w = w' := by
  go_enter Try.func60, Try.ntmps60
  go_wp2
  go_ret
  exact ⟨rfl, rfl⟩
theorem text_nil (v : Value) (w : World) : Calls Try.prog 108/-f-/ #[.pointer none, v] w fun e w' => e = .returned (.pointer none) ∧ w = w' := by
  go_enter Try.func108, Try.ntmps108
  go_wp2
  go_ret
  exact ⟨rfl, rfl⟩
theorem value_nil (v : Value) (w : World) : Calls Try.prog 97/-f-/ #[.pointer none, v] w fun e w' => e = .returned (.pointer none) ∧ w = w' := by
  go_enter Try.func97, Try.ntmps97
  go_wp2
  go_ret
  exact ⟨rfl, rfl⟩
set_option maxHeartbeats 4000000 in
theorem size_any (g base : Nat) (l : List UInt8) (A : Option Addr) (n c : Nat) (xs : List Int) (w : World) (h : Wr w g base l) (hA : Ints w .i64 A xs) (hS : xs ≠ [] → Safe w base g A) (hn : xs.length = n) (hf : Fit64 xs) (hb : base ≤ w.heap.size) (hl : l.length ≤ 500000000) (hs : n ≤ 1000000) :
    Calls Try.prog 60/-f-/ #[.pointer (some ⟨g, 0, none⟩), .slice A n c] w fun e w' => e = .returned (.pointer (some ⟨g, 0, none⟩)) ∧ Laid g base (l ++ sizesW xs) w w' := by
  subst hn
  have HL0 := Lib.hid (Laid.refl h)
  have HA := Lib.hid hA
  have HS := Lib.hid hS
  have HF := Lib.hid hf
  clear h hA hS hf
  go_enter Try.func60, Try.ntmps60
  go_wp2
  go_loopw [6, 11] (fun _ i wr => ∃ k : Nat, k ≤ xs.length ∧ i = .int .i64 k ∧ Laid g base (l ++ sizesW (xs.take k)) w wr) (fun _ i _ => xs.length - (intOf i).toNat)
  case atStart => exact ⟨0, Nat.zero_le _, rfl, by simpa [sizesW] using HL0.out⟩
  case round =>
    obtain ⟨k, hk, rfl, hlaid⟩ := hrel
    have hbs := hlaid.base hb
    have HLD := Lib.hid hlaid
    by_cases hlt : k < xs.length
    · rcases HA.out with h | ⟨b, off, rfl, hbw, hcell⟩
      · subst h; simp at hlt
      have x0 := (hlaid.cell (HS.out (by rintro rfl; simp at hlt)) (off + k)).trans (hcell k hlt)
      have hbw2 : b < wr.heap.size := Nat.lt_of_lt_of_le hbw hlaid.below.size
      have HT := Lib.hid (sizesW_take xs k hlt)
      have hfx := HF.out.at_ k
      have hll : (l ++ sizesW (xs.take k)).length ≤ 600000000 := by
        rw [List.length_append]
        have := flat_len (fun x : Int => num x.toNat) 9 (xs.take k) (fun x hx => num_len9 _ (by have := (HF.out x (List.mem_of_mem_take hx)).2; omega))
        have h2 : (xs.take k).length ≤ k := List.length_take_le _ _
        unfold sizesW; omega
      clear hlaid hcell
      generalize xs.getD k 0 = x at *
      by_cases hx : 0 ≤ x
      · have hw : IntKind.u64.wrap x = x := by rw [IntKind.wrap_u64]; omega
        have hmx : max x 0 = x := by omega
        go_wp2_with (go_at_call 78/-f-/; refine (natural_z g base _ _ _ HLD.out.wr (by omega) (by omega) (by assumption) (by omega)).mono ?_; rintro e w1 ⟨rfl, hl1⟩)
        go_roundw
        case rel => exact ⟨k + 1, by omega, by go_num, by rw [HT.out, ← List.append_assoc]; exact HLD.out.trans hl1⟩
        case measure => simp [intOf]; omega
      · have hw : IntKind.u64.wrap 0 = 0 := by decide
        have hmx : max x 0 = 0 := by omega
        have hx2 : x < 0 := by omega
        have hx3 : x.toNat = 0 := by omega
        rw [hx3] at HT
        clear hx3
        go_wp2_with (go_at_call 78/-f-/; refine (natural_z g base _ _ _ HLD.out.wr (by omega) (by omega) (by assumption) (by omega)).mono ?_; rintro e w1 ⟨rfl, hl1⟩)
        go_roundw
        case rel => exact ⟨k + 1, by omega, by go_num, by rw [HT.out, ← List.append_assoc]; exact HLD.out.trans hl1⟩
        case measure => simp [intOf]; omega
    · have hkl : k = xs.length := by omega
      subst hkl
      rw [List.take_length] at HLD
      go_wp2
      go_ret
      exact ⟨rfl, HLD.out⟩
end Go.Proofs.Ytacangeamdcgdaa

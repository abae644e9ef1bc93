/- Contracts of the reference for package calc (affluxref01): sums, differences and products of lists of digits. -/
import Derived.Test.YtgdfjcmjhagmoaaRefA
import Derived.RegionTactic
import Derived.Deep.QuietTactic
import Derived.Deep.RegionWith
namespace Go.Proofs.Ytgdfjcmjhagmoaa
open Go.ChangeShapes Go.WideShapes Go.ChangeAt Go.RowKit
open Ar (val Dig Canon)
theorem Ints.at_ {w : World} {k : IntKind} {A : Option Addr} {xs : List Int} (h : Ints w k A xs) {i : Nat} (hi : i < xs.length) :
    ∃ b off, A = some ⟨b, off, none⟩ ∧ b < w.heap.size ∧ w.cell? ⟨b, off + i, none⟩ = some (.int k (xs.getD i 0)) := by
  rcases h with rfl | ⟨b, off, h1, h2, h3⟩
  · simp at hi
  · exact ⟨b, off, h1, h2, h3 i hi⟩
set_option maxRecDepth 100000 in
set_option maxHeartbeats 400000 in
theorem less_digits (A B : Option Addr) (n c m d : Nat) (X Y : List Int) (w : World) (hA : Ints w .i64 A X) (hB : Ints w .i64 B Y) (hn : X.length = n) (hm : Y.length = m) (hs : n ≤ 1000000) (hs' : m ≤ 1000000)
    (hX : Dig X) (hY : Dig Y) (cX : Canon X) (cY : Canon Y) :
    Calls Try.prog 47 #[.slice A n c, .slice B m d] w fun e w' => e = .returned (.bool (decide (val X < val Y))) ∧ Below w.heap.size w w' := by
  have HX := Lib.hid hX
  have HY := Lib.hid hY
  by_cases hne : n = m
  · subst hn
    have hne' : ((X.length : Int) != (m : Int)) = false := by simp [hne]
    have HN := Lib.hid hne
    have HM := Lib.hid hm
    clear hne hm
    go_enter Try.func47, Try.ntmps47
    go_wp2
    go_loopw [5] (fun i wr => ∃ k : Nat, k ≤ X.length ∧ i = .int .i64 ((k : Int) - 1) ∧ Hid (∀ j, k ≤ j → j < X.length → X.getD j 0 = Y.getD j 0) ∧ Below w.heap.size w wr) (fun i _ => (intOf i + 1).toNat)
    case atStart => exact ⟨X.length, Nat.le_refl _, rfl, Lib.hid (fun j h1 h2 => by omega), Below.refl _ _⟩
    case round =>
      obtain ⟨k, hk, rfl, heq, hbl⟩ := hrel
      by_cases h0 : 0 < k
      · obtain ⟨j, rfl⟩ : ∃ j, k = j + 1 := ⟨k - 1, by omega⟩
        obtain ⟨b1, o1, rfl, hb1, hc1⟩ := (hA.keep hbl).at_ (i := j) (by omega)
        obtain ⟨b2, o2, rfl, hb2, hc2⟩ := (hB.keep hbl).at_ (i := j) (by have := HM.out; have := HN.out; omega)
        have hjm : j < m := by have := HN.out; omega
        by_cases hd : X.getD j 0 = Y.getD j 0
        · have hd' : (X.getD j 0 != Y.getD j 0) = false := by simpa using hd
          have heq' := Lib.hid (show ∀ i, j ≤ i → i < X.length → X.getD i 0 = Y.getD i 0 from fun i h1 h2 => by
            by_cases h : i = j
            · subst h; exact hd
            · exact heq.out i (by omega) h2)
          clear hd
          generalize X.getD j 0 = x at *
          generalize Y.getD j 0 = y at *
          go_wp2
          go_quiet (fail)
          go_wp2
          go_roundw
          case rel => exact ⟨j, by omega, rfl, heq', below_drewN hbl _⟩
          case measure => simp [intOf]
        · have hd' : (X.getD j 0 != Y.getD j 0) = true := by simpa using hd
          have hres : decide (X.getD j 0 < Y.getD j 0) = decide (val X < val Y) := by
            have e : X.length = Y.length := by have := HN.out; have := HM.out; omega
            by_cases h : X.getD j 0 < Y.getD j 0
            · have := Ar.val_top X Y hX hY e j (by omega) (fun i h1 h2 => heq.out i (by omega) h2) h
              rw [decide_eq_true h, decide_eq_true this]
            · have := Ar.val_top Y X hY hX e.symm j (by omega) (fun i h1 h2 => (heq.out i (by omega) (by omega)).symm) (by omega)
              have h3 : ¬ val X < val Y := by omega
              rw [decide_eq_false h, decide_eq_false h3]
          have HR := Lib.hid hres
          clear hd hres
          generalize X.getD j 0 = x at *
          generalize Y.getD j 0 = y at *
          go_wp2
          go_quiet (fail)
          go_wp2
          go_quiet (fail)
          go_wp2
          go_ret
          exact ⟨ret_bool HR.out, by first | exact below_drewN hbl _ | exact below_drewN (below_drewN hbl _) _⟩
      · obtain rfl : k = 0 := by omega
        have e : X = Y := Ar.val_same X Y (by have := HN.out; have := HM.out; omega) (fun j h => heq.out j (Nat.zero_le _) h)
        have HR := Lib.hid (show false = decide (val X < val Y) from by rw [e]; simp)
        clear e
        go_wp2
        go_ret
        exact ⟨ret_bool HR.out, hbl⟩
  · have hne' : ((n : Int) != (m : Int)) = true := by simp; omega
    have hres : decide (n < m) = decide (val X < val Y) := by
      by_cases h : n < m
      · have := Ar.val_short X Y hX hY cY (by omega)
        rw [decide_eq_true this, decide_eq_true (by omega)]
      · have := Ar.val_short Y X hY hX cX (by omega)
        rw [decide_eq_false (by omega), decide_eq_false (by omega)]
    have HR := Lib.hid hres
    clear hres hne hn hm
    go_enter Try.func47, Try.ntmps47
    go_wp2
    go_ret
    exact ⟨ret_bool HR.out, Below.refl _ _⟩

theorem val_drop' (D : List Int) (n : Nat) : val (D.drop n) = D.getD n 0 + 10 * val (D.drop (n + 1)) := by
  by_cases h : n < D.length
  · exact Ar.val_drop D n h
  · rw [List.drop_eq_nil_of_le (by omega), List.drop_eq_nil_of_le (by omega)]
    simp [val, List.getD, List.getElem?_eq_none (Nat.not_lt.1 h)]
theorem add_step (o p x y c dx dy s : Int) (h : o + p * (c + (x + 10 * dx) + (y + 10 * dy)) = s) : o + p * ((x + y + c) % 10) + p * 10 * ((x + y + c) / 10 + dx + dy) = s := by
  have e : c + (x + 10 * dx) + (y + 10 * dy) = (x + y + c) % 10 + 10 * ((x + y + c) / 10 + dx + dy) := by omega
  rw [Int.mul_assoc, Int.add_assoc, ← Int.mul_add, ← e]; exact h
theorem Ints.drewN {w : World} {k : IntKind} {A : Option Addr} {xs : List Int} (h : Ints w k A xs) (n : Nat) : Ints (w.drewN n) k A xs := h
theorem sub_step (o p x y c dx dy s : Int) (h : o + p * ((x + 10 * dx) - (y + 10 * dy) - c) = s) : o + p * ((10 + x - y - c) % 10) + p * 10 * (dx - dy - (1 - (10 + x - y - c) / 10)) = s := by
  have e : (x + 10 * dx) - (y + 10 * dy) - c = (10 + x - y - c) % 10 + 10 * (dx - dy - (1 - (10 + x - y - c) / 10)) := by omega
  rw [Int.mul_assoc, Int.add_assoc, ← Int.mul_add, ← e]; exact h
theorem sub_end (o p t s : Int) (h : o + p * t = s) (h0 : 0 ≤ o) (h1 : o < p) (hs : 0 ≤ s) (ht : t ≤ 0) : o = s := by
  by_cases h2 : t = 0
  · subst h2; simpa using h
  · have : p * t ≤ p * (-1) := Int.mul_le_mul_of_nonneg_left (by omega) (by omega)
    omega
end Go.Proofs.Ytgdfjcmjhagmoaa

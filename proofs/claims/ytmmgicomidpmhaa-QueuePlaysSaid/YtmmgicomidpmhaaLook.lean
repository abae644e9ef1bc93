/- Contracts of the statement's own functions: whether two lists are the same; whether a queue has what must wait. -/
import Derived.Test.YtmmgicomidpmhaaQueD
namespace Go.Proofs.Ytmmgicomidpmhaa
open Go.ChangeShapes Go.WideShapes Go.ChangeAt Go.RowKit
set_option maxHeartbeats 2000000 in
theorem same_yes (A B : Option Addr) (n c d : Nat) (xs ys : List Int) (w : World) (hA : Ints w .i64 A xs) (hB : Ints w .i64 B ys) (hn : n ≤ xs.length) (hm : n ≤ ys.length) (he : xs.take n = ys.take n) (hs : n ≤ 1000000) :
    Calls Try.prog 9 #[.slice A n c, .slice B n d] w fun e w' => e = .returned (.bool true) ∧ ∃ m, w' = w.drewN m := by
  have HE := Lib.hid he
  clear he
  go_enter Try.func9, Try.ntmps9
  go_wp2
  go_loopw [5] (fun i wr => ∃ k m : Nat, k ≤ n ∧ i = .int .i64 k ∧ wr = w.drewN m) (fun i _ => n - (intOf i).toNat)
  case atStart => exact ⟨0, 0, Nat.zero_le _, rfl, rfl⟩
  case round =>
    obtain ⟨k, m, hk, rfl, rfl⟩ := hrel
    by_cases hlt : k < n
    · rcases hA with h | ⟨b, off, rfl, hb, hcell⟩
      · subst h; simp at hn; omega
      rcases hB with h | ⟨b', off', rfl, hb', hcell'⟩
      · subst h; simp at hm; omega
      have x0 := hcell k (by omega)
      have y0 := hcell' k (by omega)
      have hxy : xs.getD k 0 = ys.getD k 0 := by
        have := congrArg (fun l => l[k]?) HE.out
        simp only [List.getElem?_take] at this
        rw [if_pos hlt, if_pos hlt] at this
        simp only [List.getD, this]
      rw [← hxy] at y0
      clear hcell hcell' hxy
      generalize xs.getD k 0 = s at *
      go_wp2
      go_quiet (fail)
      go_wp2
      go_roundw
      case rel => exact ⟨k + 1, _, by omega, by go_num, rfl⟩
      case measure => simp [intOf]; omega
    · have hkl : k = n := by omega
      subst hkl
      go_wp2
      go_ret
      exact ⟨rfl, _, rfl⟩
def atV (xs : List Int) (i : Int) : Int := if 0 ≤ i ∧ i < xs.length then xs.getD i.toNat 0 else 0
def atB (xs : List Int) (i : Int) : Bool := decide (0 ≤ i ∧ i < xs.length)
theorem at_any {w : World} {g : Nat} {t : Tal} {room : Int} {v : Value} {xs : List Int} (h : Que w g t room v xs) (i : Int) (hm : xs.length ≤ 1000000) : Calls Try.prog 14 #[.pointer (some ⟨g, 0, none⟩), .int .i64 i] w fun e w' => e = .returned (.tuple #[.int .i64 (atV xs i), .bool (atB xs i)]) ∧ w = w' := by
  by_cases hi : 0 ≤ i ∧ i < xs.length
  · have := at_in h i.toNat (by omega) hm
    rw [show ((i.toNat : Nat) : Int) = i from by omega] at this
    unfold atV atB
    rw [if_pos hi, decide_eq_true hi]
    exact this
  · unfold atV atB
    rw [if_neg hi, decide_eq_false hi]
    exact at_out h i (by omega)
set_option maxHeartbeats 2000000 in
theorem looks_any {w : World} {g : Nat} {t : Tal} {room ask : Int} {v : Value} {xs : List Int} (h : Que w g t room v xs) (A : Option Addr) (n c : Nat) (hA : Ints w .i64 A xs) (hn : xs.length = n) (hm : n ≤ 1000000) (h1 : 1 ≤ room) (h2 : room ≤ 10000) (hq1 : -9223372036854775808 ≤ ask) (hq2 : ask ≤ 9223372036854775807) :
    Calls Try.prog 12 #[.pointer (some ⟨g, 0, none⟩), .slice A n c, .int .i64 room, .int .i64 ask] w fun e w' => e = .returned (.bool true) ∧ ∃ m, w' = w.drewN m := by
  subst hn
  have AT := Lib.hid (fun (i : Nat) (hi : i < xs.length) => at_in h i hi hm)
  have AQ := Lib.hid (at_any h ask hm)
  have LN := Lib.hid (len_any h)
  have FR := Lib.hid (free_any h h1 h2 hm)
  clear h
  go_enter Try.func12, Try.ntmps12
  go_wp2_with fail
  go_loop [9] (fun i => ∃ k : Nat, k ≤ xs.length ∧ i = .int .i64 k) (fun i => xs.length - (intOf i).toNat)
  case atStart => exact ⟨0, Nat.zero_le _, rfl⟩
  case round =>
    obtain ⟨k, hk, rfl⟩ := hrel
    by_cases hlt : k < xs.length
    · rcases hA with h | ⟨b, off, rfl, hb, hcell⟩
      · subst h; simp at hlt
      have x0 := hcell k hlt
      have ATk := Lib.hid (AT.out k hlt)
      clear hcell
      generalize xs.getD k 0 = s at *
      go_wp2_with (go_at_call 14; refine ATk.out.mono ?_; rintro e w3 ⟨rfl, rfl⟩)
      go_round
      case rel => exact ⟨k + 1, by omega, by go_num⟩
      case measure => simp [intOf]; omega
    · have hkl : k = xs.length := by omega
      subst hkl
      by_cases hin : 0 ≤ ask ∧ ask < xs.length
      · obtain ⟨i1, i2⟩ := hin
        have hB : atB xs ask = true := decide_eq_true ⟨i1, i2⟩
        rw [hB] at AQ
        generalize atV xs ask = av at *
        clear hB
        go_wp2_with (first | (go_at_call 14; refine AQ.out.mono ?_; rintro e w3 ⟨rfl, rfl⟩) | (go_at_call 15; refine LN.out.mono ?_; rintro e w3 ⟨rfl, rfl⟩) | (go_at_call 16; refine FR.out.mono ?_; rintro e w3 ⟨rfl, m3, rfl⟩))
        go_ret
        exact ⟨rfl, _, rfl⟩
      · have hB : atB xs ask = false := decide_eq_false hin
        have hV : atV xs ask = 0 := by unfold atV; rw [if_neg hin]
        rw [hB, hV] at AQ
        by_cases i1 : 0 ≤ ask
        · have i2 : (xs.length : Int) ≤ ask := by omega
          have i3 : decide (ask < (xs.length : Int)) = false := decide_eq_false (by omega)
          clear hB hV hin
          go_wp2_with (first | (go_at_call 14; refine AQ.out.mono ?_; rintro e w3 ⟨rfl, rfl⟩) | (go_at_call 15; refine LN.out.mono ?_; rintro e w3 ⟨rfl, rfl⟩) | (go_at_call 16; refine FR.out.mono ?_; rintro e w3 ⟨rfl, m3, rfl⟩))
          go_ret
          exact ⟨rfl, _, rfl⟩
        · have i2 : ask < 0 := by omega
          clear hB hV hin
          go_wp2_with (first | (go_at_call 14; refine AQ.out.mono ?_; rintro e w3 ⟨rfl, rfl⟩) | (go_at_call 15; refine LN.out.mono ?_; rintro e w3 ⟨rfl, rfl⟩) | (go_at_call 16; refine FR.out.mono ?_; rintro e w3 ⟨rfl, m3, rfl⟩))
          go_ret
          exact ⟨rfl, _, rfl⟩
end Go.Proofs.Ytmmgicomidpmhaa

import Derived.Test.YtddejkmfffeikaaCalc
import Derived.Test.YtddejkmfffeikaaMath
import Derived.Laws.StructEq
import Derived.RegionTactic
import Derived.ChangeAlike
import Derived.Deep.RegionWith
namespace Go.Proofs.Ytddejkmfffeikaa
open Go.ChangeShapes Go.WideShapes Go.ChangeAt Go.RowKit
theorem mod_any (a b : Int) (w : World) (ha : -9223372036854775808 ≤ a) (ha' : a ≤ 9223372036854775807) (hb : -9223372036854775808 ≤ b) (hb' : b ≤ 9223372036854775807) :
    Calls Try.prog 61 #[.int .i64 a, .int .i64 b] w fun e w' => e = .returned (.tuple #[.int .i64 (Ar.modV a b), .int .i64 (Ar.modE b)]) ∧ w = w' := by
  by_cases hb0 : b = 0
  · have h0 : (b == 0) = true := by simp [hb0]
    have hv : Ar.modV a b = 0 := by simp [Ar.modV, hb0]
    have he : Ar.modE b = 3 := by simp [Ar.modE, hb0]
    rw [hv, he]
    clear hb0 hv he
    go_enter Try.func61, Try.ntmps61
    go_wp2
    go_ret2
    exact ⟨rfl, rfl⟩
  have h0 : (b == 0) = false := by simp [hb0]
  have h0' : ¬ b = 0 := hb0
  have hv : Ar.modV a b = a.fmod b := by simp [Ar.modV, hb0]
  have he : Ar.modE b = 0 := by simp only [Ar.modE, hb0, if_false]
  rw [hv, he]
  by_cases h1 : b = -1
  · subst h1
    have h2 : a.fmod (-1) = 0 := by rw [(Ar.fq_even a (-1) (by simp)).2]; simp
    rw [h2]
    clear hv he h2 hb0 h0'
    go_enter Try.func61, Try.ntmps61
    go_wp2
    go_ret2
    exact ⟨rfl, rfl⟩
  have h1' : (b == -1) = false := by simp [h1]
  have hq := Ar.tm_bd a b hb0
  by_cases ht : a.tmod b = 0
  · have hf := (Ar.fq_even a b ht).2
    rw [hf]
    have ht' : (a.tmod b != 0) = false := by simp [ht]
    clear hf hv he hq ht hb0
    go_enter Try.func61, Try.ntmps61
    go_wp2
    go_ret2
    exact ⟨rfl, rfl⟩
  have ht' : (a.tmod b != 0) = true := by simp [ht]
  have hsg := Ar.tm_sign a b ht
  by_cases hs : (a < 0 ↔ b < 0)
  · have hf := (Ar.fq_same a b ht hb0 hs).2
    have hs' : (!(decide (a.tmod b < 0) == decide (b < 0))) = false := by
      by_cases h3 : a < 0
      · simp [hsg.2 h3, hs.1 h3]
      · have : ¬ b < 0 := fun h => h3 (hs.2 h)
        have h4 : ¬ a.tmod b < 0 := fun h => h3 (hsg.1 h)
        simp [h4, this]
    rw [hf]
    clear hf hv he hq hb0 ht hs hsg
    go_enter Try.func61, Try.ntmps61
    go_wp2
    go_ret2
    exact ⟨rfl, rfl⟩
  · have hf := (Ar.fq_diff a b ht hb0 hs).2
    have hs' : (!(decide (a.tmod b < 0) == decide (b < 0))) = true := by
      by_cases h3 : a < 0
      · have : ¬ b < 0 := fun h => hs ⟨fun _ => h, fun _ => h3⟩
        simp [hsg.2 h3, this]
      · have : b < 0 := by
          rcases Int.lt_or_le b 0 with h | h
          · exact h
          · exact absurd ⟨fun h' => absurd h' h3, fun h' => by omega⟩ hs
        have h4 : ¬ a.tmod b < 0 := fun h => h3 (hsg.1 h)
        simp [h4, this]
    rw [hf]
    have HR := Lib.hid (IntWalk.wrap64_in (a.tmod b + b) (by constructor <;> omega))
    clear hf hv he hq hb0 ht hs hsg
    go_enter Try.func61, Try.ntmps61
    go_wp2
    go_ret2
    exact ⟨ret_two HR.out rfl, rfl⟩
def lo (a : Int) (xs : List Int) : Int := xs.foldl (fun p x => if x < p then x else p) a
def hi (a : Int) (xs : List Int) : Int := xs.foldl (fun p x => if p < x then x else p) a
theorem lo_take (a : Int) (xs : List Int) (i : Nat) (h : i < xs.length) : lo a (xs.take (i + 1)) = if xs.getD i 0 < lo a (xs.take i) then xs.getD i 0 else lo a (xs.take i) := by
  have hg : xs.getD i 0 = xs[i] := by simp [List.getD, h]
  rw [hg, lo, List.take_succ_eq_append_getElem h, List.foldl_append]; rfl
theorem hi_take (a : Int) (xs : List Int) (i : Nat) (h : i < xs.length) : hi a (xs.take (i + 1)) = if hi a (xs.take i) < xs.getD i 0 then xs.getD i 0 else hi a (xs.take i) := by
  have hg : xs.getD i 0 = xs[i] := by simp [List.getD, h]
  rw [hg, hi, List.take_succ_eq_append_getElem h, List.foldl_append]; rfl
theorem mod_awake (w : World) : Calls Try.prog 61 #[.int .i64 (-7), .int .i64 2] w fun e w' => e = .returned (.tuple #[.int .i64 1, .int .i64 0]) ∧ w = w' := mod_any (-7) 2 w (by omega) (by omega) (by omega) (by omega)
end Go.Proofs.Ytddejkmfffeikaa

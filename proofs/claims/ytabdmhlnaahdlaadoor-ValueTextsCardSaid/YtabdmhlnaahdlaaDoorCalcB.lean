import Derived.Test.YtabdmhlnaahdlaaDoorCalc
import Derived.Test.YtabdmhlnaahdlaaDoorMath
import Derived.Test.YtabdmhlnaahdlaaDoorShelf
import Derived.Laws.StructEq
import Derived.RegionTactic
import Derived.ChangeAlike
import Derived.Deep.RegionWith
namespace Go.Proofs.YtabdmhlnaahdlaaDoor
open Go.ChangeShapes Go.WideShapes Go.ChangeAt Go.RowKit
theorem div_any (a b : Int) (w : World) (ha : -9223372036854775808 ≤ a) (ha' : a ≤ 9223372036854775807) (hb : -9223372036854775808 ≤ b) (hb' : b ≤ 9223372036854775807) :
    Calls Tryd.prog 40 #[.int .i64 a, .int .i64 b] w fun e w' => e = .returned (.tuple #[.int .i64 (Ar.divV a b), .int .i64 (Ar.divE a b)]) ∧ w = w' := by
  by_cases hb0 : b = 0
  · have h0 : (b == 0) = true := by simp [hb0]
    have hv : Ar.divV a b = 0 := by simp [Ar.divV, hb0]
    have he : Ar.divE a b = 3 := by simp [Ar.divE, hb0]
    rw [hv, he]
    clear hb0 hv he
    go_enter Tryd.func40, Tryd.ntmps40
    go_wp2
    go_ret2
    exact ⟨rfl, rfl⟩
  have h0 : (b == 0) = false := by simp [hb0]
  have h0' : ¬ b = 0 := hb0
  by_cases hm : a = -9223372036854775808 ∧ b = -1
  · obtain ⟨rfl, rfl⟩ := hm
    go_enter Tryd.func40, Tryd.ntmps40
    go_wp2
    go_ret2
    exact ⟨rfl, rfl⟩
  have hv : Ar.divV a b = a.fdiv b := by simp [Ar.divV, hb0, hm]
  have he : Ar.divE a b = 0 := by simp only [Ar.divE, hb0, hm, if_false]
  rw [hv, he]
  have hq := Ar.tq_all a b ha ha' hm hb0
  have HQ := Lib.hid (IntWalk.wrap64_in _ hq)
  have hcase : ((a == -9223372036854775808) = true ∧ (b == -1) = false) ∨ (a == -9223372036854775808) = false := by
    by_cases h1 : a = -9223372036854775808
    · exact .inl ⟨by simp [h1], by simp; omega⟩
    · exact .inr (by simp [h1])
  by_cases ht : a.tmod b = 0
  · have hf := (Ar.fq_even a b ht).1
    rw [hf]
    have ht' : (a.tmod b != 0) = false := by simp [ht]
    clear hf hv he hq hm ht hb0
    rcases hcase with ⟨h1, h2⟩ | h1
    all_goals
      go_enter Tryd.func40, Tryd.ntmps40
      go_wp2
      go_ret2
      exact ⟨ret_two HQ.out rfl, rfl⟩
  have ht' : (a.tmod b != 0) = true := by simp [ht]
  have h2q := Ar.tq_two a b ht hb0
  by_cases hs : (a < 0 ↔ b < 0)
  · have hf := (Ar.fq_same a b ht hb0 hs).1
    have hs' : (!(decide (a < 0) == decide (b < 0))) = false := by
      by_cases h3 : a < 0
      · simp [h3, hs.1 h3]
      · have : ¬ b < 0 := fun h => h3 (hs.2 h)
        simp [h3, this]
    rw [hf]
    clear hf hv he hq hm hb0 ht h2q hs
    rcases hcase with ⟨h1, h2⟩ | h1
    all_goals
      go_enter Tryd.func40, Tryd.ntmps40
      go_wp2
      all_goals (try go_ret2)
      all_goals (try exact ⟨ret_two HQ.out rfl, rfl⟩)
  · have hf := (Ar.fq_diff a b ht hb0 hs).1
    have hs' : (!(decide (a < 0) == decide (b < 0))) = true := by
      by_cases h3 : a < 0
      · have : ¬ b < 0 := fun h => hs ⟨fun _ => h, fun _ => h3⟩
        simp [h3, this]
      · have : b < 0 := by
          rcases Int.lt_or_le b 0 with h | h
          · exact h
          · exact absurd ⟨fun h' => absurd h' h3, fun h' => by omega⟩ hs
        simp [h3, this]
    rw [hf]
    have HR := Lib.hid (IntWalk.wrap64_in (a.tdiv b - 1) (by constructor <;> omega))
    clear hf hv he hq hm hb0 ht h2q hs
    rcases hcase with ⟨h1, h2⟩ | h1
    all_goals
      go_enter Tryd.func40, Tryd.ntmps40
      go_wp2
      all_goals (try go_ret2)
      all_goals (try exact ⟨ret_two (by rw [HQ.out, HR.out]) rfl, rfl⟩)
theorem mod_any (a b : Int) (w : World) (ha : -9223372036854775808 ≤ a) (ha' : a ≤ 9223372036854775807) (hb : -9223372036854775808 ≤ b) (hb' : b ≤ 9223372036854775807) :
    Calls Tryd.prog 41 #[.int .i64 a, .int .i64 b] w fun e w' => e = .returned (.tuple #[.int .i64 (Ar.modV a b), .int .i64 (Ar.modE b)]) ∧ w = w' := by
  by_cases hb0 : b = 0
  · have h0 : (b == 0) = true := by simp [hb0]
    have hv : Ar.modV a b = 0 := by simp [Ar.modV, hb0]
    have he : Ar.modE b = 3 := by simp [Ar.modE, hb0]
    rw [hv, he]
    clear hb0 hv he
    go_enter Tryd.func41, Tryd.ntmps41
    go_wp2
    go_ret2
    exact ⟨rfl, rfl⟩
  have h0 : (b == 0) = false := by simp [hb0]
  have h0' : ¬ b = 0 := hb0
  have hv : Ar.modV a b = a.fmod b := by simp [Ar.modV, hb0]
  have he : Ar.modE b = 0 := by simp only [Ar.modE, hb0, if_false]
  rw [hv, he]
  by_cases h1 : b = -1
  · subst h1
    have h2 : a.fmod (-1) = 0 := by rw [(Ar.fq_even a (-1) (by simp)).2]; simp
    rw [h2]
    clear hv he h2 hb0 h0'
    go_enter Tryd.func41, Tryd.ntmps41
    go_wp2
    go_ret2
    exact ⟨rfl, rfl⟩
  have h1' : (b == -1) = false := by simp [h1]
  have hq := Ar.tm_bd a b hb0
  by_cases ht : a.tmod b = 0
  · have hf := (Ar.fq_even a b ht).2
    rw [hf]
    have ht' : (a.tmod b != 0) = false := by simp [ht]
    clear hf hv he hq ht hb0
    go_enter Tryd.func41, Tryd.ntmps41
    go_wp2
    go_ret2
    exact ⟨rfl, rfl⟩
  have ht' : (a.tmod b != 0) = true := by simp [ht]
  have hsg := Ar.tm_sign a b ht
  by_cases hs : (a < 0 ↔ b < 0)
  · have hf := (Ar.fq_same a b ht hb0 hs).2
    have hs' : (!(decide (a.tmod b < 0) == decide (b < 0))) = false := by
      by_cases h3 : a < 0
      · simp [hsg.2 h3, hs.1 h3]
      · have : ¬ b < 0 := fun h => h3 (hs.2 h)
        have h4 : ¬ a.tmod b < 0 := fun h => h3 (hsg.1 h)
        simp [h4, this]
    rw [hf]
    clear hf hv he hq hb0 ht hs hsg
    go_enter Tryd.func41, Tryd.ntmps41
    go_wp2
    go_ret2
    exact ⟨rfl, rfl⟩
  · have hf := (Ar.fq_diff a b ht hb0 hs).2
    have hs' : (!(decide (a.tmod b < 0) == decide (b < 0))) = true := by
      by_cases h3 : a < 0
      · have : ¬ b < 0 := fun h => hs ⟨fun _ => h, fun _ => h3⟩
        simp [hsg.2 h3, this]
      · have : b < 0 := by
          rcases Int.lt_or_le b 0 with h | h
          · exact h
          · exact absurd ⟨fun h' => absurd h' h3, fun h' => by omega⟩ hs
        have h4 : ¬ a.tmod b < 0 := fun h => h3 (hsg.1 h)
        simp [h4, this]
    rw [hf]
    have HR := Lib.hid (IntWalk.wrap64_in (a.tmod b + b) (by constructor <;> omega))
    clear hf hv he hq hb0 ht hs hsg
    go_enter Tryd.func41, Tryd.ntmps41
    go_wp2
    go_ret2
    exact ⟨ret_two HR.out rfl, rfl⟩
theorem eqWide (a b c d : Int) (w : World) : (Op.equalIn 10000 95 (.agg #[.int .i64 a, .int .u64 b]) (.agg #[.int .i64 c, .int .u64 d])).run Tryd.prog w = .ok (a == c && b == d) w := by
  have u2 := Tryd.underlying2
  have a2 := Tryd.isAgg2
  have z2 := Tryd.sizeOf2
  have u45 := Tryd.underlying59
  have a45 := Tryd.isAgg59
  have z45 := Tryd.sizeOf59
  have hS : Tryd.prog.underlying 95 = some (.struct (Tryd.prog.fieldsOf 95)) := by kernel_rfl
  have hp : Tryd.prog.stoodInHeld 95 = false := by kernel_rfl
  rw [show (10000 : Nat) = 9999 + 1 from rfl, run_equalIn_agg w 9999 95 _ _ hS hp]
  simp only [Program.fieldsOf, Tryd.underlying95]
  go_simp
  by_cases h1 : a = c <;> by_cases h2 : b = d <;> simp [h1, h2]
theorem guardWide : Tryd.prog.eqGuardType Tryd.prog.depth 95 = false := by kernel_rfl
set_option maxRecDepth 100000 in
theorem narrow_any (v : Int) (w : World) (h3 : -85070591730234615865843651857942052864 ≤ v) (h4 : v ≤ 85070591730234615865843651857942052864) :
    Calls Tryd.prog 68 #[.agg #[.int .i64 (v / 18446744073709551616), .int .u64 (v % 18446744073709551616)]] w fun e w' => e = .returned (.tuple #[.int .i64 (narV v), .int .i64 (narE v)]) ∧ Below w.heap.size w w' := by
  have m1 : -9223372036854775808 ≤ wrap64 (v % 18446744073709551616) := by unfold wrap64; omega
  have m2 : wrap64 (v % 18446744073709551616) ≤ 9223372036854775807 := by unfold wrap64; omega
  have b1 : 0 ≤ v % 18446744073709551616 := by omega
  have b2 : v % 18446744073709551616 < 18446744073709551616 := by omega
  have k1 : ((!v / 18446744073709551616 == wrap64 (v % 18446744073709551616) / 18446744073709551616) = true ∨ (!v % 18446744073709551616 == wrap64 (v % 18446744073709551616) % 18446744073709551616) = true) → ¬ (-9223372036854775808 ≤ v ∧ v ≤ 9223372036854775807) := by
    simp only [Bool.not_eq_true', beq_eq_false_iff_ne, wrap64]; omega
  have k2 : ((!v / 18446744073709551616 == wrap64 (v % 18446744073709551616) / 18446744073709551616) = false ∧ (!v % 18446744073709551616 == wrap64 (v % 18446744073709551616) % 18446744073709551616) = false) → (-9223372036854775808 ≤ v ∧ v ≤ 9223372036854775807) := by
    simp only [Bool.not_eq_false', beq_iff_eq, wrap64]; omega
  have kv : (-9223372036854775808 ≤ v ∧ v ≤ 9223372036854775807) → wrap64 (v % 18446744073709551616) = v := by unfold wrap64; omega
  clear h3 h4
  have K1 := Lib.hid k1
  have K2 := Lib.hid k2
  have KV := Lib.hid kv
  clear k1 k2 kv
  generalize v / 18446744073709551616 = a at *
  generalize v % 18446744073709551616 = b at *
  have hE := eqWide
  have hG := guardWide
  go_enter Tryd.func68, Tryd.ntmps68
  go_wp2
  go_region_with (go_at_call 80; refine (widen_any _ _ m1 m2).mono ?_; rintro e w' ⟨rfl, hb⟩; obtain ⟨hc, hf⟩ := bcell hb; have hz : w.heap.size < w'.heap.size := by have := hb.size; simp at this; omega)
  all_goals
    go_wp2
    all_goals
      go_ret2
      refine ⟨ret_two ?_ ?_, ?_⟩
      · rename_i hq
        unfold narV
        first | (rw [if_pos (K2.out hq)]; exact KV.out (K2.out hq)) | (rw [if_neg (K1.out hq)])
      · rename_i hq
        unfold narE
        first | (rw [if_pos (K2.out hq)]) | (rw [if_neg (K1.out hq)])
      · exact (((Below.refl _ _).alloc (Nat.le_refl _) _).drew).trans (hb.mono (by simp))
set_option maxHeartbeats 400000 in
theorem add_any (A : Option Addr) (n c : Nat) (xs : List Int) (w : World) (hA : Ints w .i64 A xs) (hn : xs.length = n) (hf : Fit64 xs) (hs : n ≤ 4294967296) :
    Calls Tryd.prog 42 #[.slice A n c] w fun e w' => e = .returned (.tuple #[.int .i64 (narV xs.sum), .int .i64 (narE xs.sum)]) ∧ Below w.heap.size w w' := by
  subst hn
  go_enter Tryd.func42, Tryd.ntmps42
  go_wp2
  go_loopw [9] (fun i wr => ∃ k : Nat, k ≤ xs.length ∧ i = .int .i64 k ∧ Below w.heap.size w wr ∧ Blk wr w.heap.size 95 #[.int .i64 ((xs.take k).sum / 18446744073709551616), .int .u64 ((xs.take k).sum % 18446744073709551616)]) (fun i _ => xs.length - (intOf i).toNat)
  case atStart => exact ⟨0, Nat.zero_le _, rfl, (Below.refl _ _).alloc (Nat.le_refl _) _, Blk.new w _ _⟩
  case round =>
    obtain ⟨k, hk, rfl, hbl, hblk⟩ := hrel
    by_cases hlt : k < xs.length
    · have hA' := hA.keep hbl
      rcases hA' with h | ⟨b, off, rfl, hb, hcell⟩
      · subst h; simp at hlt
      have hc0 := hcell k hlt
      have hx := hf.at_ k
      have hsb := sum_bd (xs := xs.take k) (fun x hx => hf x (List.mem_of_mem_take hx))
      have hts := take_sum xs k hlt
      rw [List.length_take] at hsb
      have hS1 : -85070591730234615865843651857942052864 ≤ (xs.take k).sum := by omega
      have hS2 : (xs.take k).sum ≤ 85070591730234615865843651857942052864 := by omega
      have HT := Lib.hid hts
      clear hts hcell hsb hA
      generalize xs.getD k 0 = x at *
      generalize (xs.take k).sum = S at *
      have c0 : wr.cell? ⟨w.heap.size, 0, none⟩ = some (.int .i64 (S / 18446744073709551616)) := hblk.cell 0
      have c1 : wr.cell? ⟨w.heap.size, 1, none⟩ = some (.int .u64 (S % 18446744073709551616)) := hblk.cell 1
      have f0 := hblk.frozen 0
      have f1 := hblk.frozen 1
      have hlt' := hblk.lt
      have PL := fun W => plus_any S x W hx.1 hx.2 hS1 hS2
      have PL' := Lib.hid PL
      clear PL hS1 hS2
      go_wp2_with (go_at_call 67; refine (PL'.out _).mono ?_; rintro e w1 ⟨rfl, hb1⟩; obtain ⟨hc1, hf1⟩ := bcell hb1)
      go_roundw
      case rel =>
        refine ⟨k + 1, by omega, by go_num, ((hbl.trans (hb1.mono hbl.size)).setCell (by simp) _).setCell (by simp) _, ?_⟩
        rw [HT.out]
        exact (((hblk.below hb1 hlt').put 0 _).put 1 _)
      case measure => simp [intOf]; omega
    · have hkl : k = xs.length := by omega
      subst hkl
      have hsb := sum_bd hf
      have hS1 : -85070591730234615865843651857942052864 ≤ xs.sum := by omega
      have hS2 : xs.sum ≤ 85070591730234615865843651857942052864 := by omega
      have NA := fun W => narrow_any xs.sum W hS1 hS2
      have NA' := Lib.hid NA
      have c0 : wr.cell? ⟨w.heap.size, 0, none⟩ = some (.int .i64 (xs.sum / 18446744073709551616)) := by rw [hblk.cell 0, List.take_length]; rfl
      have c1 : wr.cell? ⟨w.heap.size, 1, none⟩ = some (.int .u64 (xs.sum % 18446744073709551616)) := by rw [hblk.cell 1, List.take_length]; rfl
      clear NA hS1 hS2 hsb hblk
      go_wp2_with (go_at_call 68; refine (NA'.out _).mono ?_; rintro e w1 ⟨rfl, hb1⟩)
      go_ret2
      exact ⟨rfl, hbl.trans (hb1.mono hbl.size)⟩

theorem mul64_small (x y : Nat) (w : World) (hx : x < 18446744073709551616) (hy : y < 18446744073709551616) (h : x * y < 18446744073709551616) :
    Calls Tryd.prog 44 #[.int .u64 x, .int .u64 y] w fun e w' => e = .returned (.tuple #[.int .u64 0, .int .u64 ((x * y : Nat) : Int)]) ∧ w = w' :=
  (Tryd.bits_Mul64 x y hx hy w).mono fun e w' ⟨h1, h2⟩ => ⟨by rw [h1, Nat.div_eq_of_lt h, Nat.mod_eq_of_lt h]; rfl, h2.symm⟩
theorem mul64_big (x y : Nat) (w : World) (hx : x < 18446744073709551616) (hy : y < 18446744073709551616) (h : 18446744073709551616 ≤ x * y) :
    Calls Tryd.prog 44 #[.int .u64 x, .int .u64 y] w fun e w' => ∃ hi lo : Nat, 1 ≤ hi ∧ e = .returned (.tuple #[.int .u64 hi, .int .u64 lo]) ∧ w = w' :=
  (Tryd.bits_Mul64 x y hx hy w).mono fun e w' ⟨h1, h2⟩ => ⟨_, _, by omega, h1, h2.symm⟩

def lo (a : Int) (xs : List Int) : Int := xs.foldl (fun p x => if x < p then x else p) a
def hi (a : Int) (xs : List Int) : Int := xs.foldl (fun p x => if p < x then x else p) a
theorem lo_take (a : Int) (xs : List Int) (i : Nat) (h : i < xs.length) : lo a (xs.take (i + 1)) = if xs.getD i 0 < lo a (xs.take i) then xs.getD i 0 else lo a (xs.take i) := by
  have hg : xs.getD i 0 = xs[i] := by simp [List.getD, h]
  rw [hg, lo, List.take_succ_eq_append_getElem h, List.foldl_append]; rfl
theorem hi_take (a : Int) (xs : List Int) (i : Nat) (h : i < xs.length) : hi a (xs.take (i + 1)) = if hi a (xs.take i) < xs.getD i 0 then xs.getD i 0 else hi a (xs.take i) := by
  have hg : xs.getD i 0 = xs[i] := by simp [List.getD, h]
  rw [hg, hi, List.take_succ_eq_append_getElem h, List.foldl_append]; rfl
theorem div_awake (w : World) : Calls Tryd.prog 40 #[.int .i64 (-7), .int .i64 2] w fun e w' => e = .returned (.tuple #[.int .i64 (-4), .int .i64 0]) ∧ w = w' := div_any (-7) 2 w (by omega) (by omega) (by omega) (by omega)
theorem mod_awake (w : World) : Calls Tryd.prog 41 #[.int .i64 (-7), .int .i64 2] w fun e w' => e = .returned (.tuple #[.int .i64 1, .int .i64 0]) ∧ w = w' := mod_any (-7) 2 w (by omega) (by omega) (by omega) (by omega)
theorem add_awake (w : World) : Calls Tryd.prog 42 #[.slice (some ⟨w.heap.size, 0, none⟩) 3 3] (w.alloc (.cells #[.int .i64 4611686018427387904, .int .i64 4611686018427387904, .int .i64 (-1)] 2)) fun e w' => e = .returned (.tuple #[.int .i64 9223372036854775807, .int .i64 0]) ∧ Below (w.alloc (.cells #[.int .i64 4611686018427387904, .int .i64 4611686018427387904, .int .i64 (-1)] 2)).heap.size (w.alloc (.cells #[.int .i64 4611686018427387904, .int .i64 4611686018427387904, .int .i64 (-1)] 2)) w' := by
  have hb := Blk.new w 2 #[.int .i64 4611686018427387904, .int .i64 4611686018427387904, .int .i64 (-1)]
  have hi : Ints (w.alloc (.cells #[.int .i64 4611686018427387904, .int .i64 4611686018427387904, .int .i64 (-1)] 2)) .i64 (some ⟨w.heap.size, 0, none⟩) [4611686018427387904, 4611686018427387904, -1] :=
    .inr ⟨w.heap.size, 0, rfl, hb.lt, fun i hi => by
      have : i = 0 ∨ i = 1 ∨ i = 2 := by simp at hi; omega
      rcases this with rfl | rfl | rfl <;> (rw [hb.cell]; rfl)⟩
  exact add_any _ 3 3 [4611686018427387904, 4611686018427387904, -1] _ hi rfl (fun x hx => by simp at hx; rcases hx with rfl | rfl <;> omega) (by omega)
theorem awake_any (w : World) : Calls Tryd.prog 11 #[] w fun e w' => e = .returned (.bool true) ∧ Below w.heap.size w w' := by
  go_enter Tryd.func11, Tryd.ntmps11
  go_wp2_with (first | (go_at_call 40; refine (div_awake _).mono ?_; rintro e w1 ⟨rfl, rfl⟩) | (go_at_call 41; refine (mod_awake _).mono ?_; rintro e w1 ⟨rfl, rfl⟩) | (go_at_call 42; refine (add_awake _).mono ?_; rintro e w1 ⟨rfl, hb⟩))
  go_ret
  exact ⟨rfl, ((Below.refl _ _).alloc (Nat.le_refl _) _).trans (hb.mono (by simp))⟩
end Go.Proofs.YtabdmhlnaahdlaaDoor

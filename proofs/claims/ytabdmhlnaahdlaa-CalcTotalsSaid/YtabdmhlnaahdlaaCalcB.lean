import Derived.Test.YtabdmhlnaahdlaaCalc
import Derived.Test.YtabdmhlnaahdlaaMath
import Derived.Test.YtabdmhlnaahdlaaShelf
import Derived.Laws.StructEq
import Derived.RegionTactic
import Derived.ChangeAlike
import Derived.Deep.RegionWith
namespace Go.Proofs.Ytabdmhlnaahdlaa
open Go.ChangeShapes Go.WideShapes Go.ChangeAt Go.RowKit
theorem div_any (a b : Int) (w : World) (ha : -9223372036854775808 ≤ a) (ha' : a ≤ 9223372036854775807) (hb : -9223372036854775808 ≤ b) (hb' : b ≤ 9223372036854775807) :
    Calls Try.prog 19 #[.int .i64 a, .int .i64 b] w fun e w' => e = .returned (.tuple #[.int .i64 (Ar.divV a b), .int .i64 (Ar.divE a b)]) ∧ w = w' := by
  by_cases hb0 : b = 0
  · have h0 : (b == 0) = true := by simp [hb0]
    have hv : Ar.divV a b = 0 := by simp [Ar.divV, hb0]
    have he : Ar.divE a b = 3 := by simp [Ar.divE, hb0]
    rw [hv, he]
    clear hb0 hv he
    go_enter Try.func19, Try.ntmps19
    go_wp2
    go_ret2
    exact ⟨rfl, rfl⟩
  have h0 : (b == 0) = false := by simp [hb0]
  have h0' : ¬ b = 0 := hb0
  by_cases hm : a = -9223372036854775808 ∧ b = -1
  · obtain ⟨rfl, rfl⟩ := hm
    go_enter Try.func19, Try.ntmps19
    go_wp2
    go_ret2
    exact ⟨rfl, rfl⟩
  have hv : Ar.divV a b = a.fdiv b := by simp [Ar.divV, hb0, hm]
  have he : Ar.divE a b = 0 := by simp only [Ar.divE, hb0, hm, if_false]
  rw [hv, he]
  have hq := Ar.tq_all a b ha ha' hm hb0
  have HQ := Lib.hid (IntWalk.wrap64_in _ hq)
  have hcase : ((a == -9223372036854775808) = true ∧ (b == -1) = false) ∨ (a == -9223372036854775808) = false := by
    by_cases h1 : a = -9223372036854775808
    · exact .inl ⟨by simp [h1], by simp; omega⟩
    · exact .inr (by simp [h1])
  by_cases ht : a.tmod b = 0
  · have hf := (Ar.fq_even a b ht).1
    rw [hf]
    have ht' : (a.tmod b != 0) = false := by simp [ht]
    clear hf hv he hq hm ht hb0
    rcases hcase with ⟨h1, h2⟩ | h1
    all_goals
      go_enter Try.func19, Try.ntmps19
      go_wp2
      go_ret2
      exact ⟨ret_two HQ.out rfl, rfl⟩
  have ht' : (a.tmod b != 0) = true := by simp [ht]
  have h2q := Ar.tq_two a b ht hb0
  by_cases hs : (a < 0 ↔ b < 0)
  · have hf := (Ar.fq_same a b ht hb0 hs).1
    have hs' : (!(decide (a < 0) == decide (b < 0))) = false := by
      by_cases h3 : a < 0
      · simp [h3, hs.1 h3]
      · have : ¬ b < 0 := fun h => h3 (hs.2 h)
        simp [h3, this]
    rw [hf]
    clear hf hv he hq hm hb0 ht h2q hs
    rcases hcase with ⟨h1, h2⟩ | h1
    all_goals
      go_enter Try.func19, Try.ntmps19
      go_wp2
      all_goals (try go_ret2)
      all_goals (try exact ⟨ret_two HQ.out rfl, rfl⟩)
  · have hf := (Ar.fq_diff a b ht hb0 hs).1
    have hs' : (!(decide (a < 0) == decide (b < 0))) = true := by
      by_cases h3 : a < 0
      · have : ¬ b < 0 := fun h => hs ⟨fun _ => h, fun _ => h3⟩
        simp [h3, this]
      · have : b < 0 := by
          rcases Int.lt_or_le b 0 with h | h
          · exact h
          · exact absurd ⟨fun h' => absurd h' h3, fun h' => by omega⟩ hs
        simp [h3, this]
    rw [hf]
    have HR := Lib.hid (IntWalk.wrap64_in (a.tdiv b - 1) (by constructor <;> omega))
    clear hf hv he hq hm hb0 ht h2q hs
    rcases hcase with ⟨h1, h2⟩ | h1
    all_goals
      go_enter Try.func19, Try.ntmps19
      go_wp2
      all_goals (try go_ret2)
      all_goals (try exact ⟨ret_two (by rw [HQ.out, HR.out]) rfl, rfl⟩)
theorem mod_any (a b : Int) (w : World) (ha : -9223372036854775808 ≤ a) (ha' : a ≤ 9223372036854775807) (hb : -9223372036854775808 ≤ b) (hb' : b ≤ 9223372036854775807) :
    Calls Try.prog 20 #[.int .i64 a, .int .i64 b] w fun e w' => e = .returned (.tuple #[.int .i64 (Ar.modV a b), .int .i64 (Ar.modE b)]) ∧ w = w' := by
  by_cases hb0 : b = 0
  · have h0 : (b == 0) = true := by simp [hb0]
    have hv : Ar.modV a b = 0 := by simp [Ar.modV, hb0]
    have he : Ar.modE b = 3 := by simp [Ar.modE, hb0]
    rw [hv, he]
    clear hb0 hv he
    go_enter Try.func20, Try.ntmps20
    go_wp2
    go_ret2
    exact ⟨rfl, rfl⟩
  have h0 : (b == 0) = false := by simp [hb0]
  have h0' : ¬ b = 0 := hb0
  have hv : Ar.modV a b = a.fmod b := by simp [Ar.modV, hb0]
  have he : Ar.modE b = 0 := by simp only [Ar.modE, hb0, if_false]
  rw [hv, he]
  by_cases h1 : b = -1
  · subst h1
    have h2 : a.fmod (-1) = 0 := by rw [(Ar.fq_even a (-1) (by simp)).2]; simp
    rw [h2]
    clear hv he h2 hb0 h0'
    go_enter Try.func20, Try.ntmps20
    go_wp2
    go_ret2
    exact ⟨rfl, rfl⟩
  have h1' : (b == -1) = false := by simp [h1]
  have hq := Ar.tm_bd a b hb0
  by_cases ht : a.tmod b = 0
  · have hf := (Ar.fq_even a b ht).2
    rw [hf]
    have ht' : (a.tmod b != 0) = false := by simp [ht]
    clear hf hv he hq ht hb0
    go_enter Try.func20, Try.ntmps20
    go_wp2
    go_ret2
    exact ⟨rfl, rfl⟩
  have ht' : (a.tmod b != 0) = true := by simp [ht]
  have hsg := Ar.tm_sign a b ht
  by_cases hs : (a < 0 ↔ b < 0)
  · have hf := (Ar.fq_same a b ht hb0 hs).2
    have hs' : (!(decide (a.tmod b < 0) == decide (b < 0))) = false := by
      by_cases h3 : a < 0
      · simp [hsg.2 h3, hs.1 h3]
      · have : ¬ b < 0 := fun h => h3 (hs.2 h)
        have h4 : ¬ a.tmod b < 0 := fun h => h3 (hsg.1 h)
        simp [h4, this]
    rw [hf]
    clear hf hv he hq hb0 ht hs hsg
    go_enter Try.func20, Try.ntmps20
    go_wp2
    go_ret2
    exact ⟨rfl, rfl⟩
  · have hf := (Ar.fq_diff a b ht hb0 hs).2
    have hs' : (!(decide (a.tmod b < 0) == decide (b < 0))) = true := by
      by_cases h3 : a < 0
      · have : ¬ b < 0 := fun h => hs ⟨fun _ => h, fun _ => h3⟩
        simp [hsg.2 h3, this]
      · have : b < 0 := by
          rcases Int.lt_or_le b 0 with h | h
          · exact h
          · exact absurd ⟨fun h' => absurd h' h3, fun h' => by omega⟩ hs
        have h4 : ¬ a.tmod b < 0 := fun h => h3 (hsg.1 h)
        simp [h4, this]
    rw [hf]
    have HR := Lib.hid (IntWalk.wrap64_in (a.tmod b + b) (by constructor <;> omega))
    clear hf hv he hq hb0 ht hs hsg
    go_enter Try.func20, Try.ntmps20
    go_wp2
    go_ret2
    exact ⟨ret_two HR.out rfl, rfl⟩
theorem eqWide (a b c d : Int) (w : World) : (Op.equalIn 10000 47 (.agg #[.int .i64 a, .int .u64 b]) (.agg #[.int .i64 c, .int .u64 d])).run Try.prog w = .ok (a == c && b == d) w := by
  have u2 := Try.underlying2
  have a2 := Try.isAgg2
  have z2 := Try.sizeOf2
  have u45 := Try.underlying45
  have a45 := Try.isAgg45
  have z45 := Try.sizeOf45
  have hS : Try.prog.underlying 47 = some (.struct (Try.prog.fieldsOf 47)) := by kernel_rfl
  have hp : Try.prog.stoodInHeld 47 = false := by kernel_rfl
  rw [show (10000 : Nat) = 9999 + 1 from rfl, run_equalIn_agg w 9999 47 _ _ hS hp]
  simp only [Program.fieldsOf, Try.underlying47]
  go_simp
  by_cases h1 : a = c <;> by_cases h2 : b = d <;> simp [h1, h2]
theorem guardWide : Try.prog.eqGuardType Try.prog.depth 47 = false := by kernel_rfl
theorem narrow_any (v : Int) (w : World) (h3 : -85070591730234615865843651857942052864 ≤ v) (h4 : v ≤ 85070591730234615865843651857942052864) :
    Calls Try.prog 30 #[.agg #[.int .i64 (v / 18446744073709551616), .int .u64 (v % 18446744073709551616)]] w fun e w' => e = .returned (.tuple #[.int .i64 (narV v), .int .i64 (narE v)]) ∧ Below w.heap.size w w' := by
  have m1 : -9223372036854775808 ≤ wrap64 (v % 18446744073709551616) := by unfold wrap64; omega
  have m2 : wrap64 (v % 18446744073709551616) ≤ 9223372036854775807 := by unfold wrap64; omega
  have b1 : 0 ≤ v % 18446744073709551616 := by omega
  have b2 : v % 18446744073709551616 < 18446744073709551616 := by omega
  have k1 : ((!v / 18446744073709551616 == wrap64 (v % 18446744073709551616) / 18446744073709551616) = true ∨ (!v % 18446744073709551616 == wrap64 (v % 18446744073709551616) % 18446744073709551616) = true) → ¬ (-9223372036854775808 ≤ v ∧ v ≤ 9223372036854775807) := by
    simp only [Bool.not_eq_true', beq_eq_false_iff_ne, wrap64]; omega
  have k2 : ((!v / 18446744073709551616 == wrap64 (v % 18446744073709551616) / 18446744073709551616) = false ∧ (!v % 18446744073709551616 == wrap64 (v % 18446744073709551616) % 18446744073709551616) = false) → (-9223372036854775808 ≤ v ∧ v ≤ 9223372036854775807) := by
    simp only [Bool.not_eq_false', beq_iff_eq, wrap64]; omega
  have kv : (-9223372036854775808 ≤ v ∧ v ≤ 9223372036854775807) → wrap64 (v % 18446744073709551616) = v := by unfold wrap64; omega
  clear h3 h4
  have K1 := Lib.hid k1
  have K2 := Lib.hid k2
  have KV := Lib.hid kv
  clear k1 k2 kv
  generalize v / 18446744073709551616 = a at *
  generalize v % 18446744073709551616 = b at *
  have hE := eqWide
  have hG := guardWide
  go_enter Try.func30, Try.ntmps30
  go_wp2
  go_region_with (go_at_call 34; refine (widen_any _ _ m1 m2).mono ?_; rintro e w' ⟨rfl, hb⟩; obtain ⟨hc, hf⟩ := bcell hb; have hz : w.heap.size < w'.heap.size := by have := hb.size; simp at this; omega)
  all_goals
    go_wp2
    all_goals
      go_ret2
      refine ⟨ret_two ?_ ?_, ?_⟩
      · rename_i hq
        unfold narV
        first | (rw [if_pos (K2.out hq)]; exact KV.out (K2.out hq)) | (rw [if_neg (K1.out hq)])
      · rename_i hq
        unfold narE
        first | (rw [if_pos (K2.out hq)]) | (rw [if_neg (K1.out hq)])
      · exact (((Below.refl _ _).alloc (Nat.le_refl _) _).drew).trans (hb.mono (by simp))
set_option maxHeartbeats 400000 in
theorem add_any (A : Option Addr) (n c : Nat) (xs : List Int) (w : World) (hA : Ints w .i64 A xs) (hn : xs.length = n) (hf : Fit64 xs) (hs : n ≤ 4294967296) :
    Calls Try.prog 9 #[.slice A n c] w fun e w' => e = .returned (.tuple #[.int .i64 (narV xs.sum), .int .i64 (narE xs.sum)]) ∧ Below w.heap.size w w' := by
  subst hn
  go_enter Try.func9, Try.ntmps9
  go_wp2
  go_loopw [9] (fun i wr => ∃ k : Nat, k ≤ xs.length ∧ i = .int .i64 k ∧ Below w.heap.size w wr ∧ Blk wr w.heap.size 47 #[.int .i64 ((xs.take k).sum / 18446744073709551616), .int .u64 ((xs.take k).sum % 18446744073709551616)]) (fun i _ => xs.length - (intOf i).toNat)
  case atStart => exact ⟨0, Nat.zero_le _, rfl, (Below.refl _ _).alloc (Nat.le_refl _) _, Blk.new w _ _⟩
  case round =>
    obtain ⟨k, hk, rfl, hbl, hblk⟩ := hrel
    by_cases hlt : k < xs.length
    · have hA' := hA.keep hbl
      rcases hA' with h | ⟨b, off, rfl, hb, hcell⟩
      · subst h; simp at hlt
      have hc0 := hcell k hlt
      have hx := hf.at_ k
      have hsb := sum_bd (xs := xs.take k) (fun x hx => hf x (List.mem_of_mem_take hx))
      have hts := take_sum xs k hlt
      rw [List.length_take] at hsb
      have hS1 : -85070591730234615865843651857942052864 ≤ (xs.take k).sum := by omega
      have hS2 : (xs.take k).sum ≤ 85070591730234615865843651857942052864 := by omega
      have HT := Lib.hid hts
      clear hts hcell hsb hA
      generalize xs.getD k 0 = x at *
      generalize (xs.take k).sum = S at *
      have c0 : wr.cell? ⟨w.heap.size, 0, none⟩ = some (.int .i64 (S / 18446744073709551616)) := hblk.cell 0
      have c1 : wr.cell? ⟨w.heap.size, 1, none⟩ = some (.int .u64 (S % 18446744073709551616)) := hblk.cell 1
      have f0 := hblk.frozen 0
      have f1 := hblk.frozen 1
      have hlt' := hblk.lt
      have PL := fun W => plus_any S x W hx.1 hx.2 hS1 hS2
      have PL' := Lib.hid PL
      clear PL hS1 hS2
      go_wp2_with (go_at_call 29; refine (PL'.out _).mono ?_; rintro e w1 ⟨rfl, hb1⟩; obtain ⟨hc1, hf1⟩ := bcell hb1)
      go_roundw
      case rel =>
        refine ⟨k + 1, by omega, by go_num, ((hbl.trans (hb1.mono hbl.size)).setCell (by simp) _).setCell (by simp) _, ?_⟩
        rw [HT.out]
        exact (((hblk.below hb1 hlt').put 0 _).put 1 _)
      case measure => simp [intOf]; omega
    · have hkl : k = xs.length := by omega
      subst hkl
      have hsb := sum_bd hf
      have hS1 : -85070591730234615865843651857942052864 ≤ xs.sum := by omega
      have hS2 : xs.sum ≤ 85070591730234615865843651857942052864 := by omega
      have NA := fun W => narrow_any xs.sum W hS1 hS2
      have NA' := Lib.hid NA
      have c0 : wr.cell? ⟨w.heap.size, 0, none⟩ = some (.int .i64 (xs.sum / 18446744073709551616)) := by rw [hblk.cell 0, List.take_length]; rfl
      have c1 : wr.cell? ⟨w.heap.size, 1, none⟩ = some (.int .u64 (xs.sum % 18446744073709551616)) := by rw [hblk.cell 1, List.take_length]; rfl
      clear NA hS1 hS2 hsb hblk
      go_wp2_with (go_at_call 30; refine (NA'.out _).mono ?_; rintro e w1 ⟨rfl, hb1⟩)
      go_ret2
      exact ⟨rfl, hbl.trans (hb1.mono hbl.size)⟩

set_option maxHeartbeats 400000 in
theorem sub_any (a : Int) (A : Option Addr) (n c : Nat) (xs : List Int) (w : World) (ha : -9223372036854775808 ≤ a) (ha' : a ≤ 9223372036854775807) (hA : Ints w .i64 A xs) (hn : xs.length = n) (hf : Fit64 xs) (hs : n ≤ 4294967296) :
    Calls Try.prog 11 #[.int .i64 a, .slice A n c] w fun e w' => e = .returned (.tuple #[.int .i64 (narV (a - xs.sum)), .int .i64 (narE (a - xs.sum))]) ∧ Below w.heap.size w w' := by
  subst hn
  go_enter Try.func11, Try.ntmps11
  go_wp2_with (go_at_call 34; refine (widen_any a _ ha ha').mono ?_; rintro e w0 ⟨rfl, hb0⟩)
  go_loopw [13] (fun i wr => ∃ k : Nat, k ≤ xs.length ∧ i = .int .i64 k ∧ Below w.heap.size w wr ∧ w0.heap.size < wr.heap.size ∧ w.heap.size ≤ w0.heap.size ∧ Blk wr w0.heap.size 47 #[.int .i64 ((a - (xs.take k).sum) / 18446744073709551616), .int .u64 ((a - (xs.take k).sum) % 18446744073709551616)]) (fun i _ => xs.length - (intOf i).toNat)
  case atStart => exact ⟨0, Nat.zero_le _, rfl, hb0.alloc hb0.size _, by simp, hb0.size, by simpa using Blk.new w0 _ _⟩
  case round =>
    obtain ⟨k, hk, rfl, hbl, hz0, hz1, hblk⟩ := hrel
    by_cases hlt : k < xs.length
    · have hA' := hA.keep hbl
      rcases hA' with h | ⟨b, off, rfl, hb, hcell⟩
      · subst h; simp at hlt
      have hc0 := hcell k hlt
      have hx := hf.at_ k
      have hsb := sum_bd (xs := xs.take k) (fun x hx => hf x (List.mem_of_mem_take hx))
      have hts := take_sum xs k hlt
      rw [List.length_take] at hsb
      have hts' : a - (xs.take (k + 1)).sum = (a - (xs.take k).sum) - xs.getD k 0 := by rw [hts]; omega
      have hS1 : -85070591730234615865843651857942052864 ≤ a - (xs.take k).sum := by omega
      have hS2 : a - (xs.take k).sum ≤ 85070591730234615865843651857942052864 := by omega
      have HT := Lib.hid hts'
      clear hts hts' hcell hsb hA
      generalize xs.getD k 0 = x at *
      generalize a - (xs.take k).sum = S at *
      have c0 : wr.cell? ⟨w0.heap.size, 0, none⟩ = some (.int .i64 (S / 18446744073709551616)) := hblk.cell 0
      have c1 : wr.cell? ⟨w0.heap.size, 1, none⟩ = some (.int .u64 (S % 18446744073709551616)) := hblk.cell 1
      have f0 := hblk.frozen 0
      have f1 := hblk.frozen 1
      have PL := fun W => less_any S x W hx.1 hx.2 hS1 hS2
      have PL' := Lib.hid PL
      clear PL hS1 hS2
      go_wp2_with (go_at_call 35; refine (PL'.out _).mono ?_; rintro e w1 ⟨rfl, hb1⟩; obtain ⟨hc1, hf1⟩ := bcell hb1)
      go_roundw
      case rel =>
        refine ⟨k + 1, by omega, by go_num, ((hbl.trans (hb1.mono hbl.size)).setCell (by simp; omega) _).setCell (by simp; omega) _, by have := hb1.size; simp; omega, hz1, ?_⟩
        rw [HT.out]
        exact (((hblk.below hb1 hz0).put 0 _).put 1 _)
      case measure => simp [intOf]; omega
    · have hkl : k = xs.length := by omega
      subst hkl
      have hsb := sum_bd hf
      have hS1 : -85070591730234615865843651857942052864 ≤ a - xs.sum := by omega
      have hS2 : a - xs.sum ≤ 85070591730234615865843651857942052864 := by omega
      have NA := fun W => narrow_any (a - xs.sum) W hS1 hS2
      have NA' := Lib.hid NA
      have c0 : wr.cell? ⟨w0.heap.size, 0, none⟩ = some (.int .i64 ((a - xs.sum) / 18446744073709551616)) := by rw [hblk.cell 0, List.take_length]; rfl
      have c1 : wr.cell? ⟨w0.heap.size, 1, none⟩ = some (.int .u64 ((a - xs.sum) % 18446744073709551616)) := by rw [hblk.cell 1, List.take_length]; rfl
      clear NA hS1 hS2 hsb hblk
      go_wp2_with (go_at_call 30; refine (NA'.out _).mono ?_; rintro e w1 ⟨rfl, hb1⟩)
      go_ret2
      exact ⟨rfl, hbl.trans (hb1.mono hbl.size)⟩

theorem neg_any (a : Int) (w : World) (ha : -9223372036854775808 ≤ a) (ha' : a ≤ 9223372036854775807) :
    Calls Try.prog 12 #[.int .i64 a] w fun e w' => e = .returned (.tuple #[.int .i64 (narV (-a)), .int .i64 (narE (-a))]) ∧ Below w.heap.size w w' := by
  have hi := Ints.one (k := .i64) (a := a) (Blk.new w 2 #[.int .i64 a])
  have hsum : (0 : Int) - [a].sum = -a := by simp
  have SB := sub_any 0 (some ⟨w.heap.size, 0, none⟩) 1 1 [a] _ (by omega) (by omega) hi rfl (fun x hx => by simp at hx; subst hx; exact ⟨ha, ha'⟩) (by omega)
  rw [hsum] at SB
  have SB' := Lib.hid SB
  clear SB hsum hi
  go_enter Try.func12, Try.ntmps12
  go_wp2_with (go_at_call 11; refine SB'.out.mono ?_; rintro e w1 ⟨rfl, hb1⟩)
  go_ret2
  exact ⟨rfl, ((Below.refl _ _).alloc (Nat.le_refl _) _).trans (hb1.mono (by simp))⟩

theorem mul64_small (x y : Nat) (w : World) (hx : x < 18446744073709551616) (hy : y < 18446744073709551616) (h : x * y < 18446744073709551616) :
    Calls Try.prog 31 #[.int .u64 x, .int .u64 y] w fun e w' => e = .returned (.tuple #[.int .u64 0, .int .u64 ((x * y : Nat) : Int)]) ∧ w = w' :=
  (Try.bits_Mul64 x y hx hy w).mono fun e w' ⟨h1, h2⟩ => ⟨by rw [h1, Nat.div_eq_of_lt h, Nat.mod_eq_of_lt h]; rfl, h2.symm⟩
theorem mul64_big (x y : Nat) (w : World) (hx : x < 18446744073709551616) (hy : y < 18446744073709551616) (h : 18446744073709551616 ≤ x * y) :
    Calls Try.prog 31 #[.int .u64 x, .int .u64 y] w fun e w' => ∃ hi lo : Nat, 1 ≤ hi ∧ e = .returned (.tuple #[.int .u64 hi, .int .u64 lo]) ∧ w = w' :=
  (Try.bits_Mul64 x y hx hy w).mono fun e w' ⟨h1, h2⟩ => ⟨_, _, by omega, h1, h2.symm⟩

set_option maxHeartbeats 400000 in
theorem mul_any (A : Option Addr) (n c : Nat) (xs : List Int) (w : World) (hA : Ints w .i64 A xs) (hn : xs.length = n) (hf : Fit64 xs) (hs : n ≤ 4294967296) :
    Calls Try.prog 10 #[.slice A n c] w fun e w' => e = .returned (.tuple #[.int .i64 (narV (Ar.prod xs)), .int .i64 (narE (Ar.prod xs))]) ∧ w = w' := by
  subst hn
  go_enter Try.func10, Try.ntmps10
  go_wp2
  go_loop [14] (fun i => ∃ k : Nat, k ≤ xs.length ∧ i = .int .i64 k ∧ Hid (∀ x ∈ xs.take k, x ≠ 0)) (fun i => xs.length - (intOf i).toNat)
  case atStart => exact ⟨0, Nat.zero_le _, rfl, Lib.hid (by simp)⟩
  case round =>
    obtain ⟨k, hk, rfl, hnz⟩ := hrel
    by_cases hlt : k < xs.length
    · rcases hA with h | ⟨b, off, rfl, hb, hcell⟩
      · subst h; simp at hlt
      have hc0 := hcell k hlt
      have hg : xs.getD k 0 = xs[k] := by simp [List.getD, hlt]
      by_cases hx0 : xs.getD k 0 = 0
      · have hz : Ar.prod xs = 0 := Ar.prod_zero xs (by rw [← hx0, hg]; exact List.getElem_mem hlt)
        rw [hx0] at hc0
        have HZ := Lib.hid hz
        clear hz hx0 hg hcell
        go_wp2
        go_ret2
        exact ⟨ret_two (by rw [HZ.out]; rfl) (by rw [HZ.out]; rfl), rfl⟩
      · have hnz' : Hid (∀ x ∈ xs.take (k + 1), x ≠ 0) := Lib.hid (by
          rw [List.take_succ_eq_append_getElem hlt]
          intro x hx
          rcases List.mem_append.1 hx with h | h
          · exact hnz.out x h
          · simp at h; subst h; rw [← hg]; exact hx0)
        have hx1 : (xs.getD k 0 == 0) = false := by simpa using hx0
        clear hx0 hg hcell
        generalize xs.getD k 0 = x at *
        go_wp2
        go_round
        case rel => exact ⟨k + 1, by omega, by go_num, hnz'⟩
        case measure => simp [intOf]; omega
    · have hkl : k = xs.length := by omega
      subst hkl
      have hall := hnz.out
      rw [List.take_length] at hall
      have HALL := Lib.hid hall
      clear hall hnz
      go_wp2
      go_loop [6, 7, 23] (fun s b i => ∃ k : Nat, k ≤ xs.length ∧ i = .int .i64 k ∧ s = .int .u64 ((Ar.prod (xs.take k)).natAbs : Int) ∧ b = .bool (decide (Ar.prod (xs.take k) < 0)) ∧ (Ar.prod (xs.take k)).natAbs < 18446744073709551616) (fun _ _ i => xs.length - (intOf i).toNat)
      case atStart => exact ⟨0, Nat.zero_le _, rfl, rfl, rfl, by simp [Ar.prod]⟩
      case round =>
        obtain ⟨k, hk, rfl, rfl, rfl, hsz⟩ := hrel
        by_cases hlt : k < xs.length
        · rcases hA with h | ⟨b, off, rfl, hb, hcell⟩
          · subst h; simp at hlt
          have hc0 := hcell k hlt
          have hx := hf.at_ k
          have hx' : xs.getD k 0 ≠ 0 := by
            have : xs.getD k 0 = xs[k] := by simp [List.getD, hlt]
            rw [this]; exact HALL.out _ (List.getElem_mem hlt)
          have hp' : Ar.prod (xs.take k) ≠ 0 := Ar.prod_ne _ fun x hx => HALL.out x (List.mem_of_mem_take hx)
          have hts := Ar.prod_take xs k hlt
          have hsg := Ar.sign_mul _ _ hp' hx'
          have hbig := Ar.prod_big xs (k + 1) HALL.out 18446744073709551616
          rw [hts] at hbig
          have hmag := mag_any (xs.getD k 0) w hx.1 hx.2
          have HT := Lib.hid hts
          clear hts hcell hx' hp'
          generalize xs.getD k 0 = x at *
          generalize Ar.prod (xs.take k) = P at *
          have hxn : x.natAbs < 18446744073709551616 := by omega
          have HM := Lib.hid hmag
          by_cases hb : P.natAbs * x.natAbs < 18446744073709551616
          · have M64 := mul64_small P.natAbs x.natAbs w hsz hxn hb
            have hq : P.natAbs * x.natAbs = (P * x).natAbs := by rw [Int.natAbs_mul]
            rw [hq] at M64 hb
            have HM2 := Lib.hid M64
            have HS := Lib.hid hsg
            clear M64 hmag hq hbig hsg
            go_wp2_with (first | (go_at_call 32; refine HM.out.mono ?_; rintro e w1 ⟨rfl, rfl⟩) | (go_at_call 31; refine HM2.out.mono ?_; rintro e w1 ⟨rfl, rfl⟩))
            go_round
            case rel => exact ⟨k + 1, by omega, by go_num, by rw [HT.out], by rw [HT.out, ← HS.out], by rw [HT.out]; exact hb⟩
            case measure => simp [intOf]; omega
          · have M64 := mul64_big P.natAbs x.natAbs w hsz hxn (by omega)
            have hq := hbig (by rw [Int.natAbs_mul]; omega)
            have hv : narV (Ar.prod xs) = 0 := by unfold narV; rw [if_neg (by omega)]
            have he : narE (Ar.prod xs) = 2 := by unfold narE; rw [if_neg (by omega)]
            have HV := Lib.hid hv
            have HE := Lib.hid he
            have HM2 := Lib.hid M64
            clear M64 hmag hq hbig hsg hv he
            go_wp2_with (first | (go_at_call 32; refine HM.out.mono ?_; rintro e w1 ⟨rfl, rfl⟩) | (go_at_call 31; refine HM2.out.mono ?_; rintro e w1 ⟨hi, lo, hh, rfl, rfl⟩; have hne : ((hi : Int) != 0) = true := by simp; omega))
            go_ret2
            exact ⟨ret_two HV.out.symm HE.out.symm, rfl⟩
        · have hkl : k = xs.length := by omega
          subst hkl
          have SG := signed_any ((Ar.prod xs).natAbs : Int) (decide (Ar.prod xs < 0)) w (by omega) (by rw [List.take_length] at hsz; omega)
          have e1 : (if decide (Ar.prod xs < 0) = true then -((Ar.prod xs).natAbs : Int) else ((Ar.prod xs).natAbs : Int)) = Ar.prod xs := by
            by_cases h : Ar.prod xs < 0
            · simp only [h, decide_true, if_true]; omega
            · simp only [h, decide_false, Bool.false_eq_true, if_false]; omega
          rw [e1] at SG
          have SG' := Lib.hid SG
          clear SG e1 hsz
          simp only [List.take_length]
          go_wp2_with (go_at_call 33; refine SG'.out.mono ?_; rintro e w1 ⟨rfl, rfl⟩)
          go_ret2
          exact ⟨rfl, rfl⟩
def lo (a : Int) (xs : List Int) : Int := xs.foldl (fun p x => if x < p then x else p) a
def hi (a : Int) (xs : List Int) : Int := xs.foldl (fun p x => if p < x then x else p) a
theorem lo_take (a : Int) (xs : List Int) (i : Nat) (h : i < xs.length) : lo a (xs.take (i + 1)) = if xs.getD i 0 < lo a (xs.take i) then xs.getD i 0 else lo a (xs.take i) := by
  have hg : xs.getD i 0 = xs[i] := by simp [List.getD, h]
  rw [hg, lo, List.take_succ_eq_append_getElem h, List.foldl_append]; rfl
theorem hi_take (a : Int) (xs : List Int) (i : Nat) (h : i < xs.length) : hi a (xs.take (i + 1)) = if hi a (xs.take i) < xs.getD i 0 then xs.getD i 0 else hi a (xs.take i) := by
  have hg : xs.getD i 0 = xs[i] := by simp [List.getD, h]
  rw [hg, hi, List.take_succ_eq_append_getElem h, List.foldl_append]; rfl
theorem least_any (a : Int) (A : Option Addr) (n c : Nat) (xs : List Int) (w : World) (hA : Ints w .i64 A xs) (hn : xs.length = n) (hs : n ≤ 4294967296) :
    Calls Try.prog 23 #[.int .i64 a, .slice A n c] w fun e w' => e = .returned (.int .i64 (lo a xs)) ∧ w = w' := by
  subst hn
  go_enter Try.func23, Try.ntmps23
  go_wp2
  go_loop [0, 9] (fun m i => ∃ k : Nat, k ≤ xs.length ∧ i = .int .i64 k ∧ m = .int .i64 (lo a (xs.take k))) (fun _ i => xs.length - (intOf i).toNat)
  case atStart => exact ⟨0, Nat.zero_le _, rfl, rfl⟩
  case round =>
    obtain ⟨k, hk, rfl, rfl⟩ := hrel
    by_cases hlt : k < xs.length
    · rcases hA with h | ⟨b, off, rfl, hb, hcell⟩
      · subst h; simp at hlt
      have hc0 := hcell k hlt
      have HT := Lib.hid (lo_take a xs k hlt)
      clear hcell
      generalize xs.getD k 0 = x at *
      generalize lo a (xs.take k) = P at *
      go_wp2
      go_round
      case rel => exact ⟨k + 1, by omega, by go_num, by rw [HT.out]⟩
      case measure => simp [intOf]; omega
    · have hkl : k = xs.length := by omega
      subst hkl
      simp only [List.take_length]
      go_wp2
      go_ret
      exact ⟨rfl, rfl⟩
theorem most_any (a : Int) (A : Option Addr) (n c : Nat) (xs : List Int) (w : World) (hA : Ints w .i64 A xs) (hn : xs.length = n) (hs : n ≤ 4294967296) :
    Calls Try.prog 24 #[.int .i64 a, .slice A n c] w fun e w' => e = .returned (.int .i64 (hi a xs)) ∧ w = w' := by
  subst hn
  go_enter Try.func24, Try.ntmps24
  go_wp2
  go_loop [0, 9] (fun m i => ∃ k : Nat, k ≤ xs.length ∧ i = .int .i64 k ∧ m = .int .i64 (hi a (xs.take k))) (fun _ i => xs.length - (intOf i).toNat)
  case atStart => exact ⟨0, Nat.zero_le _, rfl, rfl⟩
  case round =>
    obtain ⟨k, hk, rfl, rfl⟩ := hrel
    by_cases hlt : k < xs.length
    · rcases hA with h | ⟨b, off, rfl, hb, hcell⟩
      · subst h; simp at hlt
      have hc0 := hcell k hlt
      have HT := Lib.hid (hi_take a xs k hlt)
      clear hcell
      generalize xs.getD k 0 = x at *
      generalize hi a (xs.take k) = P at *
      go_wp2
      go_round
      case rel => exact ⟨k + 1, by omega, by go_num, by rw [HT.out]⟩
      case measure => simp [intOf]; omega
    · have hkl : k = xs.length := by omega
      subst hkl
      simp only [List.take_length]
      go_wp2
      go_ret
      exact ⟨rfl, rfl⟩

theorem div_awake (w : World) : Calls Try.prog 19 #[.int .i64 (-7), .int .i64 2] w fun e w' => e = .returned (.tuple #[.int .i64 (-4), .int .i64 0]) ∧ w = w' := div_any (-7) 2 w (by omega) (by omega) (by omega) (by omega)
theorem mod_awake (w : World) : Calls Try.prog 20 #[.int .i64 (-7), .int .i64 2] w fun e w' => e = .returned (.tuple #[.int .i64 1, .int .i64 0]) ∧ w = w' := mod_any (-7) 2 w (by omega) (by omega) (by omega) (by omega)
theorem add_awake (w : World) : Calls Try.prog 9 #[.slice (some ⟨w.heap.size, 0, none⟩) 3 3] (w.alloc (.cells #[.int .i64 4611686018427387904, .int .i64 4611686018427387904, .int .i64 (-1)] 2)) fun e w' => e = .returned (.tuple #[.int .i64 9223372036854775807, .int .i64 0]) ∧ Below (w.alloc (.cells #[.int .i64 4611686018427387904, .int .i64 4611686018427387904, .int .i64 (-1)] 2)).heap.size (w.alloc (.cells #[.int .i64 4611686018427387904, .int .i64 4611686018427387904, .int .i64 (-1)] 2)) w' := by
  have hb := Blk.new w 2 #[.int .i64 4611686018427387904, .int .i64 4611686018427387904, .int .i64 (-1)]
  have hi : Ints (w.alloc (.cells #[.int .i64 4611686018427387904, .int .i64 4611686018427387904, .int .i64 (-1)] 2)) .i64 (some ⟨w.heap.size, 0, none⟩) [4611686018427387904, 4611686018427387904, -1] :=
    .inr ⟨w.heap.size, 0, rfl, hb.lt, fun i hi => by
      have : i = 0 ∨ i = 1 ∨ i = 2 := by simp at hi; omega
      rcases this with rfl | rfl | rfl <;> (rw [hb.cell]; rfl)⟩
  exact add_any _ 3 3 [4611686018427387904, 4611686018427387904, -1] _ hi rfl (fun x hx => by simp at hx; rcases hx with rfl | rfl <;> omega) (by omega)
theorem awake_any (w : World) : Calls Try.prog 8 #[] w fun e w' => e = .returned (.bool true) ∧ Below w.heap.size w w' := by
  go_enter Try.func8, Try.ntmps8
  go_wp2_with (first | (go_at_call 19; refine (div_awake _).mono ?_; rintro e w1 ⟨rfl, rfl⟩) | (go_at_call 20; refine (mod_awake _).mono ?_; rintro e w1 ⟨rfl, rfl⟩) | (go_at_call 9; refine (add_awake _).mono ?_; rintro e w1 ⟨rfl, hb⟩))
  go_ret
  exact ⟨rfl, ((Below.refl _ _).alloc (Nat.le_refl _) _).trans (hb.mono (by simp))⟩
end Go.Proofs.Ytabdmhlnaahdlaa

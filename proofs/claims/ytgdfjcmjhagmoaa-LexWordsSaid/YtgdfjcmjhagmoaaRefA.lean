/- Contracts of the reference for package calc (affluxref01): numbers as lists of digits. -/
import Derived.Test.YtgdfjcmjhagmoaaCalcB
import Derived.Test.YtgdfjcmjhagmoaaNum
import Derived.BigQuiet
import Derived.Maps.AppendAt
namespace Go.Proofs.Ytgdfjcmjhagmoaa
open Go.ChangeShapes Go.WideShapes Go.ChangeAt Go.RowKit
open Ar (val Dig Canon)
theorem int_info : (Try.prog.info? 3).map (fun i => (i.zero, i.size, i.bytes)) = some (some (.int .i64 0), 1, 8) := by kernel_rfl

theorem trim_any (A : Option Addr) (n c : Nat) (D : List Int) (w : World) (hA : Ints w .i64 A D) (hn : D.length = n) (hc : n ≤ c) (hs : n ≤ 1000000) :
    Calls Try.prog 48 #[.slice A n c] w fun e w' => ∃ m, e = .returned (.slice A m c) ∧ w = w' ∧ m ≤ n ∧ Canon (D.take m) ∧ val (D.take m) = val D := by
  subst hn
  go_enter Try.func48, Try.ntmps48
  go_wp2
  go_loop [0] (fun s => ∃ m : Nat, m ≤ D.length ∧ s = .slice A m c ∧ Hid (∀ i, m ≤ i → i < D.length → D.getD i 0 = 0)) (fun s => match s with | .slice _ m _ => m | _ => 0)
  case atStart => exact ⟨D.length, Nat.le_refl _, rfl, Lib.hid (fun i h1 h2 => by omega)⟩
  case round =>
    obtain ⟨m, hm, rfl, hz⟩ := hrel
    by_cases h0 : 0 < m
    · rcases hA with h | ⟨b, off, rfl, hb, hcell⟩
      · subst h; simp at hm; omega
      obtain ⟨j, rfl⟩ : ∃ j, m = j + 1 := ⟨m - 1, by omega⟩
      have hc0 := hcell j (by omega)
      by_cases hd : D.getD j 0 = 0
      · have hz' := Lib.hid (show ∀ i, j ≤ i → i < D.length → D.getD i 0 = 0 from fun i h1 h2 => by
          by_cases h : i = j
          · subst h; exact hd
          · exact hz.out i (by omega) h2)
        rw [hd] at hc0
        have hjc : j ≤ c := by omega
        clear hcell hd
        go_wp2
        go_round
        case rel => exact ⟨j, by omega, rfl, hz'⟩
        case measure => simp
      · have hd' : (D.getD j 0 == 0) = false := by simpa using hd
        have hcan := Lib.hid (show Canon (D.take (j + 1)) from .inr (by
          rw [List.length_take, Nat.min_eq_left hm]; simpa [List.getD, List.getElem?_take] using hd))
        clear hcell hd
        generalize D.getD j 0 = d at *
        go_wp2
        go_ret
        exact ⟨j + 1, rfl, rfl, hm, hcan.out, Ar.val_trim D (j + 1) hm hz.out⟩
    · obtain rfl : m = 0 := by omega
      go_wp2
      go_ret
      exact ⟨0, rfl, rfl, Nat.zero_le _, .inl rfl, Ar.val_trim D 0 (Nat.zero_le _) hz.out⟩
/-- The array begins in block B or behind it. -/
def FreshA (B : Nat) (A : Option Addr) : Prop := ∀ a, A = some a → B ≤ a.block
theorem FreshA.mono {B C : Nat} {A : Option Addr} (h : FreshA B A) (hc : C ≤ B) : FreshA C A := fun a ha => Nat.le_trans hc (h a ha)
theorem fresh_own {w : World} {base : Nat} {e : TypeId} {size n c : Nat} {A : Option Addr} {xs : List Value} (h : w.ownsRow base e size (.slice A n c) n xs) : FreshA base A := by
  rintro a rfl; exact own_base h a.block rfl
theorem Ints.store {w : World} {k : IntKind} {A : Option Addr} {xs : List Int} (h : Ints w k A xs) {p : Addr} (hp : ∀ a, A = some a → a.block ≠ p.block) (u : Value) : Ints (w.setCell p u) k A xs := by
  rcases h with rfl | ⟨b, off, rfl, h2, h3⟩
  · exact .inl rfl
  · exact .inr ⟨b, off, rfl, by simpa using h2, fun i hi => (World.cell?_setCell_other w p _ u (fun e => hp _ rfl (by rw [e]))).trans (h3 i hi)⟩
/-- A number of the reference in memory: its sign, and its digits. -/
structure Num (w : World) (v : Value) (z : Int) (len B : Nat) : Prop where
  is : ∃ A c D, v = .agg #[.bool (decide (z < 0)), .slice A D.length c] ∧ Ints w .i64 A D ∧ FreshA B A ∧ D.length ≤ c ∧ Dig D ∧ Canon D ∧ val D = z.natAbs ∧ D.length ≤ len
theorem Num.keep {w w' : World} {v : Value} {z : Int} {len B : Nat} (h : Num w v z len B) (hb : Below w.heap.size w w') : Num w' v z len B := by
  obtain ⟨A, c, D, h1, h2, h3⟩ := h.is
  exact ⟨A, c, D, h1, h2.keep hb, h3⟩
theorem Ints.take {w : World} {k : IntKind} {A : Option Addr} {xs : List Int} (h : Ints w k A xs) (m : Nat) : Ints w k A (xs.take m) := by
  rcases h with rfl | ⟨b, off, h1, h2, h3⟩
  · exact .inl (by simp)
  · refine .inr ⟨b, off, h1, h2, fun i hi => ?_⟩
    rw [List.length_take] at hi
    rw [h3 i (by omega)]
    simp only [List.getD, List.getElem?_take]; rw [if_pos (by omega)]
theorem rsign_any (neg : Bool) (A : Option Addr) (n c : Nat) (D : List Int) (w : World) (z : Int) (hz : z = if neg = true then - val D else val D) (hA : Ints w .i64 A D) (hn : D.length = n) (hc : n ≤ c) (hs : n ≤ 1000000) (hd : Dig D) :
    Calls Try.prog 36 #[.bool neg, .slice A n c] w fun e w' => ∃ m, e = .returned (.agg #[.bool (decide (z < 0)), .slice A m c]) ∧ m ≤ n ∧ Hid (Canon (D.take m) ∧ val (D.take m) = z.natAbs) ∧ Below w.heap.size w w' := by
  have TR := Lib.hid (fun W => trim_any A n c D W)
  have HZ := Lib.hid hz
  have HA := Lib.hid hA
  have HN := Lib.hid hn
  clear hz hA hn
  cases neg
  · go_enter Try.func36, Try.ntmps36
    go_wp2_with (go_at_call 48; refine (TR.out _ (HA.out.keep ((Below.refl _ _).alloc (Nat.le_refl _) _)) HN.out hc hs).mono ?_; rintro e w1 ⟨m, rfl, rfl, hm, hcan, hval⟩)
    have hz := HZ.out
    have hn := HN.out
    have hb := Ar.val_bd _ (hd.take m)
    rw [hval] at hb
    simp only [Bool.false_eq_true, if_false] at hz
    have hnz : ¬ z < 0 := by rw [hz]; omega
    refine bodyPost_ret (v := .agg #[.bool false, .slice A m c]) (by simp [results, Try.results36, go_sem]) rfl ⟨m, ?_, hm, Lib.hid ⟨hcan, by rw [hval]; omega⟩, (Below.refl _ _).alloc (Nat.le_refl _) _⟩
    rw [show decide (z < 0) = false from decide_eq_false hnz]
  · go_enter Try.func36, Try.ntmps36
    go_wp2_with (go_at_call 48; refine (TR.out _ (HA.out.keep ((Below.refl _ _).alloc (Nat.le_refl _) _)) HN.out hc hs).mono ?_; rintro e w1 ⟨m, rfl, rfl, hm, hcan, hval⟩)
    have hz := HZ.out
    have hn := HN.out
    have hb := Ar.val_bd _ (hd.take m)
    have h0 := Ar.val_zero _ (hd.take m) hcan
    rw [hval] at hb h0
    simp only [if_true] at hz
    have hm0 : D.take m = [] ↔ m = 0 := by
      rw [← List.length_eq_zero_iff, List.length_take]; omega
    refine bodyPost_ret (v := .agg #[.bool (decide (0 < m)), .slice A m c]) (by simp [results, Try.results36, go_sem]) rfl ⟨m, ?_, hm, Lib.hid ⟨hcan, by rw [hval]; omega⟩, (Below.refl _ _).alloc (Nat.le_refl _) _⟩
    rw [show decide (z < 0) = decide (0 < m) from by have := h0.trans hm0; rw [decide_eq_decide]; omega]

set_option maxHeartbeats 400000 in
theorem of_any (a : Int) (w : World) (ha : -9223372036854775808 ≤ a) (ha' : a ≤ 9223372036854775807) :
    Calls Try.prog 46 #[.int .i64 a] w fun e w' => ∃ v, e = .returned v ∧ Num w' v a 20 w.heap.size ∧ Below w.heap.size w w' := by
  obtain ⟨i0, hi, hz0, hz1, hz2⟩ := info_parts int_info
  obtain ⟨N, hN⟩ : ∃ N : Int, N = a.natAbs := ⟨_, rfl⟩
  have hN0 : 0 ≤ N := by omega
  have hN1 : N < Ar.top 0 := by unfold Ar.top; omega
  have HN := Lib.hid hN
  have hneg : a < 0 → IntKind.u64.wrap (-IntKind.u64.wrap a) = N := by intro h; rw [IntKind.wrap_u64, IntKind.wrap_u64]; omega
  have hpos : ¬ a < 0 → a = N := by omega
  clear hN
  have hu : (if a < 0 then IntKind.u64.wrap (-IntKind.u64.wrap a) else a) = N := by
    by_cases h : a < 0
    · rw [if_pos h]; exact hneg h
    · rw [if_neg h]; exact hpos h
  have HU := Lib.hid hu
  clear hneg hpos hu
  by_cases hs : a < 0
  all_goals
    go_enter Try.func46, Try.ntmps46
    go_wp2
    go_loopw [3, 4] (fun u v wr => ∃ (k : Nat) (U : Int) (D : List Int), k ≤ 20 ∧ u = .int .u64 U ∧ Hid (D.length = k ∧ val D + 10 ^ k * U = N ∧ Dig D ∧ U < Ar.top k) ∧ 0 ≤ U ∧ U ≤ 18446744073709551615 ∧ wr.ownsRow (w.heap.size + 1) 3 1 v k (D.map (Value.int .i64)) ∧ Below w.heap.size w wr ∧ w.heap.size < wr.heap.size ∧ Blk wr w.heap.size 69 #[.bool false, .slice none 0 0]) (fun u _ _ => (intOf u).toNat)
    case atStart => exact ⟨0, N, [], Nat.zero_le _, by have := HU.out; first | rw [if_pos hs] at this; rw [this] | rw [if_neg (by omega)] at this; rw [this], Lib.hid ⟨rfl, by simp [val], fun d hd => by simp at hd, hN1⟩, hN0, by have := HN.out; omega, ⟨by simp, .inl ⟨rfl, rfl⟩⟩, (Below.refl _ _).alloc (Nat.le_refl _) _, by simp, Blk.new w _ _⟩
    case round =>
      obtain ⟨k, U, D, hk, rfl, hD, hU0, hU1, hown, hbl, hlt0, hblk⟩ := hrel
      by_cases h0 : 0 < U
      · have hst := Lib.hid (Ar.top_step k U h0 hD.out.2.2.2 hk)
        have hk20 := hst.out.1
        go_wp2_with (at_builtin; refine wpList_append_own _ rfl _ _ 67 rfl (w.heap.size + 1) 3 i0 (.int .i64 0) 1 8 Try.underlying67 hi hz0 hz1 hz2 rfl (by decide) _ _ _ rfl (hown.alloc _) ⟨wr.heap.size, 0, none⟩ 1 1 [.int .i64 (U % 10)] rfl rfl ?c1 ?c2 ?c3 ?c4 ?c5 ?_)
        case c1 => exact cell_one_new _ _ _
        case c2 => simp [Value.oneCell']
        case c3 => unfold maxLen; omega
        case c4 => omega
        case c5 => simp; omega
        intro v1 w1 hown1 hg1 _
        have hbl1 := grown_below hbl (by omega) hown hg1 (by omega)
        have hblk1 := grown_blk hblk (by omega) hown hg1
        have hsz1 := grown_size hg1
        go_wp2
        go_roundw
        case rel => exact ⟨k + 1, U / 10, D ++ [U % 10], by omega, rfl, Lib.hid ⟨by simp [hD.out.1], by rw [Ar.val_snoc, hD.out.1, Int.pow_succ]; exact Ar.split_step _ _ _ _ hD.out.2.1, hD.out.2.2.1.snoc (by omega) (by omega), hst.out.2⟩, by omega, by omega, by simpa using hown1, hbl1, by omega, hblk1⟩
        case measure => simp [intOf]; omega
      · obtain rfl : U = 0 := by omega
        obtain ⟨A, c, rfl, hI, hl, hc⟩ := ints_of_own hown
        have HI := Lib.hid hI
        have HL := Lib.hid hl
        clear hI hl
        have SG := Lib.hid (fun (b : Bool) (hb : b = decide (a < 0)) => rsign_any b A k c D wr a (by subst hb; have h1 := hD.out.2.1; have h2 := HN.out; simp only [Int.mul_zero, Int.add_zero] at h1; by_cases h : a < 0 <;> simp only [h, decide_true, decide_false, if_true, Bool.false_eq_true, if_false] <;> omega) HI.out HL.out hc (by omega) hD.out.2.2.1)
        have hfr := fresh_own hown
        go_wp2_with (go_at_call 36; refine (SG.out _ (by simp [hs])).mono ?_; rintro e w1 ⟨m, rfl, hm, hr1, hb1⟩; have hblk1 := hblk.below hb1 hlt0; have q0 := hblk1.cell 0; have q1 := hblk1.cell 1; have q2 := hblk1.frozen 0; have q3 := hblk1.frozen 1; simp at q0 q1)
        have hL := HL.out
        have hlm : (D.take m).length = m := by rw [List.length_take]; omega
        refine bodyPost_ret (v := .agg #[.bool (decide (a < 0)), .slice A m c]) (by simp [results, Try.results46, go_sem, q0, q1, hs]) rfl ⟨_, rfl, ⟨A, c, D.take m, by rw [hlm], ?_, hfr.mono (by omega), by omega, hD.out.2.2.1.take m, hr1.out.1, hr1.out.2, by omega⟩, ?_⟩
        · exact (((HI.out.keep hb1).take m).store (fun a ha => by have := hfr a ha; simp; omega) _).store (fun a ha => by have := hfr a ha; simp; omega) _
        · exact ((hbl.trans (hb1.mono hbl.size)).setCell (by simp) _).setCell (by simp) _
end Go.Proofs.Ytgdfjcmjhagmoaa

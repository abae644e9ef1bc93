/- Contracts of package queue at int: Take and Remove. -/
import Derived.Test.YtmmgicomidpmhaaQue
import Derived.Test.YtmmgicomidpmhaaShelf
import Derived.Sort.OwnSortedInts
namespace Go.Proofs.Ytmmgicomidpmhaa
open Go.ChangeShapes Go.WideShapes Go.ChangeAt Go.RowKit Go.Sort
theorem delete_own {w : World} {base : Nat} {v : Value} {xs : List Int} (hown : w.ownsRow base 3 1 v xs.length (xs.map (Value.int .i64))) (i j : Nat) (hij : i ≤ j) (hj : j ≤ xs.length) (hpos : 0 < xs.length) (hbig : xs.length ≤ 1000000) :
    Calls Try.prog 18 #[v, .int .i64 i, .int .i64 j] w fun e w' => ∃ v', e = .returned v' ∧ w'.ownsRow base 3 1 v' (xs.take i ++ xs.drop j).length ((xs.take i ++ xs.drop j).map (Value.int .i64)) ∧ w.grownBy w' v.ownBlock ∧ v'.ownBlock = v.ownBlock := by
  obtain ⟨i0, hi, hz0, hz1, hz2⟩ := info_parts info3
  rcases hown.2 with ⟨rfl, h0⟩ | ⟨g, cap, cur, rfl, hb, hh, hn, hc, hs, ht⟩
  · omega
  have hH := holds_of_blockI hh (by simpa using ht)
  have hsz : (xs.toArray).size = xs.length := by simp
  have D := Try.slices_Delete (Value.int .i64) (fun _ => rfl) (0 : Int) Try.zeroValue3 i0 hi hz1 g 0 cap i j xs.toArray w hH (by rw [hsz]; exact hn) (by unfold maxLen at hc; exact hc) hij (by rw [hsz]; exact hj)
  rw [hsz] at D
  refine D.mono ?_
  rintro e w' ⟨rfl, q, rfl⟩
  refine ⟨_, rfl, ?_, ?_, rfl⟩
  · have hlen : (xs.take i ++ xs.drop j).length = xs.length - (j - i) := by simp; omega
    have hts : (xs.take i ++ xs.drop j ++ List.replicate (j - i) (0 : Int)).length = xs.length := by simp; omega
    have hk := heap_sortedI (w := w) (g := g) (n := q) (os := #[]) (xs.take i ++ xs.drop j ++ List.replicate (j - i) (0 : Int)).toArray hh
    rw [grow_empty] at hk
    rw [hlen]
    refine ⟨by rw [List.length_map, hlen, Nat.mul_one], .inr ⟨g, cap, _, rfl, hb, hk, by omega, hc, by simp [putCells, hs], ?_⟩⟩
    have htk := take_putCellsI cur (xs.take i ++ xs.drop j ++ List.replicate (j - i) (0 : Int)) (by rw [hts, hs]; omega)
    have h2 := congrArg (List.take (xs.length - (j - i))) htk
    rw [List.take_take, hts, Nat.min_eq_left (by omega)] at h2
    rw [Nat.mul_one, h2, ← List.map_take, ← hlen, List.take_left]
  · have hk := grownBy_sortedI (w := w) (g := g) (n := q) (os := #[]) (xs.take i ++ xs.drop j ++ List.replicate (j - i) (0 : Int)).toArray
    rw [grow_empty] at hk
    exact hk
theorem clone_ints {w : World} {A : Option Addr} {xs : List Int} (hA : Ints w .i64 A xs) (n c : Nat) (hn : n ≤ xs.length) (hpos : 0 < n) (hbig : n ≤ 1000000) :
    Calls Try.prog 17 #[.slice A n c] w fun e w' => ∃ v', e = .returned v' ∧ w'.ownsRow w.heap.size 3 1 v' n ((xs.take n).map (Value.int .i64)) ∧ Below w.heap.size w w' := by
  obtain ⟨i0, hi, hz0, hz1, hz2⟩ := info_parts info3
  rcases hA with h0 | ⟨b, off, rfl, hb, hcell⟩
  · subst h0; simp at hn; omega
  refine (Try.slices_Clone i0 (.int .i64 0) 1 8 hi hz0 hz1 hz2 rfl (by decide) Try.sizeOf3 b off n c ((xs.take n).map (Value.int .i64)) w (by simp; omega) (by unfold maxLen; omega) (by omega) (fun j u hu => ?_) (ints_oneCell .i64 _)).mono ?_
  · have hj : j < n := by
      rcases Nat.lt_or_ge j n with hj | hj
      · exact hj
      · rw [List.getElem?_eq_none (by rw [List.length_map, List.length_take]; omega)] at hu; cases hu
    rw [List.getElem?_map, List.getElem?_take, if_pos hj, List.getElem?_eq_getElem (by omega)] at hu
    rw [hcell j (by omega), ← hu]
    simp [List.getD, List.getElem?_eq_getElem (show j < xs.length by omega)]
  · rintro e w' ⟨v', rfl, h1, _, h2⟩
    exact ⟨v', rfl, h1, h2⟩
end Go.Proofs.Ytmmgicomidpmhaa

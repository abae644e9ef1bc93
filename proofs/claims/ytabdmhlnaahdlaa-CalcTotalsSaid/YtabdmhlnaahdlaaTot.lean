/- Contracts of package calc: a Total takes numbers in and gives them back. -/
import Derived.Test.YtabdmhlnaahdlaaCalcB
import Derived.Test.YtabdmhlnaahdlaaRefG
namespace Go.Proofs.Ytabdmhlnaahdlaa
open Go.ChangeShapes Go.WideShapes Go.ChangeAt Go.RowKit
/-- Memory as it was, but for block g and for what is new. -/
structure But (g : Nat) (w w' : World) : Prop where
  os : w'.os = w.os
  tape : w'.tape = w.tape
  output : w'.output = w.output
  size : w.heap.size ≤ w'.heap.size
  block : ∀ k, k < w.heap.size → k ≠ g → w'.heap[k]? = w.heap[k]?
theorem But.refl (g : Nat) (w : World) : But g w w := ⟨rfl, rfl, rfl, Nat.le_refl _, fun _ _ _ => rfl⟩
theorem But.trans {g : Nat} {a b c : World} (h : But g a b) (k : But g b c) : But g a c :=
  ⟨k.os.trans h.os, k.tape.trans h.tape, k.output.trans h.output, Nat.le_trans h.size k.size, fun i hi hg => (k.block i (Nat.lt_of_lt_of_le hi h.size) hg).trans (h.block i hi hg)⟩
theorem But.of {g : Nat} {a b : World} (h : Below a.heap.size a b) : But g a b := ⟨h.os, h.tape, h.output, h.size, fun i hi _ => h.block i hi⟩
theorem But.put {g : Nat} {a b : World} (h : But g a b) (o : Nat) (u : Value) : But g a (b.setCell ⟨g, o, none⟩ u) :=
  ⟨h.os, h.tape, h.output, by simpa using h.size, fun i hi hg => (Below.heap_setCell b ⟨g, o, none⟩ u i hg).trans (h.block i hi hg)⟩
theorem But.below {g B : Nat} {a b : World} (h : But g a b) (hB : B ≤ g) (hs : B ≤ a.heap.size) : Below B a b := ⟨h.os, h.tape, h.output, h.size, fun i hi => h.block i (by omega) (by omega)⟩
theorem Blk.but {g h : Nat} {t : TypeId} {cs : Array Value} {w w' : World} (k : Blk w h t cs) (hb : But g w w') (hne : h ≠ g) : Blk w' h t cs := (hb.block h k.lt hne).trans k
def big (S : Int) : Prop := -20000000000000000000000000 ≤ S ∧ S ≤ 20000000000000000000000000
def totCells (S c : Int) : Array Value := #[.int .i64 (S / 18446744073709551616), .int .u64 (S % 18446744073709551616), .int .i64 c]

set_option maxHeartbeats 1000000 in
theorem put_any (g : Nat) (A : Option Addr) (n c : Nat) (xs : List Int) (S cnt : Int) (w0 w : World) (hg : Blk w g 49 (totCells S cnt)) (hA : Ints w0 .i64 A xs) (hw0 : Below w0.heap.size w0 w) (hg0 : w0.heap.size ≤ g) (hn : xs.length = n) (hs : n ≤ 1000) (hf : Fit64 xs) (hS : big S) (hc : -100000 ≤ cnt ∧ cnt ≤ 100000) :
    Calls Try.prog 26/-f-/ #[.pointer (some ⟨g, 0, none⟩), .slice A n c] w fun e w' => e = .returned (.tuple #[]) ∧ Blk w' g 49 (totCells (S + xs.sum) (cnt + n)) ∧ But g w w' := by
  subst hn
  obtain ⟨hS1, hS2⟩ := hS
  go_enter Try.func26, Try.ntmps26
  go_wp2
  go_loopw [10] (fun i wr => ∃ k : Nat, k ≤ xs.length ∧ i = .int .i64 k ∧ But g w wr ∧ Blk wr g 49 (totCells (S + (xs.take k).sum) cnt)) (fun i _ => xs.length - (intOf i).toNat)
  case atStart => exact ⟨0, Nat.zero_le _, rfl, But.refl _ _, by simpa using hg⟩
  case round =>
    obtain ⟨k, hk, rfl, hbl, hblk⟩ := hrel
    by_cases hlt : k < xs.length
    · have hA' := hA.keep (hw0.trans (hbl.below hg0 hw0.size))
      rcases hA' with h | ⟨b, off, rfl, hb, hcell⟩
      · subst h; simp at hlt
      have hc0 := hcell k hlt
      have hx := hf.at_ k
      have hsb := sum_bd (xs := xs.take k) (fun x hx => hf x (List.mem_of_mem_take hx))
      have hts := take_sum xs k hlt
      rw [List.length_take] at hsb
      have hts' : S + (xs.take (k + 1)).sum = (S + (xs.take k).sum) + xs.getD k 0 := by rw [hts]; omega
      have hU1 : -85070591730234615865843651857942052864 ≤ S + (xs.take k).sum := by omega
      have hU2 : S + (xs.take k).sum ≤ 85070591730234615865843651857942052864 := by omega
      have HT := Lib.hid hts'
      clear hts hts' hcell hsb hA
      generalize xs.getD k 0 = x at *
      generalize S + (xs.take k).sum = U at *
      have c0 : wr.cell? ⟨g, 0, none⟩ = some (.int .i64 (U / 18446744073709551616)) := hblk.cell 0
      have c1 : wr.cell? ⟨g, 1, none⟩ = some (.int .u64 (U % 18446744073709551616)) := hblk.cell 1
      have f0 := hblk.frozen 0
      have f1 := hblk.frozen 1
      have hlt' := hblk.lt
      have PL := Lib.hid (fun W => plus_any U x W hx.1 hx.2 hU1 hU2)
      clear hU1 hU2
      go_wp2_with (go_at_call 29; refine (PL.out _).mono ?_; rintro e w1 ⟨rfl, hb1⟩; obtain ⟨hc1, hf1⟩ := bcell hb1)
      go_roundw
      case rel =>
        refine ⟨k + 1, by omega, by go_num, ((hbl.trans (But.of hb1)).put _ _).put _ _, ?_⟩
        rw [HT.out]
        exact (((hblk.below hb1 hlt').put 0 _).put 1 _)
      case measure => simp [intOf]; omega
    · have hkl : k = xs.length := by omega
      subst hkl
      rw [List.take_length] at hblk
      have c2 : wr.cell? ⟨g, 2, none⟩ = some (.int .i64 cnt) := hblk.cell 2
      have f2 := hblk.frozen 2
      have hlt' := hblk.lt
      go_wp2
      go_end0
      exact ⟨rfl, hblk.put 2 (.int .i64 (cnt + xs.length)), hbl.put _ _⟩
theorem put_nil (A : Option Addr) (n c : Nat) (w : World) :
    Calls Try.prog 26/-f-/ #[.pointer none, .slice A n c] w fun e w' => e = .returned (.tuple #[]) ∧ w = w' := by
  go_enter Try.func26, Try.ntmps26
  go_wp2
  exact bodyPost_ret (v := .tuple #[]) (by simp [results, Try.results26, go_sem]) rfl ⟨rfl, rfl⟩

set_option maxHeartbeats 1000000 in
theorem take_any (g : Nat) (A : Option Addr) (n c : Nat) (xs : List Int) (S cnt : Int) (w0 w : World) (hg : Blk w g 49 (totCells S cnt)) (hA : Ints w0 .i64 A xs) (hw0 : Below w0.heap.size w0 w) (hg0 : w0.heap.size ≤ g) (hn : xs.length = n) (hs : n ≤ 1000) (hf : Fit64 xs) (hS : big S) (hc : -100000 ≤ cnt ∧ cnt ≤ 100000) :
    Calls Try.prog 25/-f-/ #[.pointer (some ⟨g, 0, none⟩), .slice A n c] w fun e w' => e = .returned (.tuple #[]) ∧ Blk w' g 49 (totCells (S - xs.sum) (cnt - n)) ∧ But g w w' := by
  subst hn
  obtain ⟨hS1, hS2⟩ := hS
  go_enter Try.func25, Try.ntmps25
  go_wp2
  go_loopw [10] (fun i wr => ∃ k : Nat, k ≤ xs.length ∧ i = .int .i64 k ∧ But g w wr ∧ Blk wr g 49 (totCells (S - (xs.take k).sum) cnt)) (fun i _ => xs.length - (intOf i).toNat)
  case atStart => exact ⟨0, Nat.zero_le _, rfl, But.refl _ _, by simpa using hg⟩
  case round =>
    obtain ⟨k, hk, rfl, hbl, hblk⟩ := hrel
    by_cases hlt : k < xs.length
    · have hA' := hA.keep (hw0.trans (hbl.below hg0 hw0.size))
      rcases hA' with h | ⟨b, off, rfl, hb, hcell⟩
      · subst h; simp at hlt
      have hc0 := hcell k hlt
      have hx := hf.at_ k
      have hsb := sum_bd (xs := xs.take k) (fun x hx => hf x (List.mem_of_mem_take hx))
      have hts := take_sum xs k hlt
      rw [List.length_take] at hsb
      have hts' : S - (xs.take (k + 1)).sum = (S - (xs.take k).sum) - xs.getD k 0 := by rw [hts]; omega
      have hU1 : -85070591730234615865843651857942052864 ≤ S - (xs.take k).sum := by omega
      have hU2 : S - (xs.take k).sum ≤ 85070591730234615865843651857942052864 := by omega
      have HT := Lib.hid hts'
      clear hts hts' hcell hsb hA
      generalize xs.getD k 0 = x at *
      generalize S - (xs.take k).sum = U at *
      have c0 : wr.cell? ⟨g, 0, none⟩ = some (.int .i64 (U / 18446744073709551616)) := hblk.cell 0
      have c1 : wr.cell? ⟨g, 1, none⟩ = some (.int .u64 (U % 18446744073709551616)) := hblk.cell 1
      have f0 := hblk.frozen 0
      have f1 := hblk.frozen 1
      have hlt' := hblk.lt
      have PL := Lib.hid (fun W => less_any U x W hx.1 hx.2 hU1 hU2)
      clear hU1 hU2
      go_wp2_with (go_at_call 35; refine (PL.out _).mono ?_; rintro e w1 ⟨rfl, hb1⟩; obtain ⟨hc1, hf1⟩ := bcell hb1)
      go_roundw
      case rel =>
        refine ⟨k + 1, by omega, by go_num, ((hbl.trans (But.of hb1)).put _ _).put _ _, ?_⟩
        rw [HT.out]
        exact (((hblk.below hb1 hlt').put 0 _).put 1 _)
      case measure => simp [intOf]; omega
    · have hkl : k = xs.length := by omega
      subst hkl
      rw [List.take_length] at hblk
      have c2 : wr.cell? ⟨g, 2, none⟩ = some (.int .i64 cnt) := hblk.cell 2
      have f2 := hblk.frozen 2
      have hlt' := hblk.lt
      go_wp2
      go_end0
      exact ⟨rfl, hblk.put 2 (.int .i64 (cnt - xs.length)), hbl.put _ _⟩
theorem take_nil (A : Option Addr) (n c : Nat) (w : World) :
    Calls Try.prog 25/-f-/ #[.pointer none, .slice A n c] w fun e w' => e = .returned (.tuple #[]) ∧ w = w' := by
  go_enter Try.func25, Try.ntmps25
  go_wp2
  exact bodyPost_ret (v := .tuple #[]) (by simp [results, Try.results25, go_sem]) rfl ⟨rfl, rfl⟩

theorem totsum_any (g : Nat) (S cnt : Int) (w : World) (hg : Blk w g 49 (totCells S cnt)) (hS : -85070591730234615865843651857942052864 ≤ S ∧ S ≤ 85070591730234615865843651857942052864) :
    Calls Try.prog 27/-f-/ #[.pointer (some ⟨g, 0, none⟩)] w fun e w' => e = .returned (.tuple #[.int .i64 (narV S), .int .i64 (narE S)]) ∧ Below w.heap.size w w' := by
  have NA := Lib.hid (narrow_any S w hS.1 hS.2)
  have c0 : w.cell? ⟨g, 0, none⟩ = some (.int .i64 (S / 18446744073709551616)) := hg.cell 0
  have c1 : w.cell? ⟨g, 1, none⟩ = some (.int .u64 (S % 18446744073709551616)) := hg.cell 1
  clear hS
  go_enter Try.func27, Try.ntmps27
  go_wp2_with (go_at_call 30; refine NA.out.mono ?_; rintro e w1 ⟨rfl, hb1⟩)
  go_ret2
  exact ⟨rfl, hb1⟩
theorem totsum_nil (w : World) : Calls Try.prog 27/-f-/ #[.pointer none] w fun e w' => e = .returned (.tuple #[.int .i64 0, .int .i64 0]) ∧ w = w' := by
  go_enter Try.func27, Try.ntmps27
  go_wp2
  go_ret2
  exact ⟨rfl, rfl⟩
theorem totcount_any (g : Nat) (S cnt : Int) (w : World) (hg : Blk w g 49 (totCells S cnt)) :
    Calls Try.prog 28/-f-/ #[.pointer (some ⟨g, 0, none⟩)] w fun e w' => e = .returned (.int .i64 cnt) ∧ w = w' := by
  have c2 : w.cell? ⟨g, 2, none⟩ = some (.int .i64 cnt) := hg.cell 2
  go_enter Try.func28, Try.ntmps28
  go_wp2
  go_ret
  exact ⟨rfl, rfl⟩
theorem totcount_nil (w : World) : Calls Try.prog 28/-f-/ #[.pointer none] w fun e w' => e = .returned (.int .i64 0) ∧ w = w' := by
  go_enter Try.func28, Try.ntmps28
  go_wp2
  go_ret
  exact ⟨rfl, rfl⟩
end Go.Proofs.Ytabdmhlnaahdlaa

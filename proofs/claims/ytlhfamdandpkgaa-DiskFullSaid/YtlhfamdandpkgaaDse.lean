/- Contracts of package disk: the names there are. -/
import Derived.Test.YtlhfamdandpkgaaDsd
import Derived.Test.YtlhfamdandpkgaaShelf
namespace Go.Proofs.Ytlhfamdandpkgaa
open Go.ChangeShapes Go.WideShapes Go.ChangeAt Go.RowKit Go.Maps Go.Sort
set_option maxRecDepth 100000 in
theorem infoS : (Try.prog.info? 9).map (fun i => (i.zero, i.size, i.bytes)) = some (some (.string ⟨#[]⟩), 1, 16) := by kernel_rfl
/-- A slice of the call's own that holds just these texts. -/
def RowS (w : World) (base : Nat) (v : Value) (ss : List (List UInt8)) : Prop := w.ownsRow base 9 1 v ss.length (ss.map encStr)
theorem RowS.nil (w : World) (base : Nat) : RowS w base (.slice none 0 0) [] := ⟨rfl, .inl ⟨rfl, rfl⟩⟩
set_option maxRecDepth 100000 in
theorem insort_nil (v : Value) (w : World) : Calls Try.prog 56/-f-/ #[v, .int .i64 0, .int .i64 0] w fun e w' => e = .returned (.tuple #[]) ∧ w' = w := by
  go_enter Try.func56, Try.ntmps56
  go_wp2
  go_loopw [6] (fun i wr => i = .int .i64 1 ∧ wr = w) (fun _ _ => 0)
  case atStart => exact ⟨rfl, rfl⟩
  case round =>
    obtain ⟨rfl, rfl⟩ := hrel
    go_wp2
    first | go_ret | go_end0 | ((try simp only [Exit.inBlock, Exit.then]); refine bodyPost_ret (results_none rfl _ _ _) rfl ?_)
    exact ⟨rfl, rfl⟩
set_option maxRecDepth 100000 in
theorem pdq_nil (v : Value) (n : Int) (w : World) : Calls Try.prog 54/-f-/ #[v, .int .i64 0, .int .i64 0, .int .i64 n] w fun e w' => e = .returned (.tuple #[]) ∧ w' = w := by
  have HI := Lib.hid (insort_nil v w)
  go_enter Try.func54, Try.ntmps54
  go_wp2
  go_loopw [1, 2] (fun x y wr => x = .int .i64 0 ∧ y = .int .i64 0 ∧ wr = w) (fun _ _ _ => 0)
  case atStart => exact ⟨rfl, rfl, rfl⟩
  case round =>
    obtain ⟨rfl, rfl, rfl⟩ := hrel
    go_wp2_with (go_at_call 56/-f-/; (with_reducible refine HI.out.mono ?_); rintro e w1 ⟨rfl, rfl⟩)
    first | go_ret | go_end0 | ((try simp only [Exit.inBlock, Exit.then]); refine bodyPost_ret (results_none rfl _ _ _) rfl ?_)
    exact ⟨rfl, rfl⟩
set_option maxRecDepth 100000 in
theorem sort_nil (w : World) : Calls Try.prog 48/-f-/ #[.slice none 0 0] w fun e w' => e = .returned (.tuple #[]) ∧ w' = w := by
  have HL := Lib.hid (Try.bits_Len 0 w (by decide) (by decide))
  have HP := fun n => Lib.hid (pdq_nil (.slice none 0 0) n w)
  go_enter Try.func48, Try.ntmps48
  go_wp2_with (first
    | (go_at_call 55/-f-/; (with_reducible refine HL.out.mono ?_); rintro e w1 ⟨rfl, rfl⟩)
    | (go_at_call 54/-f-/; (with_reducible refine (HP _).out.mono ?_); rintro e w1 ⟨rfl, rfl⟩))
  first | go_ret | go_end0 | ((try simp only [Exit.inBlock, Exit.then]); refine bodyPost_ret (results_none rfl _ _ _) rfl ?_)
  exact ⟨rfl, rfl⟩
set_option maxRecDepth 100000 in
set_option maxHeartbeats 8000000 in
theorem names0_any (base d : Nat) (p : Pw) (fl : List FRec) (A : Option Addr) (c : Nat) (w : World) (h : Dsk w base d p fl) :
    Calls Try.prog 21/-f-/ #[.pointer (some ⟨d, 0, none⟩), .slice A 0 c] w fun e w' => ∃ v, e = .returned v ∧ RowS w' w.heap.size v (fl.map FRec.nm) ∧ Below w.heap.size w w' := by
  obtain ⟨i0, hi, hz0, hz1, hz2⟩ := info_parts infoS
  obtain ⟨b, D, h1, h2, h3⟩ := h
  obtain ⟨c0, c1, c2, c3, c4, c5, hf, hlt⟩ := blk6 h2
  have HF := Lib.hid h3
  have hlen := h3.len
  have hl100 := h3.lens
  have hbl := h3.own.lt
  have HLEN := Lib.hid hlen
  clear h2 h3 hf c0 c1 c2 c3 c4 hlen
  go_enter Try.func21, Try.ntmps21
  go_wp2_with (first
    | (at_range; refine wpList_range_own _ rfl _ 63 rfl 9 72 (string_keyed Try.underlying9) Try.underlying63 Rp b (Maps.size D) D rfl HF.out.own ?_; intro w0 hrg0 hg0 hs0)
    | go_in)
  have HRG := Lib.hid hrg0
  have HB0 := Lib.hid (show Below w.heap.size w w0 from (Below.refl _ _).grown hg0 (Nat.le_refl _) (fun j hj => by cases hj))
  clear hrg0 hs0 hg0
  go_frame
  go_loopw [5, 6, 7] (fun v _ _ wr => ∃ (left : Lit → Bool) (cnt : Nat) (ss : List (List UInt8)), Hid (wr.ranges Try.prog 9 Rp b w.heap.size (Maps.size D) D left cnt) ∧ ss.length + cnt ≤ Maps.size D ∧ RowS wr w.heap.size v ss ∧ Hid (Collected D left ss) ∧ Hid (Below w.heap.size w wr))
    (fun _ _ _ wr => wr.rangeLeft b w.heap.size)
  case atStart => exact ⟨_, _, [], HRG, by simp, RowS.nil _ _, Lib.hid (Collected.start D), HB0⟩
  case round =>
    obtain ⟨left, cnt, ss, hrg, hcs, hrow, hC, hbl⟩ := hrel
    have hss : ss.length ≤ 100 := by have := HLEN.out; omega
    go_wp2_with (first
      | (at_next; refine wpList_next_ranges _ rfl _ rfl 9 (string_keyed Try.underlying9) Rp encStr pVal (fun key kl hk => by obtain ⟨x, hx, _⟩ := Maps.keyOf_str Try.underlying9 hk; exact ⟨x, hx⟩) (fun v y hv => by rcases Rp_inv hv with ⟨e, _⟩ | ⟨g, e, _⟩ <;> exact ⟨_, e⟩) b w.heap.size (Maps.size D) D left cnt rfl hrg.out ?_ ?_)
      | go_in)
    · intro hc0 hl0
      have HP := Lib.hid (hC.out.perm HF.out.own (string_keyed Try.underlying9) Try.underlying9 hl0)
      have HN := Lib.hid (show ss.mergeSort (fun x y => decide (x ≤ y)) = fl.map FRec.nm from by
        rw [← HF.out.nms]
        exact sorted_unique (List.pairwise_mergeSort leB_tr leB_to ss) (names_sorted D) ((List.mergeSort_perm ss leB).nodup_iff.2 hC.out.1) (names_nodup HF.out.own Try.underlying9) (fun x => by
          rw [show (fun x y => decide (x ≤ y)) = leB from rfl, (List.mergeSort_perm ss leB).mem_iff, HP.out.mem_iff, (names_perm D).mem_iff]))
      have HLN := Lib.hid (show (fl.map FRec.nm).length = ss.length from by rw [← HN.out, List.length_mergeSort])
      rcases hrow.2 with ⟨rfl, h0⟩ | ⟨g, cap, cur, rfl, hbase, hb, h1, h2, h3, h4⟩
      · have hS := fun W => Lib.hid (sort_nil W)
        go_wp2_with (go_at_call 48/-f-/; (with_reducible refine (hS _).out.mono ?_); rintro e w1 ⟨rfl, rfl⟩)
        go_ret
        exact ⟨_, rfl, by rw [show fl.map FRec.nm = [] from List.length_eq_zero_iff.1 (HLN.out.trans h0)]; exact RowS.nil _ _, hbl.out⟩
      · have hH : Holds encStr wr g 0 ss.toArray := holds_of_block hb (by simpa using h4)
        have hgl : g < wr.heap.size := (Array.getElem?_eq_some_iff.1 hb).1
        have hS := Lib.hid (Try.slices_Sort_string g 0 cap ss wr hH hgl (by omega))
        have HB := Lib.hid hb
        clear hb hH
        go_wp2_with (go_at_call 48/-f-/; (with_reducible refine hS.out.mono ?_); rintro e w1 ⟨rfl, nn, os, rfl⟩)
        go_ret
        refine ⟨_, rfl, ?_, hbl.out.grown (grownBy_sorted _) hbl.out.size (fun j hj => by cases hj; exact hbase)⟩
        have := ownsRow_sorted (n := nn) (os := os) (ts := ss.mergeSort (fun x y => decide (x ≤ y))) (by simp) hbase HB.out h1 h2 h3
        unfold RowS
        rw [HLN.out, ← HN.out]
        exact this
    · intro x c kl yd yp w2 cnt2 hkey hlk hv hat hrg2 hlt2 hg2 hs2 hen
      clear hs2
      obtain ⟨x', ex, rfl, _⟩ := Maps.keyOf_str Try.underlying9 hkey
      obtain rfl := encStr_inj ex
      have hrow2 := World.ownsRow.kept hrow hg2 (Or.inr (row_ne_iter hrow hrg.out).symm)
      have HB2 := Lib.hid (hbl.out.grown hg2 hbl.out.size (fun j hj => by cases hj; exact Nat.le_refl _))
      have HRG2 := Lib.hid hrg2
      have HH := Lib.hid (hC.out.step hlk hat)
      have hsz := HB2.out.size
      have HV := Lib.hid hrow2
      clear hv hkey hbl hg2 hrow hrow2 hrg2 hlk hat
      go_wp2_with (first
        | (at_builtin; refine wpList_append_own _ rfl _ _ 31 rfl w.heap.size 9 i0 (.string ⟨#[]⟩) 1 16 Try.underlying31 hi hz0 hz1 hz2 rfl (by decide) _ _ _ rfl ((HV.out.alloc _).alloc _) ⟨w2.heap.size + 1, 0, none⟩ 1 1 [encStr x] rfl rfl ?c1 ?c2 ?c3 ?c4 ?c5 ?_)
        | go_in)
      all_goals first
        | exact cell_one_new _ _ _
        | (intro u hu; obtain rfl := List.mem_singleton.1 hu; rfl)
        | rfl
        | (unfold maxLen; omega)
        | (simp only [World.size_alloc]; omega)
        | omega
        | skip
      intro v' w3 hown' hg3 hnil3
      have HR := Lib.hid (((HRG2.out.alloc _).alloc _).kept hg3 (fun e => by
          have := ((HV.out.lt _ e.symm).1); omega) (row_ne_iter HV.out HRG2.out))
      have HB3 := Lib.hid (((HB2.out.alloc HB2.out.size _).alloc (by simp; omega) _).grown hg3 (by simp; omega) (fun j hj => (HV.out.lt j hj).1))
      have HV3 := Lib.hid hown'
      clear hg3 hown' hnil3
      go_wp2
      go_roundw
      case rel => exact ⟨_, cnt2, ss ++ [x], HR, by simp; omega, by simpa [RowS] using HV3.out, HH, HB3⟩
      case measure => rw [HR.out.left_eq, hrg.out.left_eq]; exact hlt2
end Go.Proofs.Ytlhfamdandpkgaa

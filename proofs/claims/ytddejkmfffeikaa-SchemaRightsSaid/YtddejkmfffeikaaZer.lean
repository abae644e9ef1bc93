/- Contracts of package schema: a row of nothing. -/
import Derived.Test.YtddejkmfffeikaaOps
namespace Go.Proofs.Ytddejkmfffeikaa
open Go.ChangeShapes Go.WideShapes Go.ChangeAt Go.RowKit
def zeroV (c : Col) : Val := ⟨if 1 ≤ c.kd ∧ c.kd ≤ 3 then c.kd else 0, 0, ⟨#[]⟩⟩
theorem own_still {W W' : World} {B e size n : Nat} {v : Value} {xs : List Value} (h : W.ownsRow B e size v n xs) (hb : Below W.heap.size W W') : W'.ownsRow B e size v n xs := by
  obtain ⟨h0, h⟩ := h
  refine ⟨h0, ?_⟩
  rcases h with h | ⟨g, cap, cur, hv, hb2, hh, hr⟩
  · exact .inl h
  · exact .inr ⟨g, cap, cur, hv, hb2, by rw [hb.block g (Blk.lt hh)]; exact hh, hr⟩
set_option maxRecDepth 100000 in
set_option maxHeartbeats 8000000 in
theorem zero_any (v : Value) (s : Sch) (w : World) (hv : SchV w v s) (hf : FitS s) (hcl : s.cols.length ≤ 1000) :
    Calls Try.prog 12/-f-/ #[v] w fun e w' => (∃ u, e = .returned u ∧ RowV w' w.heap.size u (s.cols.map zeroV)) ∧ Below w.heap.size w w' := by
  obtain ⟨A, B, c, d, rfl, hC, hI, hc, hd⟩ := hv.is
  obtain ⟨i0, hi, hz0, hz1, hz2⟩ := info_parts info35
  have HC := Lib.hid hC
  have HFC := Lib.hid hf.cols
  have HB0 := Lib.hid ((Below.refl w.heap.size w).alloc (Nat.le_refl _) (.cells #[.string s.nm, .slice A s.cols.length c, .slice B s.idx.length d, .int .i64 s.limit, .int .i64 s.parts, .int .i64 s.by_] 25))
  clear hC hI hf hv
  go_enter Try.func12, Try.ntmps12
  go_wp2
  go_loopw [3, 5, 6, 10] (fun u _ _ i wr => ∃ k : Nat, k ≤ s.cols.length ∧ i = .int .i64 k ∧ Below w.heap.size w wr ∧ RowV wr w.heap.size u ((s.cols.take k).map zeroV)) (fun _ _ _ i _ => s.cols.length - (intOf i).toNat)
  case atStart => exact ⟨0, Nat.zero_le _, rfl, HB0.out, World.ownsRow_nil _ _ _ _⟩
  case round =>
    obtain ⟨k, hk, rfl, hbl, hrow⟩ := hrel
    have hsz := hbl.size
    have HROW := Lib.hid hrow
    clear hrow
    by_cases hlt : k < s.cols.length
    · rcases HC.out with h | ⟨b, off, rfl, hbw, hcell⟩
      · rw [h] at hlt; simp at hlt
      obtain ⟨y0, y1⟩ := hcell k hlt
      replace y0 := (hbl.cell (p := ⟨b, off + k * 2, none⟩) hbw).trans y0
      replace y1 := (hbl.cell (p := ⟨b, off + k * 2 + 1, none⟩) hbw).trans y1
      have hbx : b < wr.heap.size := Nat.lt_of_lt_of_le hbw hsz
      have HT := Lib.hid (show s.cols.take (k + 1) = s.cols.take k ++ [s.cols.getD k default] from by rw [List.take_succ_eq_append_getElem hlt]; simp [List.getD, List.getElem?_eq_getElem hlt])
      have hlk : ((s.cols.take k).map zeroV).length = k := by rw [List.length_map, List.length_take]; omega
      clear hcell
      generalize s.cols.getD k default = x at *
      obtain ⟨xn, xk⟩ := x
      simp only at y0 y1
      obtain ⟨acc, hacc⟩ : ∃ acc, acc = (s.cols.take k).map zeroV := ⟨_, rfl⟩
      rw [← hacc] at HROW hlk
      have HACC := Lib.hid hacc
      clear hacc
      by_cases k1 : 1 ≤ xk ∧ xk ≤ 3
      · obtain ⟨k1, k3⟩ := k1
        have HZ := Lib.hid (show zeroV ⟨xn, xk⟩ = ⟨xk, 0, ⟨#[]⟩⟩ from by unfold zeroV; simp only; rw [if_pos ⟨k1, k3⟩])
        have HBZ := Lib.hid (show Below wr.heap.size wr ((wr.alloc (.cells #[.string xn, .int .i64 xk] 29)).alloc (.cells #[.int .i64 xk, .int .i64 0, .string ⟨#[]⟩] 55)) from ((Below.refl _ _).alloc (Nat.le_refl _) _).alloc (by simp) _)
        have HKZ := Lib.hid (show Blk ((wr.alloc (.cells #[.string xn, .int .i64 xk] 29)).alloc (.cells #[.int .i64 xk, .int .i64 0, .string ⟨#[]⟩] 55)) (wr.heap.size + 1) 55 #[.int .i64 xk, .int .i64 0, .string ⟨#[]⟩] from by have := Blk.new (wr.alloc (.cells #[.string xn, .int .i64 xk] 29)) 55 #[.int .i64 xk, .int .i64 0, .string ⟨#[]⟩]; simpa using this)
        go_upto_region 8 with fail
        generalize ((wr.alloc (.cells #[.string xn, .int .i64 xk] 29)).alloc (.cells #[.int .i64 xk, .int .i64 0, .string ⟨#[]⟩] 55)) = W2 at *
        generalize wr.heap.size + 1 = P2 at *
        have b0 := HKZ.out.cell 0
        have b1 := HKZ.out.cell 1
        have b2 := HKZ.out.cell 2
        have bl := HKZ.out.lt
        simp only [List.getElem?_toArray, List.getElem?_cons_zero, List.getElem?_cons_succ] at b0 b1 b2
        have HB2 := Lib.hid (hbl.trans (HBZ.out.mono hsz))
        have hsz2 := HB2.out.size
        have HROW2 := Lib.hid (own_still HROW.out HBZ.out)
        go_wp2_with (at_builtin; refine wpList_append_src _ rfl _ _ 35 rfl w.heap.size 55 i0 (.agg #[.int .i64 0, .int .i64 0, .string ⟨#[]⟩]) 3 32 Try.underlying35/-t-/ hi hz0 hz1 hz2 rfl (by decide) u3 acc.length _ rfl (World.ownsRow.alloc HROW2.out _) (some ⟨W2.heap.size, 0, none⟩) 1 1 [.int .i64 xk, .int .i64 0, .string ⟨#[]⟩] rfl (Src.val W2 ⟨xk, 0, ⟨#[]⟩⟩) (by unfold maxLen; omega) (by omega) (by simp; omega) ?_; intro v3 w3 hown3 hgr3 hnew3; have HO3 := Lib.hid hown3; have HG3 := Lib.hid hgr3; clear hown3 hgr3 hnew3)
        go_roundw
        case rel =>
          refine ⟨k + 1, by omega, by go_num, (HB2.out.alloc hsz2 _).grown HG3.out (by simp; omega) (fun g h => (HROW2.out.lt g h).1), ?_⟩
          have h3 := HO3.out
          rw [HT.out, List.map_append, ← HACC.out, List.map_singleton, HZ.out]
          unfold RowV
          rw [vcells_append, List.length_append]
          exact h3
        case measure => simp [intOf]; omega
      · have HZ := Lib.hid (show zeroV ⟨xn, xk⟩ = ⟨0, 0, ⟨#[]⟩⟩ from by unfold zeroV; simp only; rw [if_neg k1])
        by_cases k2 : 1 ≤ xk
        · have k3 : ¬ xk ≤ 3 := fun h => k1 ⟨k2, h⟩
          clear k1
          have HBZ := Lib.hid (show Below wr.heap.size wr ((wr.alloc (.cells #[.string xn, .int .i64 xk] 29)).alloc (.cells #[.int .i64 0, .int .i64 0, .string ⟨#[]⟩] 55)) from ((Below.refl _ _).alloc (Nat.le_refl _) _).alloc (by simp) _)
          have HKZ := Lib.hid (show Blk ((wr.alloc (.cells #[.string xn, .int .i64 xk] 29)).alloc (.cells #[.int .i64 0, .int .i64 0, .string ⟨#[]⟩] 55)) (wr.heap.size + 1) 55 #[.int .i64 0, .int .i64 0, .string ⟨#[]⟩] from by have := Blk.new (wr.alloc (.cells #[.string xn, .int .i64 xk] 29)) 55 #[.int .i64 0, .int .i64 0, .string ⟨#[]⟩]; simpa using this)
          go_upto_region 8 with fail
          generalize ((wr.alloc (.cells #[.string xn, .int .i64 xk] 29)).alloc (.cells #[.int .i64 0, .int .i64 0, .string ⟨#[]⟩] 55)) = W2 at *
          generalize wr.heap.size + 1 = P2 at *
          have b0 := HKZ.out.cell 0
          have b1 := HKZ.out.cell 1
          have b2 := HKZ.out.cell 2
          have bl := HKZ.out.lt
          simp only [List.getElem?_toArray, List.getElem?_cons_zero, List.getElem?_cons_succ] at b0 b1 b2
          have HB2 := Lib.hid (hbl.trans (HBZ.out.mono hsz))
          have hsz2 := HB2.out.size
          have HROW2 := Lib.hid (own_still HROW.out HBZ.out)
          go_wp2_with (at_builtin; refine wpList_append_src _ rfl _ _ 35 rfl w.heap.size 55 i0 (.agg #[.int .i64 0, .int .i64 0, .string ⟨#[]⟩]) 3 32 Try.underlying35/-t-/ hi hz0 hz1 hz2 rfl (by decide) u3 acc.length _ rfl (World.ownsRow.alloc HROW2.out _) (some ⟨W2.heap.size, 0, none⟩) 1 1 [.int .i64 0, .int .i64 0, .string ⟨#[]⟩] rfl (Src.val W2 ⟨0, 0, ⟨#[]⟩⟩) (by unfold maxLen; omega) (by omega) (by simp; omega) ?_; intro v3 w3 hown3 hgr3 hnew3; have HO3 := Lib.hid hown3; have HG3 := Lib.hid hgr3; clear hown3 hgr3 hnew3)
          go_roundw
          case rel =>
            refine ⟨k + 1, by omega, by go_num, (HB2.out.alloc hsz2 _).grown HG3.out (by simp; omega) (fun g h => (HROW2.out.lt g h).1), ?_⟩
            have h3 := HO3.out
            rw [HT.out, List.map_append, ← HACC.out, List.map_singleton, HZ.out]
            unfold RowV
            rw [vcells_append, List.length_append]
            exact h3
          case measure => simp [intOf]; omega
        · clear k1
          have HBZ := Lib.hid (show Below wr.heap.size wr ((wr.alloc (.cells #[.string xn, .int .i64 xk] 29)).alloc (.cells #[.int .i64 0, .int .i64 0, .string ⟨#[]⟩] 55)) from ((Below.refl _ _).alloc (Nat.le_refl _) _).alloc (by simp) _)
          have HKZ := Lib.hid (show Blk ((wr.alloc (.cells #[.string xn, .int .i64 xk] 29)).alloc (.cells #[.int .i64 0, .int .i64 0, .string ⟨#[]⟩] 55)) (wr.heap.size + 1) 55 #[.int .i64 0, .int .i64 0, .string ⟨#[]⟩] from by have := Blk.new (wr.alloc (.cells #[.string xn, .int .i64 xk] 29)) 55 #[.int .i64 0, .int .i64 0, .string ⟨#[]⟩]; simpa using this)
          go_upto_region 8 with fail
          generalize ((wr.alloc (.cells #[.string xn, .int .i64 xk] 29)).alloc (.cells #[.int .i64 0, .int .i64 0, .string ⟨#[]⟩] 55)) = W2 at *
          generalize wr.heap.size + 1 = P2 at *
          have b0 := HKZ.out.cell 0
          have b1 := HKZ.out.cell 1
          have b2 := HKZ.out.cell 2
          have bl := HKZ.out.lt
          simp only [List.getElem?_toArray, List.getElem?_cons_zero, List.getElem?_cons_succ] at b0 b1 b2
          have HB2 := Lib.hid (hbl.trans (HBZ.out.mono hsz))
          have hsz2 := HB2.out.size
          have HROW2 := Lib.hid (own_still HROW.out HBZ.out)
          go_wp2_with (at_builtin; refine wpList_append_src _ rfl _ _ 35 rfl w.heap.size 55 i0 (.agg #[.int .i64 0, .int .i64 0, .string ⟨#[]⟩]) 3 32 Try.underlying35/-t-/ hi hz0 hz1 hz2 rfl (by decide) u3 acc.length _ rfl (World.ownsRow.alloc HROW2.out _) (some ⟨W2.heap.size, 0, none⟩) 1 1 [.int .i64 0, .int .i64 0, .string ⟨#[]⟩] rfl (Src.val W2 ⟨0, 0, ⟨#[]⟩⟩) (by unfold maxLen; omega) (by omega) (by simp; omega) ?_; intro v3 w3 hown3 hgr3 hnew3; have HO3 := Lib.hid hown3; have HG3 := Lib.hid hgr3; clear hown3 hgr3 hnew3)
          go_roundw
          case rel =>
            refine ⟨k + 1, by omega, by go_num, (HB2.out.alloc hsz2 _).grown HG3.out (by simp; omega) (fun g h => (HROW2.out.lt g h).1), ?_⟩
            have h3 := HO3.out
            rw [HT.out, List.map_append, ← HACC.out, List.map_singleton, HZ.out]
            unfold RowV
            rw [vcells_append, List.length_append]
            exact h3
          case measure => simp [intOf]; omega
    · have hkl : k = s.cols.length := by omega
      subst hkl
      rw [List.take_length] at HROW
      obtain ⟨A5, c5, rfl⟩ := own_slice HROW.out
      go_wp2
      go_ret
      exact ⟨⟨_, rfl, HROW.out⟩, hbl⟩
end Go.Proofs.Ytddejkmfffeikaa

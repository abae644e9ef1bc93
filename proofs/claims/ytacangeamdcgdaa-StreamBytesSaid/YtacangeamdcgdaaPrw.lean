/- Contracts of the document's reader: rows. -/
import Derived.Test.YtacangeamdcgdaaPrv
namespace Go.Proofs.Ytacangeamdcgdaa
open Go.ChangeShapes Go.WideShapes Go.ChangeAt Go.RowKit
theorem Pt.grown {w w' : World} {g base e size n : Nat} {st : Option (List UInt8)} {v : Value} {xs : List Value} (h : Pt w g st) (hr : w.ownsRow base e size v n xs) (hgb : g < base) (hg : w.grownBy w' v.ownBlock) : Pt w' g st := by
  obtain ⟨s, hB, h1, h2⟩ := h
  exact ⟨s, (hg.block g hB.lt (fun e => by have := (World.ownsRow.lt hr g e.symm).1; omega)).trans hB, h1, h2⟩
set_option maxRecDepth 100000 in
set_option maxHeartbeats 8000000 in
theorem prow_any (g : Nat) (most : Int) (st : Option (List UInt8)) (w : World) (h : Pt w g st) (hm : -9223372036854775808 ≤ most ∧ most ≤ 9223372036854775807) (hl : (st.getD []).length ≤ 100000000) :
    Calls Try.prog 53/-f-/ #[.pointer (some ⟨g, 0, none⟩), .int .i64 most] w fun e w' => (∃ u, e = .returned u ∧ RowV w' w.heap.size u (stepR [] (rowR most) st).1) ∧ Pt w' g (stepR [] (rowR most) st).2 ∧ Off (· = g) w w' := by
  obtain ⟨i0, hi, hz0, hz1, hz2⟩ := info_parts info35
  have hgl : g < w.heap.size := h.lt
  have S := Lib.hid (psize_any g most st w h hm)
  have HRES := Lib.hid (step_many most valR (rowR most) (fun _ => rfl) st)
  have HL1 := Lib.hid (Nat.le_trans (len_size most st) hl)
  have hmn := size_lt most st hm.2
  clear h hl
  generalize stepR [] (rowR most) st = res at *
  generalize stepR 0 (sizeR most) st = q at *
  obtain ⟨n, st1⟩ := q
  simp only at S HRES HL1 hmn
  go_enter Try.func53, Try.ntmps53
  go_wp2_with (go_at_call 29/-f-/; (with_reducible refine S.out.mono ?_); rintro e w1 ⟨rfl, hr1, ho1⟩)
  have HR1 := Lib.hid hr1
  have HO1 := Lib.hid ho1
  clear hr1 ho1 S
  go_loopw [6, 7] (fun lv iv wr => ∃ (acc : List Val) (k : Nat) (s : Option (List UInt8)), iv = .int .i64 k ∧ k ≤ n ∧ RowV wr w.heap.size lv acc ∧ Pt wr g s ∧ Off (· = g) w wr ∧ (s.isSome = true → acc.length + (s.getD []).length ≤ 100000000) ∧ acc.length ≤ 100000001 ∧ Hid (res = moreR valR acc (n - k) s)) (fun _ iv _ => n - (intOf iv).toNat)
  case atStart => exact ⟨[], 0, st1, rfl, Nat.zero_le _, World.ownsRow_nil _ _ _ _, HR1.out, HO1.out, fun _ => by simpa using HL1.out, by simp, HRES⟩
  case round =>
    obtain ⟨acc, k, s, rfl, hkn, hrow, hrd, ho, hb1, hb2, heq⟩ := hrel
    have HROW := Lib.hid hrow
    have HRD := Lib.hid hrd
    have HO := Lib.hid ho
    have hbs : w.heap.size ≤ wr.heap.size := ho.size
    clear hrow hrd ho
    cases s with
    | none =>
      have HRS := Lib.hid (show res = ([], none) from by rw [heq.out]; rfl)
      obtain ⟨pS, pB, _, _⟩ := HRD.out; have pc := pB.cell 1; have pl := pB.lt; simp only [List.getElem?_toArray, List.getElem?_cons_zero, List.getElem?_cons_succ, Option.isNone_none, Option.isNone_some] at pc; clear pB
      by_cases h0 : k = n
      · subst h0
        go_wp2
        go_ret
        rw [HRS.out]
        exact ⟨⟨_, rfl, World.ownsRow_nil _ _ _ _⟩, HRD.out, HO.out⟩
      · have hpos : k < n := by omega
        clear h0
        go_wp2
        go_ret
        rw [HRS.out]
        exact ⟨⟨_, rfl, World.ownsRow_nil _ _ _ _⟩, HRD.out, HO.out⟩
    | some l =>
      obtain ⟨pS, pB, _, _⟩ := HRD.out; have pc := pB.cell 1; have pl := pB.lt; simp only [List.getElem?_toArray, List.getElem?_cons_zero, List.getElem?_cons_succ, Option.isNone_none, Option.isNone_some] at pc; clear pB
      by_cases h0 : k = n
      · subst h0
        have HRS := Lib.hid (show res = (acc, some l) from by rw [heq.out, Nat.sub_self, moreR_zero])
        obtain ⟨A, c, rfl⟩ := own_slice HROW.out
        go_wp2
        go_ret
        rw [HRS.out]
        exact ⟨⟨_, rfl, HROW.out⟩, HRD.out, HO.out⟩
      · have hpos : k < n := by omega
        have HEQ := Lib.hid (show res = moreR valR (acc ++ [(stepR zeroV valR (some l)).1]) (n - (k + 1)) (stepR zeroV valR (some l)).2 from by
          have := heq.out
          rw [show n - k = (n - (k + 1)) + 1 by omega] at this
          exact this.trans (moreR_succ zeroV valR acc _ l))
        have hsum := hb1 rfl
        simp only [Option.getD_some] at hsum
        have HLS := Lib.hid (len_step zeroV valR (fun l x r h => val_short l r x h) l)
        have V := Lib.hid (pvalue_any g (some l) wr HRD.out)
        clear h0 heq hb1
        generalize stepR zeroV valR (some l) = q at *
        obtain ⟨x, s'⟩ := q
        simp only at V HEQ HLS
        go_wp2_with (first
          | (go_at_call 74/-f-/; (with_reducible refine V.out.mono ?_); rintro e w2 ⟨rfl, hr2, ho2⟩; have HR2 := Lib.hid hr2; have HROW2 := Lib.hid (rowV_off HROW.out hgl ho2); have HO2 := Lib.hid (off_trans HO.out ho2); have hbs2 : w.heap.size ≤ w2.heap.size := HO2.out.size; clear hr2 ho2)
          | (at_builtin; refine wpList_append_src _ rfl _ _ 76 rfl w.heap.size 93 i0 (.agg #[.int .i64 0, .int .i64 0, .string ⟨#[]⟩]) 3 32 Try.underlying76/-t-/ hi hz0 hz1 hz2 rfl (by decide) u6 acc.length _ rfl (World.ownsRow.alloc HROW2.out _) (some ⟨w2.heap.size, 0, none⟩) 1 1 [.int .i64 x.k, .int .i64 x.n, .string x.s] rfl (Src.val w2 x) (by unfold maxLen; omega) (by omega) (by simp; omega) ?_; intro v3 w3 hown3 hgr3 hnew3; have HO3 := Lib.hid hown3; have HG3 := Lib.hid hgr3; clear hown3 hgr3 hnew3))
        go_roundw
        case rel =>
          refine ⟨acc ++ [x], k + 1, s', by go_num, by omega, ?_, ?_, ?_, ?_, by simp; omega, HEQ⟩
          · have h3 := HO3.out
            unfold RowV
            rw [vcells_append, List.length_append]
            exact h3
          · exact (HR2.out.more ((Below.refl _ _).alloc (Nat.le_refl _) _)).grown (HROW2.out.alloc _) hgl HG3.out
          · exact ((HO2.out.alloc _).grown HG3.out (fun k hk hlt => by have := (World.ownsRow.lt HROW2.out k hk).1; omega))
          · intro hs
            have := HLS.out hs
            simp only [List.length_append, List.length_singleton]; omega
        case measure => simp [intOf]; omega
set_option maxRecDepth 100000 in
set_option maxHeartbeats 8000000 in
theorem prows_any (g : Nat) (most cols : Int) (st : Option (List UInt8)) (w : World) (h : Pt w g st) (hm : -9223372036854775808 ≤ most ∧ most ≤ 9223372036854775807) (hc : -9223372036854775808 ≤ cols ∧ cols ≤ 9223372036854775807) (hl : (st.getD []).length ≤ 100000000) :
    Calls Try.prog 30/-f-/ #[.pointer (some ⟨g, 0, none⟩), .int .i64 most, .int .i64 cols] w fun e w' => (∃ u, e = .returned u ∧ RowR w' w.heap.size u (stepR [] (rowsR most cols) st).1) ∧ Pt w' g (stepR [] (rowsR most cols) st).2 ∧ Off (· = g) w w' := by
  obtain ⟨i0, hi, hz0, hz1, hz2⟩ := info_parts info25
  have hgl : g < w.heap.size := h.lt
  have S := Lib.hid (psize_any g most st w h hm)
  have HRES := Lib.hid (step_many most (rowR cols) (rowsR most cols) (fun _ => rfl) st)
  have HL1 := Lib.hid (Nat.le_trans (len_size most st) hl)
  have hmn := size_lt most st hm.2
  clear h hl
  generalize stepR [] (rowsR most cols) st = res at *
  generalize stepR 0 (sizeR most) st = q at *
  obtain ⟨n, st1⟩ := q
  simp only at S HRES HL1 hmn
  go_enter Try.func30, Try.ntmps30
  go_wp2_with (go_at_call 29/-f-/; (with_reducible refine S.out.mono ?_); rintro e w1 ⟨rfl, hr1, ho1⟩)
  have HR1 := Lib.hid hr1
  have HO1 := Lib.hid ho1
  clear hr1 ho1 S
  go_loopw [8, 9] (fun lv iv wr => ∃ (acc : List (List Val)) (k : Nat) (s : Option (List UInt8)), iv = .int .i64 k ∧ k ≤ n ∧ RowR wr w.heap.size lv acc ∧ Pt wr g s ∧ Off (· = g) w wr ∧ (s.isSome = true → acc.length + (s.getD []).length ≤ 100000000) ∧ acc.length ≤ 100000001 ∧ Hid (res = moreR (rowR cols) acc (n - k) s)) (fun _ iv _ => n - (intOf iv).toNat)
  case atStart => exact ⟨[], 0, st1, rfl, Nat.zero_le _, RowR.nil _ _, HR1.out, HO1.out, fun _ => by simpa using HL1.out, by simp, HRES⟩
  case round =>
    obtain ⟨acc, k, s, rfl, hkn, hrow, hrd, ho, hb1, hb2, heq⟩ := hrel
    have HROW := Lib.hid hrow
    have HRD := Lib.hid hrd
    have HO := Lib.hid ho
    have hbs : w.heap.size ≤ wr.heap.size := ho.size
    clear hrow hrd ho
    cases s with
    | none =>
      have HRS := Lib.hid (show res = ([], none) from by rw [heq.out]; rfl)
      obtain ⟨pS, pB, _, _⟩ := HRD.out; have pc := pB.cell 1; have pl := pB.lt; simp only [List.getElem?_toArray, List.getElem?_cons_zero, List.getElem?_cons_succ, Option.isNone_none, Option.isNone_some] at pc; clear pB
      by_cases h0 : k = n
      · subst h0
        go_wp2
        go_ret
        rw [HRS.out]
        exact ⟨⟨_, rfl, RowR.nil _ _⟩, HRD.out, HO.out⟩
      · have hpos : k < n := by omega
        clear h0
        go_wp2
        go_ret
        rw [HRS.out]
        exact ⟨⟨_, rfl, RowR.nil _ _⟩, HRD.out, HO.out⟩
    | some l =>
      obtain ⟨pS, pB, _, _⟩ := HRD.out; have pc := pB.cell 1; have pl := pB.lt; simp only [List.getElem?_toArray, List.getElem?_cons_zero, List.getElem?_cons_succ, Option.isNone_none, Option.isNone_some] at pc; clear pB
      by_cases h0 : k = n
      · subst h0
        have HRS := Lib.hid (show res = (acc, some l) from by rw [heq.out, Nat.sub_self, moreR_zero])
        obtain ⟨cs, hown, _⟩ := HROW.out
        obtain ⟨A, c, rfl⟩ := own_slice hown
        clear hown
        go_wp2
        go_ret
        rw [HRS.out]
        exact ⟨⟨_, rfl, HROW.out⟩, HRD.out, HO.out⟩
      · have hpos : k < n := by omega
        have HEQ := Lib.hid (show res = moreR (rowR cols) (acc ++ [(stepR [] (rowR cols) (some l)).1]) (n - (k + 1)) (stepR [] (rowR cols) (some l)).2 from by
          have := heq.out
          rw [show n - k = (n - (k + 1)) + 1 by omega] at this
          exact this.trans (moreR_succ [] (rowR cols) acc _ l))
        have hsum := hb1 rfl
        simp only [Option.getD_some] at hsum
        have HLS := Lib.hid (len_step [] (rowR cols) (fun l x r h => row_short cols l r x h) l)
        have V := Lib.hid (prow_any g cols (some l) wr HRD.out hc (by simp only [Option.getD_some]; omega))
        clear h0 heq hb1
        generalize stepR [] (rowR cols) (some l) = q at *
        obtain ⟨x, s'⟩ := q
        simp only at V HEQ HLS
        go_wp2_with (first
          | (go_at_call 53/-f-/; (with_reducible refine V.out.mono ?_); rintro e w2 ⟨⟨uv, rfl, hrv⟩, hr2, ho2⟩; obtain ⟨A2, c2, rfl⟩ := own_slice hrv; have HRV := Lib.hid (own_mono hrv hbs); have HR2 := Lib.hid hr2; have HROW2 := Lib.hid (HROW.out.off hgl ho2); have HO2 := Lib.hid (off_trans HO.out ho2); have hbs2 : w.heap.size ≤ w2.heap.size := HO2.out.size; obtain ⟨cs, hcs, hcs1, hcs2⟩ := HROW2.out; have HCS := Lib.hid hcs; have HCS1 := Lib.hid hcs1; have HCS2 := Lib.hid hcs2; clear hr2 ho2 hrv hcs hcs1 hcs2)
          | (at_builtin; refine wpList_append_src _ rfl _ _ 36 rfl w.heap.size 76 i0 (.slice none 0 0) 1 24 Try.underlying36/-t-/ hi hz0 hz1 hz2 rfl (by decide) u8 acc.length cs rfl (World.ownsRow.alloc HCS.out _) (some ⟨w2.heap.size, 0, none⟩) 1 1 [.slice A2 x.length c2] rfl (Src.one _ _ _ rfl) (by unfold maxLen; omega) (by omega) (by simp; omega) ?_; intro v3 w3 hown3 hgr3 hnew3; have HO3 := Lib.hid hown3; have HG3 := Lib.hid hgr3; clear hown3 hgr3 hnew3))
        go_roundw
        case rel =>
          refine ⟨acc ++ [x], k + 1, s', by go_num, by omega, HROW2.out.snoc HRV.out HCS.out HO3.out rfl HG3.out HCS1.out HCS2.out, ?_, ?_, ?_, by simp; omega, HEQ⟩
          · exact (HR2.out.more ((Below.refl _ _).alloc (Nat.le_refl _) _)).grown (HCS.out.alloc _) hgl HG3.out
          · exact ((HO2.out.alloc _).grown HG3.out (fun k hk hlt => by have := (World.ownsRow.lt HCS.out k hk).1; omega))
          · intro hs
            have := HLS.out hs
            simp only [List.length_append, List.length_singleton]; omega
        case measure => simp [intOf]; omega
end Go.Proofs.Ytacangeamdcgdaa

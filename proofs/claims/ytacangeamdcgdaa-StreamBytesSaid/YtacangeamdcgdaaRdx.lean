/- Contracts of package codec: the reader's rows, many. -/
import Derived.Test.YtacangeamdcgdaaRdw
namespace Go.Proofs.Ytacangeamdcgdaa
open Go.ChangeShapes Go.WideShapes Go.ChangeAt Go.RowKit
theorem many_le {α : Type} (f : List UInt8 → Option (α × List UInt8)) (hf : ∀ l x r, f l = some (x, r) → r.length < l.length) : ∀ (n : Nat) (l r : List UInt8) (x : List α), manyR f n l = some (x, r) → r.length ≤ l.length
  | 0, l, r, x, h => by
    simp only [manyR, Option.some.injEq, Prod.mk.injEq] at h
    rw [h.2]; exact Nat.le_refl _
  | n + 1, l, r, x, h => by
    unfold manyR at h
    cases h1 : f l with
    | none => rw [h1] at h; cases h
    | some y =>
      obtain ⟨a, b⟩ := y
      rw [h1] at h
      simp only [Option.bind_some] at h
      cases h2 : manyR f n b with
      | none => rw [h2] at h; cases h
      | some z =>
        obtain ⟨c, d⟩ := z
        rw [h2] at h
        simp only [Option.map_some, Option.some.injEq, Prod.mk.injEq] at h
        have h3 := hf _ _ _ h1
        have h4 := many_le f hf n b d c h2
        rw [← h.2]; omega
theorem row_short (cols : Int) (l r : List UInt8) (x : List Val) (h : rowR cols l = some (x, r)) : r.length < l.length := by
  unfold rowR at h
  cases h1 : sizeR cols l with
  | none => rw [h1] at h; cases h
  | some y =>
    obtain ⟨n, t⟩ := y
    rw [h1] at h
    have h2 := (size_short _ _ _ _ h1).1
    have h3 := many_le valR (fun l x r h => val_short l r x h) n t r x h
    omega
theorem len_row (cols : Int) (st : Option (List UInt8)) : ((stepR [] (rowR cols) st).2.getD []).length ≤ (st.getD []).length := by
  cases st with
  | none => exact Nat.le_refl _
  | some l => cases h : rowR cols l with
    | none => rw [stepR_bad _ _ _ h]; simp
    | some x => obtain ⟨n, r⟩ := x; rw [stepR_ok _ _ _ _ _ h]; have := row_short _ _ _ _ h; simp; omega
theorem RowR.nil (w : World) (base : Nat) : RowR w base (.slice none 0 0) [] := by
  refine ⟨[], World.ownsRow_nil _ _ _ _, ?_, ?_⟩
  · intro u hu; cases hu
  · intro i hi; exact absurd hi (by simp)
theorem src_one (w : World) (u : Value) (t : TypeId) (h : u.oneCell' = true) : Src (w.alloc (.cells #[u] t)) (some ⟨w.heap.size, 0, none⟩) 1 1 [u] := Src.one w u t h
set_option maxRecDepth 100000 in
set_option maxHeartbeats 8000000 in
theorem rrows_any (g : Nat) (most cols : Int) (st : Option (List UInt8)) (w : World) (h : Rd w g st) (hm : -9223372036854775808 ≤ most ∧ most ≤ 9223372036854775807) (hc : -9223372036854775808 ≤ cols ∧ cols ≤ 9223372036854775807) (hl : (st.getD []).length ≤ 100000000) :
    Calls Try.prog 57/-f-/ #[.pointer (some ⟨g, 0, none⟩), .int .i64 most, .int .i64 cols] w fun e w' => (∃ u, e = .returned u ∧ RowR w' w.heap.size u (stepR [] (rowsR most cols) st).1) ∧ Rd w' g (stepR [] (rowsR most cols) st).2 ∧ Off (· = g) w w' := by
  obtain ⟨i0, hi, hz0, hz1, hz2⟩ := info_parts info25
  have hgl : g < w.heap.size := by obtain ⟨v, hB, _⟩ := h; exact hB.lt
  have S := Lib.hid (rsize_any g most st w h hm (by omega))
  have HRES := Lib.hid (step_many most (rowR cols) (rowsR most cols) (fun _ => rfl) st)
  have HL1 := Lib.hid (Nat.le_trans (len_size most st) hl)
  have hmn := size_lt most st hm.2
  clear h hl
  generalize stepR [] (rowsR most cols) st = res at *
  generalize stepR 0 (sizeR most) st = q at *
  obtain ⟨n, st1⟩ := q
  simp only at S HRES HL1 hmn
  go_enter Try.func57, Try.ntmps57
  go_wp2_with (go_at_call 55/-f-/; refine S.out.mono ?_; rintro e w1 ⟨rfl, hr1, ho1⟩)
  have HR1 := Lib.hid hr1
  have HO1 := Lib.hid ho1
  clear hr1 ho1 S
  have HNIL := Lib.hid (fun W : World => RowR.nil W w.heap.size)
  go_loopw [7, 8] (fun lv nv wr => ∃ (acc : List (List Val)) (m : Nat) (s : Option (List UInt8)), nv = .int .i64 m ∧ m ≤ 9223372036854775807 ∧ RowR wr w.heap.size lv acc ∧ Rd wr g s ∧ Off (· = g) w wr ∧ (s.isSome = true → acc.length + (s.getD []).length ≤ 100000000) ∧ acc.length ≤ 100000001 ∧ Hid (res = moreR (rowR cols) acc m s)) (fun _ nv _ => (intOf nv).toNat)
  case atStart => exact ⟨[], n, st1, rfl, hmn, HNIL.out _, HR1.out, HO1.out, fun _ => by simpa using HL1.out, by simp, HRES⟩
  case round =>
    obtain ⟨acc, m, s, rfl, hmm, hrow, hrd, ho, hb1, hb2, heq⟩ := hrel
    have HROW := Lib.hid hrow
    have HRD := Lib.hid hrd
    have HO := Lib.hid ho
    have hbs : w.heap.size ≤ wr.heap.size := ho.size
    clear hrow hrd ho
    cases s with
    | none =>
      have HRS := Lib.hid (show res = ([], none) from by rw [heq.out]; rfl)
      by_cases h0 : m = 0
      · subst h0
        go_wp2_with (go_at_call 56/-f-/; refine (rgood_any g none _ HRD.out).mono ?_; rintro e w5 ⟨rfl, rfl⟩)
        go_ret
        rw [HRS.out]
        exact ⟨⟨_, rfl, HNIL.out _⟩, HRD.out, HO.out⟩
      · have hpos : 0 < m := by omega
        clear h0
        go_wp2_with (go_at_call 56/-f-/; refine (rgood_any g none _ HRD.out).mono ?_; rintro e w5 ⟨rfl, rfl⟩)
        go_ret
        rw [HRS.out]
        exact ⟨⟨_, rfl, HNIL.out _⟩, HRD.out, HO.out⟩
    | some l =>
      by_cases h0 : m = 0
      · subst h0
        have HRS := Lib.hid (show res = (acc, some l) from by rw [heq.out, moreR_zero])
        obtain ⟨cs, hown, _⟩ := HROW.out
        obtain ⟨A, c, rfl⟩ := own_slice hown
        clear hown
        go_wp2_with (go_at_call 56/-f-/; refine (rgood_any g (some l) _ HRD.out).mono ?_; rintro e w5 ⟨rfl, rfl⟩)
        go_ret
        rw [HRS.out]
        exact ⟨⟨_, rfl, HROW.out⟩, HRD.out, HO.out⟩
      · obtain ⟨m', rfl⟩ : ∃ m', m = m' + 1 := ⟨m - 1, by omega⟩
        have HEQ := Lib.hid (heq.out.trans (moreR_succ [] (rowR cols) acc m' l))
        have hsum := hb1 rfl
        simp only [Option.getD_some] at hsum
        have HLS := Lib.hid (len_step [] (rowR cols) (fun l x r h => row_short cols l r x h) l)
        have V := Lib.hid (rrow_any g cols (some l) wr HRD.out hc (by simp only [Option.getD_some]; omega))
        have hpos : 0 < m' + 1 := by omega
        clear h0 heq hb1
        generalize stepR [] (rowR cols) (some l) = q at *
        obtain ⟨x, s'⟩ := q
        simp only at V HEQ HLS
        go_wp2_with (first
          | (go_at_call 56/-f-/; refine (rgood_any g (some l) _ HRD.out).mono ?_; rintro e w5 ⟨rfl, rfl⟩)
          | (go_at_call 76/-f-/; refine V.out.mono ?_; rintro e w2 ⟨⟨uv, rfl, hrv⟩, hr2, ho2⟩; obtain ⟨A2, c2, rfl⟩ := own_slice hrv; have HRV := Lib.hid (own_mono hrv hbs); have HR2 := Lib.hid hr2; have HROW2 := Lib.hid (HROW.out.off hgl ho2); have HO2 := Lib.hid (off_trans HO.out ho2); have hbs2 : w.heap.size ≤ w2.heap.size := HO2.out.size; obtain ⟨cs, hcs, hcs1, hcs2⟩ := HROW2.out; have HCS := Lib.hid hcs; have HCS1 := Lib.hid hcs1; have HCS2 := Lib.hid hcs2; clear hr2 ho2 hrv hcs hcs1 hcs2)
          | (at_builtin; refine wpList_append_src _ rfl _ _ 36 rfl w.heap.size 76 i0 (.slice none 0 0) 1 24 Try.underlying36/-t-/ hi hz0 hz1 hz2 rfl (by decide) u7 acc.length cs rfl (World.ownsRow.alloc HCS.out _) (some ⟨w2.heap.size, 0, none⟩) 1 1 [.slice A2 x.length c2] rfl (Src.one _ _ _ rfl) (by unfold maxLen; omega) (by omega) (by simp; omega) ?_; intro v3 w3 hown3 hgr3 hnew3; have HO3 := Lib.hid hown3; have HG3 := Lib.hid hgr3; clear hown3 hgr3 hnew3))
        go_roundw
        case rel =>
          refine ⟨acc ++ [x], m', s', by go_num, by omega, HROW2.out.snoc HRV.out HCS.out HO3.out rfl HG3.out HCS1.out HCS2.out, ?_, ?_, ?_, by simp; omega, HEQ⟩
          · exact (HR2.out.more ((Below.refl _ _).alloc (Nat.le_refl _) _)).grown (HCS.out.alloc _) hgl (by decide) HG3.out
          · exact ((HO2.out.alloc _).grown HG3.out (fun k hk hlt => by have := (World.ownsRow.lt HCS.out k hk).1; omega))
          · intro hs
            have := HLS.out hs
            simp only [List.length_append, List.length_singleton]; omega
        case measure => simp [intOf]
end Go.Proofs.Ytacangeamdcgdaa

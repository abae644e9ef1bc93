/- Contracts of package codec: the reader's numbers and texts. -/
import Derived.Test.YtacangeamdcgdaaRds
namespace Go.Proofs.Ytacangeamdcgdaa
open Go.ChangeShapes Go.WideShapes Go.ChangeAt Go.RowKit
theorem off_trans {g : Nat} {a b c : World} (h : Off (· = g) a b) (k : Off (· = g) b c) : Off (· = g) a c := h.trans k (fun _ _ h => h)
theorem de_take (L : List UInt8) (k : Nat) (h : k < L.length) : de (L.take (k + 1)) = de (L.take k) * 256 + (L.getD k 0).toNat := by
  rw [List.take_succ_eq_append_getElem h, de_snoc]
  simp [List.getD, h]
theorem len_one (st : Option (List UInt8)) : ((stepR 0 oneR st).2.getD []).length ≤ (st.getD []).length := by
  cases st with
  | none => exact Nat.le_refl _
  | some l => cases l with
    | nil => exact Nat.le_refl _
    | cons c r => simp [stepR, oneR]
theorem step_cut (n : Nat) (st : Option (List UInt8)) : (stepR [] (cutR n) st).1.length ≤ n := by
  cases st with
  | none => simp [stepR]
  | some l =>
    unfold stepR cutR
    by_cases h : l.length < n
    · simp only [if_pos h]; simp
    · simp only [if_neg h]; rw [List.length_take]; omega
theorem stepR_bad {α : Type} (d : α) (f : List UInt8 → Option (α × List UInt8)) (l : List UInt8) (h : f l = none) : stepR d f (some l) = (d, none) := by unfold stepR; simp only [h]
theorem stepR_ok {α : Type} (d : α) (f : List UInt8 → Option (α × List UInt8)) (l : List UInt8) (x : α) (r : List UInt8) (h : f l = some (x, r)) : stepR d f (some l) = (x, some r) := by unfold stepR; simp only [h]
/-- What a number is, out of its parts. -/
theorem step_nat (st : Option (List UInt8)) : stepR 0 natR st =
    if 8 < (stepR 0 oneR st).1.toNat then (0, none)
    else if ((stepR [] (cutR (stepR 0 oneR st).1.toNat) (stepR 0 oneR st).2).1).head? = some 0 then (0, none)
    else (de (stepR [] (cutR (stepR 0 oneR st).1.toNat) (stepR 0 oneR st).2).1, (stepR [] (cutR (stepR 0 oneR st).1.toNat) (stepR 0 oneR st).2).2) := by
  cases st with
  | none => rfl
  | some l => cases l with
    | nil => rfl
    | cons c r =>
      rw [show stepR 0 oneR (some (c :: r)) = (c, some r) from rfl]
      simp only
      by_cases h1 : 8 < c.toNat
      · rw [if_pos h1, stepR_bad _ _ _ (by rw [natR_cons, if_pos h1])]
      · rw [if_neg h1]
        by_cases h2 : r.length < c.toNat
        · rw [stepR_bad _ _ _ (by rw [natR_cons, if_neg h1, if_pos h2]), stepR_bad _ _ _ (by unfold cutR; rw [if_pos h2])]
          simp [de]
        · rw [stepR_ok _ (cutR c.toNat) r (r.take c.toNat) (r.drop c.toNat) (by unfold cutR; rw [if_neg h2])]
          simp only
          by_cases h3 : (r.take c.toNat).head? = some 0
          · rw [if_pos h3, stepR_bad _ _ _ (by rw [natR_cons, if_neg h1, if_neg h2, if_pos h3])]
          · rw [if_neg h3, stepR_ok _ _ _ _ _ (by rw [natR_cons, if_neg h1, if_neg h2, if_neg h3])]
set_option maxRecDepth 100000 in
set_option maxHeartbeats 4000000 in
theorem rnatural_any (g : Nat) (st : Option (List UInt8)) (w : World) (h : Rd w g st) (hl : (st.getD []).length ≤ 1000000000) :
    Calls Try.prog 75/-f-/ #[.pointer (some ⟨g, 0, none⟩)] w fun e w' => e = .returned (.int .u64 (stepR 0 natR st).1) ∧ Rd w' g (stepR 0 natR st).2 ∧ Off (· = g) w w' := by
  have O := Lib.hid (one_any g st w h hl)
  have HL1 := Lib.hid (Nat.le_trans (len_one st) hl)
  have HSN := Lib.hid (step_nat st)
  generalize stepR 0 natR st = res at *
  clear h hl
  generalize stepR 0 oneR st = q at *
  obtain ⟨c, st1⟩ := q
  simp only at O HL1 HSN
  have hc := c.toNat_lt
  have hw8 : (c.toNat : Int) < 256 := by omega
  by_cases h8 : 8 < c.toNat
  · have HRES := Lib.hid (HSN.out.trans (if_pos h8))
    clear HSN
    go_enter Try.func75, Try.ntmps75
    go_wp2_with (first
      | (go_at_call 93/-f-/; refine O.out.mono ?_; rintro e w1 ⟨rfl, hr1, ho1⟩)
      | (go_at_call 58/-f-/; refine (rfail_any g st1 _ hr1).mono ?_; rintro e w2 ⟨rfl, hr2, ho2⟩))
    go_ret
    rw [HRES.out]
    exact ⟨rfl, hr2, off_trans ho1 ho2⟩
  · have HR1 := Lib.hid (HSN.out.trans (if_neg h8))
    clear HSN
    have T := Lib.hid (fun W hW => take_any g c.toNat st1 W hW (by omega) HL1.out)
    have HLC := Lib.hid (step_cut c.toNat st1)
    clear HL1
    generalize stepR [] (cutR c.toNat) st1 = q2 at *
    obtain ⟨L, st2⟩ := q2
    simp only at T HLC HR1
    go_enter Try.func75, Try.ntmps75
    go_upto_region 6 with (first
      | (go_at_call 93/-f-/; refine O.out.mono ?_; rintro e w1 ⟨rfl, hr1, ho1⟩)
      | (go_at_call 94/-f-/; refine (T.out _ hr1).mono ?_; rintro e w2 ⟨u, rfl, hbs, hr2, ho2⟩; obtain ⟨A, c2, rfl, hcc, hd⟩ := hbs))
    have HO := Lib.hid (off_trans ho1 ho2)
    clear ho1 ho2 hr1
    cases L with
    | nil =>
      have HRES := Lib.hid (show res = (0, st2) from by rw [HR1.out]; simp [de])
      clear HR1
      go_wp2
      go_loop [5, 7, 31] (fun d _ i => i = .int .i64 0 ∧ d = .int .u64 0) (fun _ _ _ => 0)
      case atStart => exact ⟨rfl, rfl⟩
      case round =>
        obtain ⟨rfl, rfl⟩ := hrel
        go_wp2
        go_ret
        rw [HRES.out]
        exact ⟨rfl, hr2, HO.out⟩
    | cons x t =>
      rcases hd with h | ⟨b, off, rfl, hb, hcell⟩
      · cases h
      have hblt := hb.lt
      have x0 := hcell 0 (by simp)
      simp only [Nat.add_zero, List.getD_cons_zero] at x0
      have hlen := HLC.out
      have hl8 : (x :: t).length ≤ 8 := by omega
      have HCELL := Lib.hid hcell
      clear hcell hlen
      have hpos : (0 : Nat) < (x :: t).length := by simp
      by_cases hx : x = 0
      · subst hx
        have HRES := Lib.hid (show res = (0, none) from by rw [HR1.out]; simp)
        clear HR1
        have hz : (((0 : UInt8).toNat : Int) == 0) = true := rfl
        generalize (0 :: t).length = n at *
        go_wp2_with (go_at_call 58/-f-/; refine (rfail_any g st2 _ hr2).mono ?_; rintro e w3 ⟨rfl, hr3, ho3⟩)
        go_ret
        rw [HRES.out]
        exact ⟨rfl, hr3, off_trans HO.out ho3⟩
      · have hz : ((x.toNat : Int) == 0) = false := beq_eq_false_iff_ne.2 (fun h => hx (UInt8.toNat_inj.1 (by simpa using h)))
        have hh : ¬ (x :: t).head? = some 0 := by simpa using hx
        obtain ⟨M, hM⟩ : ∃ M, M = x :: t := ⟨_, rfl⟩
        have HRES := Lib.hid (show res = (de M, st2) from by rw [HR1.out, if_neg hh, hM])
        clear hh hx HR1 HLC
        rw [← hM] at T hl8 hpos HCELL hcc ⊢
        clear hM
        go_wp2
        go_loop [5, 7, 31] (fun d _ i => ∃ k : Nat, k ≤ M.length ∧ i = .int .i64 k ∧ d = .int .u64 (de (M.take k))) (fun _ _ i => M.length - (intOf i).toNat)
        case atStart => exact ⟨0, Nat.zero_le _, rfl, rfl⟩
        case round =>
          obtain ⟨k, hk, rfl, rfl⟩ := hrel
          by_cases hlt : k < M.length
          · have y0 := HCELL.out k hlt
            have hd1 := de_lt (M.take k)
            have hd2 : 256 ^ (M.take k).length ≤ 256 ^ 7 := Nat.pow_le_pow_right (by decide) (by rw [List.length_take]; omega)
            have hd3 : de (M.take k) < 72057594037927936 := Nat.lt_of_lt_of_le hd1 hd2
            have HT := Lib.hid (de_take M k hlt)
            clear hd1 hd2
            generalize M.getD k 0 = y at *
            generalize de (M.take k) = D at *
            have hy := y.toNat_lt
            have hyw : (y.toNat : Int) < 256 := by omega
            have HOB := Lib.hid (or_bits D y.toNat hd3 (by omega))
            go_wp2
            go_round
            case rel => exact ⟨k + 1, by omega, by go_num, by rw [HT.out, HOB.out]⟩
            case measure => simp [intOf]; omega
          · have hkl : k = M.length := by omega
            subst hkl
            rw [List.take_length]
            go_wp2
            go_ret
            rw [HRES.out]
            exact ⟨rfl, hr2, HO.out⟩
theorem len_nat (st : Option (List UInt8)) : ((stepR 0 natR st).2.getD []).length ≤ (st.getD []).length := by
  cases st with
  | none => exact Nat.le_refl _
  | some l => cases h : natR l with
    | none => rw [stepR_bad _ _ _ h]; simp
    | some x => obtain ⟨n, r⟩ := x; rw [stepR_ok _ _ _ _ _ h]; have := nat_short _ _ _ h; simp; omega
theorem nat_lt (st : Option (List UInt8)) : (stepR 0 natR st).1 < 18446744073709551616 := by
  cases st with
  | none => decide
  | some l => cases h : natR l with
    | none => rw [stepR_bad _ _ _ h]; decide
    | some x => obtain ⟨n, r⟩ := x; rw [stepR_ok _ _ _ _ _ h]; have := nat_bd _ _ _ h; simp only; omega
theorem step_size (most : Int) (st : Option (List UInt8)) (hm : -9223372036854775808 ≤ most ∧ most ≤ 9223372036854775807) : stepR 0 (sizeR most) st = if most < ((stepR 0 natR st).1 : Int) then (0, none) else stepR 0 natR st := by
  cases st with
  | none => by_cases hx : most < 0 <;> simp [stepR, hx]
  | some l => cases h : natR l with
    | none => rw [stepR_bad _ natR _ h, stepR_bad _ _ _ (by unfold sizeR; rw [h]; rfl)]; simp
    | some x =>
      obtain ⟨n, r⟩ := x
      rw [stepR_ok _ natR _ _ _ h]
      by_cases hn : most < (n : Int)
      · rw [stepR_bad _ _ _ (by unfold sizeR; rw [h]; simp [hn]), if_pos hn]
      · rw [stepR_ok _ _ _ _ _ (by unfold sizeR; rw [h]; simp only [Option.bind_some]; rw [if_neg hn]), if_neg hn]
set_option maxHeartbeats 2000000 in
theorem rsize_any (g : Nat) (most : Int) (st : Option (List UInt8)) (w : World) (h : Rd w g st) (hm : -9223372036854775808 ≤ most ∧ most ≤ 9223372036854775807) (hl : (st.getD []).length ≤ 1000000000) :
    Calls Try.prog 55/-f-/ #[.pointer (some ⟨g, 0, none⟩), .int .i64 most] w fun e w' => e = .returned (.int .i64 (stepR 0 (sizeR most) st).1) ∧ Rd w' g (stepR 0 (sizeR most) st).2 ∧ Off (· = g) w w' := by
  have N := Lib.hid (rnatural_any g st w h hl)
  have HS := Lib.hid (step_size most st hm)
  have hlt := nat_lt st
  clear h hl
  generalize stepR 0 (sizeR most) st = res at *
  generalize stepR 0 natR st = q at *
  obtain ⟨n, st1⟩ := q
  simp only at N HS hlt
  by_cases hn : most < (n : Int)
  · have HRES := Lib.hid (HS.out.trans (if_pos hn))
    clear HS
    by_cases hbig : (9223372036854775807 : Int) < n
    · go_enter Try.func55, Try.ntmps55
      go_wp2_with (first
        | (go_at_call 75/-f-/; refine N.out.mono ?_; rintro e w1 ⟨rfl, hr1, ho1⟩)
        | (go_at_call 58/-f-/; refine (rfail_any g st1 _ hr1).mono ?_; rintro e w2 ⟨rfl, hr2, ho2⟩))
      go_ret
      rw [HRES.out]
      exact ⟨rfl, hr2, off_trans ho1 ho2⟩
    · go_enter Try.func55, Try.ntmps55
      go_wp2_with (first
        | (go_at_call 75/-f-/; refine N.out.mono ?_; rintro e w1 ⟨rfl, hr1, ho1⟩)
        | (go_at_call 58/-f-/; refine (rfail_any g st1 _ hr1).mono ?_; rintro e w2 ⟨rfl, hr2, ho2⟩))
      go_ret
      rw [HRES.out]
      exact ⟨rfl, hr2, off_trans ho1 ho2⟩
  · have HRES := Lib.hid (HS.out.trans (if_neg hn))
    have hn1 : (n : Int) ≤ most := by omega
    have hbig : ¬ (9223372036854775807 : Int) < n := by omega
    clear HS hn
    go_enter Try.func55, Try.ntmps55
    go_wp2_with (first
      | (go_at_call 75/-f-/; refine N.out.mono ?_; rintro e w1 ⟨rfl, hr1, ho1⟩))
    go_ret
    rw [HRES.out]
    exact ⟨rfl, hr1, ho1⟩
theorem step_signed (st : Option (List UInt8)) : stepR 0 signedR st = (zag (stepR 0 natR st).1, (stepR 0 natR st).2) := by
  cases st with
  | none => rfl
  | some l => cases h : natR l with
    | none => rw [stepR_bad _ natR _ h, stepR_bad _ _ _ (by unfold signedR; rw [h]; rfl)]; rfl
    | some x =>
      obtain ⟨n, r⟩ := x
      rw [stepR_ok _ natR _ _ _ h, stepR_ok _ _ _ (zag n) r (by unfold signedR; rw [h]; rfl)]
set_option maxHeartbeats 2000000 in
theorem rsigned_any (g : Nat) (st : Option (List UInt8)) (w : World) (h : Rd w g st) (hl : (st.getD []).length ≤ 1000000000) :
    Calls Try.prog 105/-f-/ #[.pointer (some ⟨g, 0, none⟩)] w fun e w' => e = .returned (.int .i64 (stepR 0 signedR st).1) ∧ Rd w' g (stepR 0 signedR st).2 ∧ Off (· = g) w w' := by
  have N := Lib.hid (rnatural_any g st w h hl)
  have HRES := Lib.hid (step_signed st)
  have hlt := nat_lt st
  clear h hl
  generalize stepR 0 signedR st = res at *
  generalize stepR 0 natR st = q at *
  obtain ⟨n, st1⟩ := q
  simp only at N HRES hlt
  go_enter Try.func105, Try.ntmps105
  go_wp2_with (first
    | (go_at_call 75/-f-/; refine N.out.mono ?_; rintro e w1 ⟨rfl, hr1, ho1⟩))
  go_ret
  rw [HRES.out]
  exact ⟨ret_int (by rw [Lib.u64_and1 _ (by omega) (by omega), IntWalk.wrap64_in ((n : Int) % 2) (by omega), IntWalk.wrap64_in (-((n : Int) % 2)) (by omega)]; exact zag_bits n hlt), hr1, ho1⟩
theorem len_size (most : Int) (st : Option (List UInt8)) : ((stepR 0 (sizeR most) st).2.getD []).length ≤ (st.getD []).length := by
  cases st with
  | none => exact Nat.le_refl _
  | some l => cases h : sizeR most l with
    | none => rw [stepR_bad _ _ _ h]; simp
    | some x => obtain ⟨n, r⟩ := x; rw [stepR_ok _ _ _ _ _ h]; have := (size_short _ _ _ _ h).1; simp; omega
theorem size_lt (most : Int) (st : Option (List UInt8)) (hm : most ≤ 9223372036854775807) : (stepR 0 (sizeR most) st).1 ≤ 9223372036854775807 := by
  cases st with
  | none => exact Nat.zero_le _
  | some l => cases h : sizeR most l with
    | none => rw [stepR_bad _ _ _ h]; decide
    | some x => obtain ⟨n, r⟩ := x; rw [stepR_ok _ _ _ _ _ h]; have := (size_short _ _ _ _ h).2; simp only; omega
theorem step_text (most : Int) (st : Option (List UInt8)) : stepR [] (textR most) st = stepR [] (cutR (stepR 0 (sizeR most) st).1) (stepR 0 (sizeR most) st).2 := by
  cases st with
  | none => rfl
  | some l => cases h : sizeR most l with
    | none => rw [stepR_bad _ _ _ h, stepR_bad _ _ _ (by unfold textR; rw [h]; rfl)]; rfl
    | some x =>
      obtain ⟨n, r⟩ := x
      rw [stepR_ok _ _ _ _ _ h]
      simp only
      cases h2 : cutR n r with
      | none => rw [stepR_bad _ _ _ h2, stepR_bad _ _ _ (by unfold textR; rw [h]; exact h2)]
      | some y => obtain ⟨a, b⟩ := y; rw [stepR_ok _ _ _ _ _ h2, stepR_ok _ _ _ _ _ (by unfold textR; rw [h]; exact h2)]
theorem Bs.conv {w : World} {v : Value} {l : List UInt8} (h : Bs w v l) : (convert 105 9 v).run Try.prog w = .ok (.string ⟨l.toArray⟩) w := by
  obtain ⟨A, c, rfl, hc, h⟩ := h
  by_cases hl : l = []
  · subst hl
    rw [run_convert_bytes_string w 105 9 5 A _ c Try.underlying105 Try.underlying5 Try.underlying9]
    cases A <;> rfl
  · rcases h with h | ⟨b, off, rfl, hb, hcell⟩
    · exact absurd h hl
    · exact run_convert_bytes_back (P := Try.prog) _ 105 9 5 ⟨b, off, none⟩ c l Try.underlying105 Try.underlying5 Try.underlying9 (fun j hj => by
        rw [addr_add, hcell j hj]
        simp [List.getD, hj])
end Go.Proofs.Ytacangeamdcgdaa

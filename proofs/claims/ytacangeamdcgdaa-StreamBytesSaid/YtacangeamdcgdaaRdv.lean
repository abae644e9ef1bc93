/- Contracts of package codec: the reader's values. -/
import Derived.Test.YtacangeamdcgdaaRdu
import Derived.Deep.CutBlock
namespace Go.Proofs.Ytacangeamdcgdaa
open Go.ChangeShapes Go.WideShapes Go.ChangeAt Go.RowKit
def zeroV : Val := ⟨0, 0, ⟨#[]⟩⟩
/-- A value as it is read, before it is asked whether it is right. -/
def preV (c : UInt8) (st : Option (List UInt8)) : Val × Option (List UInt8) :=
  if c = 1 then (⟨1, (stepR 0 signedR st).1, ⟨#[]⟩⟩, (stepR 0 signedR st).2)
  else if c = 2 then (⟨2, 0, ⟨(stepR [] (textR 200) st).1.toArray⟩⟩, (stepR [] (textR 200) st).2)
  else if c = 3 then (⟨3, (stepR 0 oneR st).1.toNat, ⟨#[]⟩⟩, (stepR 0 oneR st).2)
  else (zeroV, st)
def finV (p : Val × Option (List UInt8)) : Val × Option (List UInt8) :=
  if rightB p.1.k p.1.n p.1.s = true ∧ p.2.isSome = true then p else (zeroV, none)
theorem step_val (st : Option (List UInt8)) : stepR zeroV valR st = finV (preV (stepR 0 oneR st).1 (stepR 0 oneR st).2) := by
  cases st with
  | none => rfl
  | some l => cases l with
    | nil => rfl
    | cons c r =>
      rw [show stepR 0 oneR (some (c :: r)) = (c, some r) from rfl]
      simp only
      unfold preV
      by_cases h1 : c = 1
      · rw [if_pos h1]
        cases h : signedR r with
        | none => rw [stepR_bad _ signedR _ h, stepR_bad _ _ _ (by rw [valR_cons, if_pos h1, h]; rfl)]; simp [finV]
        | some x =>
          obtain ⟨n, t⟩ := x
          rw [stepR_ok _ signedR _ _ _ h, stepR_ok _ _ _ ⟨1, n, ⟨#[]⟩⟩ t (by rw [valR_cons, if_pos h1, h]; rfl)]
          simp [finV, rightB]
      · rw [if_neg h1]
        by_cases h2 : c = 2
        · rw [if_pos h2]
          cases h : textR 200 r with
          | none => rw [stepR_bad _ (textR 200) _ h, stepR_bad _ _ _ (by rw [valR_cons, if_neg h1, if_pos h2, h]; rfl)]; simp [finV]
          | some x =>
            obtain ⟨t, u⟩ := x
            have hv : valR (c :: r) = some (⟨2, 0, ⟨t.toArray⟩⟩, u) := by rw [valR_cons, if_neg h1, if_pos h2, h]; rfl
            rw [stepR_ok _ (textR 200) _ _ _ h, stepR_ok _ _ _ _ _ hv]
            have := (val_right _ _ _ hv).1
            unfold finV
            rw [if_pos ⟨this, rfl⟩]
        · rw [if_neg h2]
          by_cases h3 : c = 3
          · rw [if_pos h3]
            cases r with
            | nil => rw [stepR_bad _ valR _ (by rw [valR_cons, if_neg h1, if_neg h2, if_pos h3]; rfl)]; rfl
            | cons b t =>
              rw [show stepR 0 oneR (some (b :: t)) = (b, some t) from rfl]
              by_cases hb : b.toNat ≤ 1
              · have hv : valR (c :: b :: t) = some (⟨3, b.toNat, ⟨#[]⟩⟩, t) := by rw [valR_cons, if_neg h1, if_neg h2, if_pos h3, boolR_cons, if_pos hb]
                rw [stepR_ok _ _ _ _ _ hv]
                have := (val_right _ _ _ hv).1
                unfold finV
                rw [if_pos ⟨this, rfl⟩]
              · rw [stepR_bad _ _ _ (by rw [valR_cons, if_neg h1, if_neg h2, if_pos h3, boolR_cons, if_neg hb])]
                unfold finV
                rw [if_neg]
                simp only [rightB_3]
                simp
                omega
          · rw [if_neg h3, stepR_bad _ _ _ (by rw [valR_cons, if_neg h1, if_neg h2, if_neg h3])]
            unfold finV
            rw [if_neg (by simp [zeroV, rightB])]
theorem len_val (st : Option (List UInt8)) : ((stepR zeroV valR st).2.getD []).length ≤ (st.getD []).length := by
  cases st with
  | none => exact Nat.le_refl _
  | some l => cases h : valR l with
    | none => rw [stepR_bad _ _ _ h]; simp
    | some x => obtain ⟨v, r⟩ := x; rw [stepR_ok _ _ _ _ _ h]; have := val_short _ _ _ h; simp; omega
theorem text_len (most : Int) (st : Option (List UInt8)) : ((stepR [] (textR most) st).1.length : Int) ≤ max most 0 := by
  cases st with
  | none => simp [stepR]; omega
  | some l => cases h : textR most l with
    | none => rw [stepR_bad _ _ _ h]; simp; omega
    | some x => obtain ⟨t, r⟩ := x; rw [stepR_ok _ _ _ _ _ h]; have := (text_short _ _ _ _ h).2; simp only; omega
theorem signed_bd (st : Option (List UInt8)) : -9223372036854775808 ≤ (stepR 0 signedR st).1 ∧ (stepR 0 signedR st).1 ≤ 9223372036854775807 := by
  rw [step_signed]
  exact zag_bd _ (by have := nat_lt st; omega)
theorem preV_fit (c : UInt8) (st : Option (List UInt8)) : FitV (preV c st).1 := by
  unfold preV
  split
  · exact ⟨by simp, signed_bd st, by show (ByteArray.mk #[]).size ≤ 9223372036854775807; decide⟩
  · split
    · refine ⟨by simp, by simp, ?_⟩
      have := text_len 200 st
      simp only [ByteArray.size, List.size_toArray]; omega
    · split
      · have := (stepR 0 oneR st).1.toNat_lt
        exact ⟨by simp, by simp only; omega, by show (ByteArray.mk #[]).size ≤ 9223372036854775807; decide⟩
      · exact ⟨by simp [zeroV], by simp [zeroV], by show (ByteArray.mk #[]).size ≤ 9223372036854775807; decide⟩
theorem off_blk {g k t : Nat} {w w' : World} {cs : Array Value} (h : Off (· = g) w w') (hb : Blk w k t cs) (hn : k ≠ g) : Blk w' k t cs := h.blk hb hn
/-- A reader's bytes don't lie in a block that holds no bytes. -/
theorem Bs.far2 {w : World} {k t : Nat} {v : Value} {l : List UInt8} {cs : Array Value} (h : Bs w v l) (hB : Blk w k t cs) (hcs : ∀ (i : Nat) (n : Int), cs[i]? ≠ some (Value.int .u8 n)) : ∀ b off n c, v = .slice (some ⟨b, off, none⟩) n c → l ≠ [] → b ≠ k := by
  rintro b off n c hv hl rfl
  obtain ⟨A, c', hv', _, h⟩ := h
  rw [hv] at hv'
  have hA := (Value.slice.inj hv').1
  rcases h with h | ⟨b', off', hA', hb, hcell⟩
  · exact hl h
  · rw [← hA] at hA'
    have h2 := Option.some.inj hA'
    simp at h2
    obtain ⟨rfl, rfl⟩ := h2
    have h0 := hcell 0 (List.length_pos_iff.2 hl)
    rw [hB.cell] at h0
    exact hcs _ _ h0
theorem Rd.far {w : World} {g k t i : Nat} {st : Option (List UInt8)} {cs : Array Value} {u : Value} (h : Rd w g st) (hB : Blk w k t cs) (hk : g ≠ k) (hcs : ∀ (i : Nat) (n : Int), cs[i]? ≠ some (Value.int .u8 n)) : Rd (w.setCell ⟨k, i, none⟩ u) g st := by
  obtain ⟨v, hv, hbs⟩ := h
  exact ⟨v, hv.far (p := ⟨k, i, none⟩) hk u, hbs.put (hbs.far2 hB hcs)⟩
theorem no_u8 (k n : Int) (s : ByteArray) : ∀ (i : Nat) (m : Int), (#[.int .i64 k, .int .i64 n, .string s] : Array Value)[i]? ≠ some (Value.int .u8 m) := by
  intro i m h
  have : i = 0 ∨ i = 1 ∨ i = 2 ∨ 3 ≤ i := by omega
  rcases this with rfl | rfl | rfl | h3
  · simp at h
  · simp at h
  · simp at h
  · rw [Array.getElem?_eq_none (by simpa using h3)] at h; cases h
/-- A value laid into a block of its own. -/
theorem put3 {w : World} {g k : Nat} {st : Option (List UInt8)} {a b a' b' : Int} {s s' : ByteArray} (hB : Blk w k 93 #[.int .i64 a, .int .i64 b, .string s]) (h : Rd w g st) (hk : g ≠ k) :
    Blk (((w.setCell ⟨k, 0, none⟩ (.int .i64 a')).setCell ⟨k, 1, none⟩ (.int .i64 b')).setCell ⟨k, 2, none⟩ (.string s')) k 93 #[.int .i64 a', .int .i64 b', .string s'] ∧
    Rd (((w.setCell ⟨k, 0, none⟩ (.int .i64 a')).setCell ⟨k, 1, none⟩ (.int .i64 b')).setCell ⟨k, 2, none⟩ (.string s')) g st := by
  have h1 := hB.put 0 (.int .i64 a')
  have h2 := h1.put 1 (.int .i64 b')
  have h3 := h2.put 2 (.string s')
  have r1 := h.far (i := 0) (u := .int .i64 a') hB hk (no_u8 _ _ _)
  have r2 := r1.far (i := 1) (u := .int .i64 b') h1 hk (by simpa using no_u8 a' b s)
  have r3 := r2.far (i := 2) (u := .string s') h2 hk (by simpa using no_u8 a' b' s)
  exact ⟨by simpa using h3, r3⟩
theorem off_put3 {g k : Nat} {w0 w : World} {x y z : Value} (h : Off (· = g) w0 w) (hk : w0.heap.size ≤ k) : Off (· = g) w0 (((w.setCell ⟨k, 0, none⟩ x).setCell ⟨k, 1, none⟩ y).setCell ⟨k, 2, none⟩ z) :=
  ((h.put (p := ⟨k, 0, none⟩) (fun h => absurd h (by simp; omega)) x).put (p := ⟨k, 1, none⟩) (fun h => absurd h (by simp; omega)) y).put (p := ⟨k, 2, none⟩) (fun h => absurd h (by simp; omega)) z
set_option maxRecDepth 100000 in
set_option maxHeartbeats 8000000 in
theorem rvalue_any (g : Nat) (st : Option (List UInt8)) (w : World) (h : Rd w g st) (hl : (st.getD []).length ≤ 1000000000) :
    Calls Try.prog 95/-f-/ #[.pointer (some ⟨g, 0, none⟩)] w fun e w' => e = .returned (.agg #[.int .i64 (stepR zeroV valR st).1.k, .int .i64 (stepR zeroV valR st).1.n, .string (stepR zeroV valR st).1.s]) ∧ Rd w' g (stepR zeroV valR st).2 ∧ Off (· = g) w w' := by
  have hgl : g < w.heap.size := by obtain ⟨v, hB, _⟩ := h; exact hB.lt
  have HB2 := Lib.hid (((Below.refl w.heap.size w).alloc (Nat.le_refl _) (.cells #[.int .i64 0, .int .i64 0, .string ⟨#[]⟩] 93)).alloc (by simp) (.cells #[.int .i64 0, .int .i64 0, .string ⟨#[]⟩] 93))
  have O := Lib.hid (one_any g st _ (h.more HB2.out) hl)
  have HL1 := Lib.hid (Nat.le_trans (len_one st) hl)
  have HRES := Lib.hid (step_val st)
  have BR := Lib.hid ((Blk.new w 93 #[.int .i64 0, .int .i64 0, .string ⟨#[]⟩]).alloc (.cells #[.int .i64 0, .int .i64 0, .string ⟨#[]⟩] 93))
  have BV := Lib.hid (show Blk ((w.alloc (.cells #[.int .i64 0, .int .i64 0, .string ⟨#[]⟩] 93)).alloc (.cells #[.int .i64 0, .int .i64 0, .string ⟨#[]⟩] 93)) (w.heap.size + 1) 93 #[.int .i64 0, .int .i64 0, .string ⟨#[]⟩] from by
    have := Blk.new (w.alloc (.cells #[.int .i64 0, .int .i64 0, .string ⟨#[]⟩] 93)) 93 #[.int .i64 0, .int .i64 0, .string ⟨#[]⟩]
    simpa using this)
  have HO2 := Lib.hid (Off.of (S := (· = g)) HB2.out)
  clear h hl
  generalize stepR zeroV valR st = res at *
  generalize stepR 0 oneR st = q at *
  obtain ⟨c, st1⟩ := q
  simp only at O HL1 HRES
  go_enter Try.func95, Try.ntmps95
  go_upto_block 0 with (first
    | (go_at_call 93/-f-/; refine O.out.mono ?_; rintro e w1 ⟨rfl, hr1, ho1⟩; have HO1 := Lib.hid (off_trans HO2.out ho1); have BR1 := Lib.hid (off_blk ho1 BR.out (show w.heap.size ≠ g by omega)); have BV1 := Lib.hid (off_blk ho1 BV.out (show w.heap.size + 1 ≠ g by omega)); clear ho1))
  have HR1 := Lib.hid hr1
  clear hr1 HO2 BR BV HB2 O
  go_cut [] (fun wx => Blk wx (w.heap.size + 1) 93 #[.int .i64 (preV c st1).1.k, .int .i64 (preV c st1).1.n, .string (preV c st1).1.s] ∧ Blk wx w.heap.size 93 #[.int .i64 0, .int .i64 0, .string ⟨#[]⟩] ∧ Rd wx g (preV c st1).2 ∧ Off (· = g) w wx)
  case first =>
    by_cases h1 : c = 1
    · have HP := Lib.hid (show preV c st1 = (⟨1, (stepR 0 signedR st1).1, ⟨#[]⟩⟩, (stepR 0 signedR st1).2) from by unfold preV; rw [if_pos h1])
      subst h1
      have S := Lib.hid (rsigned_any g st1 w1 HR1.out HL1.out)
      generalize stepR 0 signedR st1 = q at *
      obtain ⟨n, st2⟩ := q
      simp only at HP S
      go_wp2_with (first
        | (go_at_call 105/-f-/; refine S.out.mono ?_; rintro e w2 ⟨rfl, hr2, ho2⟩; have HOa := Lib.hid (off_trans HO1.out ho2); have BVa := Lib.hid (off_blk ho2 BV1.out (show w.heap.size + 1 ≠ g by omega)); have BRa := Lib.hid (off_blk ho2 BR1.out (show w.heap.size ≠ g by omega)); have HRa := Lib.hid hr2; clear ho2 hr2)
        | (go_at_call 86/-f-/; refine (int_any _ _).mono ?_; rintro e w3 ⟨rfl, hb3⟩; have HOx := Lib.hid (off_trans HOa.out (Off.of hb3)); have BVx := Lib.hid (BVa.out.below hb3 BVa.out.lt); have BRx := Lib.hid (BRa.out.below hb3 BRa.out.lt); have HRx := Lib.hid (HRa.out.more hb3); have c0 := BVx.out.cell 0; have c1 := BVx.out.cell 1; have c2 := BVx.out.cell 2; have f0 := BVx.out.frozen 0; have f1 := BVx.out.frozen 1; have f2 := BVx.out.frozen 2; have hlt2 := BVx.out.lt; simp only [List.getElem?_toArray, List.getElem?_cons_zero, List.getElem?_cons_succ] at c0 c1 c2; clear hb3))
      go_meet
      rw [HP.out]
      have h9 := put3 (g := g) (a' := 1) (b' := n) (s' := ⟨#[]⟩) BVx.out HRx.out (by omega)
      exact ⟨h9.1, ((BRx.out.far (p := ⟨w.heap.size + 1, 0, none⟩) (by simp) _).far (p := ⟨w.heap.size + 1, 1, none⟩) (by simp) _).far (p := ⟨w.heap.size + 1, 2, none⟩) (by simp) _, h9.2, off_put3 HOx.out (by omega)⟩
    by_cases h2 : c = 2
    · have HP := Lib.hid (show preV c st1 = (⟨2, 0, ⟨(stepR [] (textR 200) st1).1.toArray⟩⟩, (stepR [] (textR 200) st1).2) from by unfold preV; rw [if_neg h1, if_pos h2])
      subst h2
      have S := Lib.hid (rtext_any g 200 st1 w1 HR1.out (by decide) HL1.out)
      generalize stepR [] (textR 200) st1 = q at *
      obtain ⟨t, st2⟩ := q
      simp only at HP S
      clear h1
      go_wp2_with (first
        | (go_at_call 106/-f-/; refine S.out.mono ?_; rintro e w2 ⟨rfl, hr2, ho2⟩; have HOa := Lib.hid (off_trans HO1.out ho2); have BVa := Lib.hid (off_blk ho2 BV1.out (show w.heap.size + 1 ≠ g by omega)); have BRa := Lib.hid (off_blk ho2 BR1.out (show w.heap.size ≠ g by omega)); have HRa := Lib.hid hr2; clear ho2 hr2)
        | (go_at_call 87/-f-/; refine (text_any _ _).mono ?_; rintro e w3 ⟨rfl, hb3⟩; have HOx := Lib.hid (off_trans HOa.out (Off.of hb3)); have BVx := Lib.hid (BVa.out.below hb3 BVa.out.lt); have BRx := Lib.hid (BRa.out.below hb3 BRa.out.lt); have HRx := Lib.hid (HRa.out.more hb3); have c0 := BVx.out.cell 0; have c1 := BVx.out.cell 1; have c2 := BVx.out.cell 2; have f0 := BVx.out.frozen 0; have f1 := BVx.out.frozen 1; have f2 := BVx.out.frozen 2; have hlt2 := BVx.out.lt; simp only [List.getElem?_toArray, List.getElem?_cons_zero, List.getElem?_cons_succ] at c0 c1 c2; clear hb3))
      go_meet
      rw [HP.out]
      have h9 := put3 (g := g) (a' := 2) (b' := 0) (s' := ⟨t.toArray⟩) BVx.out HRx.out (by omega)
      exact ⟨h9.1, ((BRx.out.far (p := ⟨w.heap.size + 1, 0, none⟩) (by simp) _).far (p := ⟨w.heap.size + 1, 1, none⟩) (by simp) _).far (p := ⟨w.heap.size + 1, 2, none⟩) (by simp) _, h9.2, off_put3 HOx.out (by omega)⟩
    by_cases h3 : c = 3
    · have HP := Lib.hid (show preV c st1 = (⟨3, (stepR 0 oneR st1).1.toNat, ⟨#[]⟩⟩, (stepR 0 oneR st1).2) from by unfold preV; rw [if_neg h1, if_neg h2, if_pos h3])
      subst h3
      have S := Lib.hid (one_any g st1 w1 HR1.out HL1.out)
      generalize stepR 0 oneR st1 = q at *
      obtain ⟨n, st2⟩ := q
      simp only at HP S
      have hn8 := n.toNat_lt
      have hnw : (n.toNat : Int) < 256 := by omega
      clear h1 h2
      go_wp2_with (first
        | (go_at_call 93/-f-/; refine S.out.mono ?_; rintro e w3 ⟨rfl, hr2, ho2⟩; have hb3 := Below.refl w3.heap.size w3; have HOa := Lib.hid (off_trans HO1.out ho2); have BVa := Lib.hid (off_blk ho2 BV1.out (show w.heap.size + 1 ≠ g by omega)); have BRa := Lib.hid (off_blk ho2 BR1.out (show w.heap.size ≠ g by omega)); have HRa := Lib.hid hr2; clear ho2 hr2; have HOx := Lib.hid (off_trans HOa.out (Off.of hb3)); have BVx := Lib.hid (BVa.out.below hb3 BVa.out.lt); have BRx := Lib.hid (BRa.out.below hb3 BRa.out.lt); have HRx := Lib.hid (HRa.out.more hb3); have c0 := BVx.out.cell 0; have c1 := BVx.out.cell 1; have c2 := BVx.out.cell 2; have f0 := BVx.out.frozen 0; have f1 := BVx.out.frozen 1; have f2 := BVx.out.frozen 2; have hlt2 := BVx.out.lt; simp only [List.getElem?_toArray, List.getElem?_cons_zero, List.getElem?_cons_succ] at c0 c1 c2; clear hb3))
      go_meet
      rw [HP.out]
      have h9 := put3 (g := g) (a' := 3) (b' := n.toNat) (s' := ⟨#[]⟩) BVx.out HRx.out (by omega)
      exact ⟨h9.1, ((BRx.out.far (p := ⟨w.heap.size + 1, 0, none⟩) (by simp) _).far (p := ⟨w.heap.size + 1, 1, none⟩) (by simp) _).far (p := ⟨w.heap.size + 1, 2, none⟩) (by simp) _, h9.2, off_put3 HOx.out (by omega)⟩
    · have HP := Lib.hid (show preV c st1 = (zeroV, st1) from by unfold preV; rw [if_neg h1, if_neg h2, if_neg h3])
      have e1 : ((c.toNat : Int) == 1) = false := beq_eq_false_iff_ne.2 (fun h => h1 (UInt8.toNat_inj.1 (by simp; omega)))
      have e2 : ((c.toNat : Int) == 2) = false := beq_eq_false_iff_ne.2 (fun h => h2 (UInt8.toNat_inj.1 (by simp; omega)))
      have e3 : ((c.toNat : Int) == 3) = false := beq_eq_false_iff_ne.2 (fun h => h3 (UInt8.toNat_inj.1 (by simp; omega)))
      clear h1 h2 h3
      go_wp2
      go_meet
      rw [HP.out]
      exact ⟨BV1.out, BR1.out, HR1.out, HO1.out⟩
  case rest =>
    obtain ⟨hBV, hBR, hR, hO⟩ := hcut
    clear BR1 BV1 HR1 HO1 HL1
    have HFT := Lib.hid (preV_fit c st1)
    generalize preV c st1 = p at *
    obtain ⟨⟨yk, yn, ys⟩, st2⟩ := p
    simp only at hBV hR HFT
    have HBV := Lib.hid hBV
    have HBR := Lib.hid hBR
    have HR := Lib.hid hR
    have HO := Lib.hid hO
    have v0 := hBV.cell 0
    have v1 := hBV.cell 1
    have v2 := hBV.cell 2
    have hltv := hBV.lt
    simp only [List.getElem?_toArray, List.getElem?_cons_zero, List.getElem?_cons_succ] at v0 v1 v2
    have HVX := Lib.hid (new_vals wc wc.heap.size 93 ⟨yk, yn, ys⟩ rfl)
    clear hBV hBR hR hO
    go_upto_if 25 with (first
      | (go_at_call 45/-f-/; refine (rightall_any _ 1 1 [⟨yk, yn, ys⟩] _ HVX.out rfl (fun x hx => by simp at hx; subst hx; exact HFT.out) (by omega)).mono ?_; rintro e w3 ⟨rfl, hb3⟩; have HB3 := Lib.hid (((Below.refl _ _).alloc (Nat.le_refl _) _).trans (hb3.mono (by simp))); clear hb3))
    have hE1 : rall [⟨yk, yn, ys⟩] = rightB yk yn ys := by simp [rall]
    rw [hE1]
    obtain ⟨rb, hrb⟩ : ∃ rb, rb = rightB yk yn ys := ⟨_, rfl⟩
    rw [← hrb]
    have HRB := Lib.hid hrb
    have HO3 := Lib.hid (off_trans HO.out (Off.of HB3.out))
    have HBV3 := Lib.hid (HBV.out.below HB3.out HBV.out.lt)
    have HBR3 := Lib.hid (HBR.out.below HB3.out HBR.out.lt)
    have HR3 := Lib.hid (HR.out.more HB3.out)
    clear hE1 hrb v0 v1 v2 hltv
    cases rb
    · have HRS := Lib.hid (show res = (zeroV, none) from by rw [HRES.out]; unfold finV; rw [if_neg]; simp only; rw [← HRB.out]; simp)
      go_wp2_with (first
        | (go_at_call 58/-f-/; refine (rfail_any g st2 _ HR3.out).mono ?_; rintro e w4 ⟨rfl, hr4, ho4⟩; have HO4 := Lib.hid (off_trans HO3.out ho4); have HR4 := Lib.hid hr4; have HBR4 := Lib.hid (off_blk ho4 HBR3.out (show w.heap.size ≠ g by omega)); have c0 := HBR4.out.cell 0; have c1 := HBR4.out.cell 1; have c2 := HBR4.out.cell 2; have f0 := HBR4.out.frozen 0; have f1 := HBR4.out.frozen 1; have f2 := HBR4.out.frozen 2; have hlt2 := HBR4.out.lt; simp only [List.getElem?_toArray, List.getElem?_cons_zero, List.getElem?_cons_succ] at c0 c1 c2; clear hr4 ho4)
        | (go_at_call 56/-f-/; refine (rgood_any g none _ HR4.out).mono ?_; rintro e w5 ⟨rfl, rfl⟩))
      have h9 := put3 (g := g) (a' := 0) (b' := 0) (s' := ⟨#[]⟩) HBR4.out HR4.out (by omega)
      rw [HRS.out]
      refine bodyPost_ret (v := .agg #[.int .i64 0, .int .i64 0, .string ⟨#[]⟩]) (by simp [results, Try.results95, go_sem, c0, c1, c2, f0, f1, f2, hlt2]) rfl ⟨rfl, h9.2, off_put3 HO4.out (Nat.le_refl _)⟩
    · cases st2 with
      | none =>
        have HRS := Lib.hid (show res = (zeroV, none) from by rw [HRES.out]; unfold finV; rw [if_neg]; simp)
        have c0 := HBR3.out.cell 0
        have c1 := HBR3.out.cell 1
        have c2 := HBR3.out.cell 2
        have f0 := HBR3.out.frozen 0
        have f1 := HBR3.out.frozen 1
        have f2 := HBR3.out.frozen 2
        have hlt2 := HBR3.out.lt
        simp only [List.getElem?_toArray, List.getElem?_cons_zero, List.getElem?_cons_succ] at c0 c1 c2
        go_wp2_with (first
          | (go_at_call 56/-f-/; refine (rgood_any g none _ HR3.out).mono ?_; rintro e w5 ⟨rfl, rfl⟩))
        have h9 := put3 (g := g) (a' := 0) (b' := 0) (s' := ⟨#[]⟩) HBR3.out HR3.out (by omega)
        rw [HRS.out]
        refine bodyPost_ret (v := .agg #[.int .i64 0, .int .i64 0, .string ⟨#[]⟩]) (by simp [results, Try.results95, go_sem, c0, c1, c2, f0, f1, f2, hlt2]) rfl ⟨rfl, h9.2, off_put3 HO3.out (Nat.le_refl _)⟩
      | some r =>
        have HRS := Lib.hid (show res = (⟨yk, yn, ys⟩, some r) from by rw [HRES.out]; unfold finV; rw [if_pos ⟨HRB.out.symm, rfl⟩])
        have c0 := HBR3.out.cell 0
        have c1 := HBR3.out.cell 1
        have c2 := HBR3.out.cell 2
        have f0 := HBR3.out.frozen 0
        have f1 := HBR3.out.frozen 1
        have f2 := HBR3.out.frozen 2
        have hlt2 := HBR3.out.lt
        have v0 := HBV3.out.cell 0
        have v1 := HBV3.out.cell 1
        have v2 := HBV3.out.cell 2
        have hlt3 := HBV3.out.lt
        simp only [List.getElem?_toArray, List.getElem?_cons_zero, List.getElem?_cons_succ] at c0 c1 c2 v0 v1 v2
        go_wp2_with (first
          | (go_at_call 56/-f-/; refine (rgood_any g (some r) _ HR3.out).mono ?_; rintro e w5 ⟨rfl, rfl⟩))
        have h9 := put3 (g := g) (a' := yk) (b' := yn) (s' := ys) HBR3.out HR3.out (by omega)
        rw [HRS.out]
        refine bodyPost_ret (v := .agg #[.int .i64 yk, .int .i64 yn, .string ys]) (by simp [results, Try.results95, go_sem, c0, c1, c2, f0, f1, f2, hlt2]) rfl ⟨rfl, h9.2, off_put3 HO3.out (Nat.le_refl _)⟩
end Go.Proofs.Ytacangeamdcgdaa

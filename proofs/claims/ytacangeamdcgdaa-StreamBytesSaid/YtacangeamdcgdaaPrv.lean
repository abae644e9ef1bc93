/- Contracts of the document's reader: values. -/
import Derived.Test.YtacangeamdcgdaaPru
namespace Go.Proofs.Ytacangeamdcgdaa
open Go.ChangeShapes Go.WideShapes Go.ChangeAt Go.RowKit
theorem pt_far {w : World} {g k i : Nat} {st : Option (List UInt8)} {u : Value} (h : Pt w g st) (hk : g ≠ k) : Pt (w.setCell ⟨k, i, none⟩ u) g st := by
  obtain ⟨s, hB, h1, h2⟩ := h
  exact ⟨s, hB.far (p := ⟨k, i, none⟩) hk u, h1, h2⟩
theorem pt_put3 {g k : Nat} {st : Option (List UInt8)} {w : World} {x y z : Value} (h : Pt w g st) (hk : g ≠ k) : Pt (((w.setCell ⟨k, 0, none⟩ x).setCell ⟨k, 1, none⟩ y).setCell ⟨k, 2, none⟩ z) g st := pt_far (pt_far (pt_far h hk) hk) hk
theorem put3_bad {g k : Nat} {st : Option (List UInt8)} {w0 w : World} {x y z : Value} (h : Pt w g st) (hk : g ≠ k) (ho : Off (· = g) w0 w) (h0 : w0.heap.size ≤ k) :
    Pt ((((w.setCell ⟨g, 1, none⟩ (.bool true)).setCell ⟨k, 0, none⟩ x).setCell ⟨k, 1, none⟩ y).setCell ⟨k, 2, none⟩ z) g none ∧ Off (· = g) w0 ((((w.setCell ⟨g, 1, none⟩ (.bool true)).setCell ⟨k, 0, none⟩ x).setCell ⟨k, 1, none⟩ y).setCell ⟨k, 2, none⟩ z) :=
  ⟨pt_put3 h.bad.1 hk, off_put3 (off_t ho h.bad.2) h0⟩
set_option maxRecDepth 100000 in
set_option maxHeartbeats 16000000 in
theorem pvalue_any (g : Nat) (st : Option (List UInt8)) (w : World) (h : Pt w g st) :
    Calls Try.prog 74/-f-/ #[.pointer (some ⟨g, 0, none⟩)] w fun e w' => e = .returned (.agg #[.int .i64 (stepR zeroV valR st).1.k, .int .i64 (stepR zeroV valR st).1.n, .string (stepR zeroV valR st).1.s]) ∧ Pt w' g (stepR zeroV valR st).2 ∧ Off (· = g) w w' := by
  have hgl := h.lt
  have HB0 := Lib.hid ((Below.refl w.heap.size w).alloc (Nat.le_refl _) (.cells #[.int .i64 0, .int .i64 0, .string ⟨#[]⟩] 93))
  have HO0 := Lib.hid (Off.of (S := (· = g)) HB0.out)
  have RB := Lib.hid (Blk.new w 93 #[.int .i64 0, .int .i64 0, .string ⟨#[]⟩])
  have C1' := pcut_any g 1 st _ (h.more HB0.out) (by omega)
  have HRES := Lib.hid (step_val st)
  have hRg : w.heap.size ≠ g := by omega
  have hgR : g ≠ w.heap.size := by omega
  clear h
  generalize stepR zeroV valR st = res at *
  have NO : ∀ (s : Option (List UInt8)), stepR [] (cutR 1) s = ([], none) → res = (zeroV, none) → Calls Try.prog 73/-f-/ #[.pointer (some ⟨g, 0, none⟩), .int .i64 1] (w.alloc (.cells #[.int .i64 0, .int .i64 0, .string ⟨#[]⟩] 93)) (fun e w' => e = .returned (.string ⟨(stepR [] (cutR 1) s).1.toArray⟩) ∧ Pt w' g (stepR [] (cutR 1) s).2 ∧ Off (· = g) (w.alloc (.cells #[.int .i64 0, .int .i64 0, .string ⟨#[]⟩] 93)) w') → Calls Try.prog 74/-f-/ #[.pointer (some ⟨g, 0, none⟩)] w fun e w' => e = .returned (.agg #[.int .i64 res.1.k, .int .i64 res.1.n, .string res.1.s]) ∧ Pt w' g res.2 ∧ Off (· = g) w w' := by
    intro s e1 e2 C
    rw [e1] at C
    have C1 := Lib.hid C
    have HE := Lib.hid e2
    clear C e1 e2 C1' HRES
    go_enter Try.func74, Try.ntmps74
    go_wp2_with (go_at_call 73/-f-/; (with_reducible refine C1.out.mono ?_); rintro e w1 ⟨rfl, hp, ho⟩; have HP1 := Lib.hid hp; have HO1 := Lib.hid (off_t HO0.out ho); have RB1 := Lib.hid (off_blk ho RB.out hRg); have hs1 := ho.size; simp only [World.size_alloc] at hs1; have VB1 := Lib.hid (fun cs => Blk.new w1 93 cs); (first | obtain ⟨pc, pfz, pl⟩ := HP1.out.isbad | obtain ⟨pc, pfz, pl⟩ := HP1.out.isgood); have hVg : w1.heap.size ≠ g := (by omega); have hgV : g ≠ w1.heap.size := (by omega); have hRV : w.heap.size ≠ w1.heap.size := (by omega); have hVR : w1.heap.size ≠ w.heap.size := (by omega); obtain ⟨r0, r1, r2, rf0, rf1, rf2, rlt⟩ := blk3p RB1.out; clear hp ho)
    rw [HE.out]
    have h9 := put3_bad (x := .int .i64 0) (y := .int .i64 0) (z := .string ⟨#[]⟩) HP1.out hgR HO1.out (Nat.le_refl _)
    exact bodyPost_ret (v := .agg #[.int .i64 0, .int .i64 0, .string ⟨#[]⟩]) (by simp [results, Try.results74, go_sem, *]) rfl ⟨rfl, h9.1.more ((Below.refl _ _).alloc (Nat.le_refl _) _), h9.2.alloc _⟩
  cases st with
  | none => exact NO none rfl HRES.out C1'
  | some l => cases l with
  | nil => exact NO (some []) rfl HRES.out C1'
  | cons x r =>
  clear NO
  rw [show stepR [] (cutR 1) (some (x :: r)) = ([x], some r) from by unfold stepR cutR; simp] at C1'
  rw [show ((1 : Nat) : Int) = 1 from rfl] at C1'
  have HR1 := Lib.hid (show res = finV (preV x (some r)) from HRES.out)
  have hx := x.toNat_lt
  have hxi : (x.toNat : Int) < 256 := by omega
  obtain ⟨X, hX⟩ : ∃ X : ByteArray, X = ⟨[x].toArray⟩ := ⟨_, rfl⟩
  have hXs : X.size = 1 := by rw [hX]; rfl
  have hX0 : X[0] = x := by subst hX; rfl
  simp only [← hX] at C1'
  have C1 := Lib.hid C1'
  clear C1' HRES hX
  have RR' := fun (k n : Int) (s : ByteArray) (hs : s.size ≤ 9223372036854775807) W => refright_any k n s W hs
  by_cases h1 : x = 1
  · have HP := Lib.hid (show preV x (some r) = (⟨1, (stepR 0 signedR (some r)).1, ⟨#[]⟩⟩, (stepR 0 signedR (some r)).2) from by unfold preV; rw [if_pos h1])
    subst h1
    have S' := fun W hW => psigned_any g (some r) W hW
    generalize stepR 0 signedR (some r) = q at *
    obtain ⟨n, st2⟩ := q
    simp only at HP S'
    have S := Lib.hid S'
    clear S'
    cases st2 with
    | none =>
      rw [HP.out] at HR1
      have HE := Lib.hid (show res = (zeroV, none) from by rw [HR1.out]; unfold finV; rw [if_neg]; simp)
      go_enter Try.func74, Try.ntmps74
      go_wp2_with (first
        | (go_at_call 73/-f-/; (with_reducible refine C1.out.mono ?_); rintro e w1 ⟨rfl, hp, ho⟩; have HP1 := Lib.hid hp; have HO1 := Lib.hid (off_t HO0.out ho); have RB1 := Lib.hid (off_blk ho RB.out hRg); have hs1 := ho.size; simp only [World.size_alloc] at hs1; have VB1 := Lib.hid (fun cs => Blk.new w1 93 cs); (first | obtain ⟨pc, pfz, pl⟩ := HP1.out.isbad | obtain ⟨pc, pfz, pl⟩ := HP1.out.isgood); have hVg : w1.heap.size ≠ g := (by omega); have hgV : g ≠ w1.heap.size := (by omega); have hRV : w.heap.size ≠ w1.heap.size := (by omega); have hVR : w1.heap.size ≠ w.heap.size := (by omega);  clear hp ho)
        | (go_at_call 91/-f-/; (with_reducible refine (S.out _ (HP1.out.more ((Below.refl _ w1).alloc (Nat.le_refl _) (.cells #[.int .i64 1, .int .i64 0, .string ⟨#[]⟩] 93)))).mono ?_); rintro e w2 ⟨rfl, hp, ho⟩; have RB2 := Lib.hid (off_blk ho (RB1.out.alloc _) hRg); have VB2 := Lib.hid (off_blk ho (VB1.out #[.int .i64 1, .int .i64 0, .string ⟨#[]⟩]) hVg); have hs2 := ho.size; simp only [World.size_alloc] at hs2; have HP2 := Lib.hid hp; have HO2 := Lib.hid (off_t (HO1.out.alloc (.cells #[.int .i64 1, .int .i64 0, .string ⟨#[]⟩] 93)) ho); (first | obtain ⟨qc, qfz, ql⟩ := HP2.out.isbad | obtain ⟨qc, qfz, ql⟩ := HP2.out.isgood); obtain ⟨v0, v1, v2, vf0, vf1, vf2, vlt⟩ := blk3p VB2.out; obtain ⟨r0, r1, r2, rf0, rf1, rf2, rlt⟩ := blk3p RB2.out; have RB3 := Lib.hid (RB2.out.far (p := ⟨w1.heap.size, 1, none⟩) hRV (.int .i64 n)); have VB3 := Lib.hid (show Blk (w2.setCell ⟨w1.heap.size, 1, none⟩ (.int .i64 n)) w1.heap.size 93 #[.int .i64 1, .int .i64 n, .string ⟨#[]⟩] from (by simpa using VB2.out.put 1 (.int .i64 n))); have HP3 := Lib.hid (pt_far (i := 1) (u := .int .i64 n) HP2.out hgV); have HO3 := Lib.hid (HO2.out.put (p := ⟨w1.heap.size, 1, none⟩) (fun h => absurd h (by simp; omega)) (.int .i64 n)); clear hp ho))
      rw [HE.out]
      have h9 := put3_bad (x := .int .i64 0) (y := .int .i64 0) (z := .string ⟨#[]⟩) HP3.out hgR HO3.out (Nat.le_refl _)
      exact bodyPost_ret (v := .agg #[.int .i64 0, .int .i64 0, .string ⟨#[]⟩]) (by simp [results, Try.results74, go_sem, *]) rfl ⟨rfl, h9.1, h9.2⟩
    | some r2 =>
      rw [HP.out] at HR1
      obtain ⟨rb, hrb⟩ : ∃ rb, rb = rightB 1 (n) ⟨#[]⟩ := ⟨_, rfl⟩
      have RR'' := RR' 1 (n) ⟨#[]⟩ (by first | omega | decide)
      rw [← hrb] at RR''
      have RR := Lib.hid RR''
      have HRB := Lib.hid hrb
      clear RR' RR'' hrb
      cases rb with
      | false =>
        have HE := Lib.hid (show res = (zeroV, none) from by rw [HR1.out]; unfold finV; rw [if_neg]; simp only; rw [← HRB.out]; simp)
        go_enter Try.func74, Try.ntmps74
        go_wp2_with (first
          | (go_at_call 73/-f-/; (with_reducible refine C1.out.mono ?_); rintro e w1 ⟨rfl, hp, ho⟩; have HP1 := Lib.hid hp; have HO1 := Lib.hid (off_t HO0.out ho); have RB1 := Lib.hid (off_blk ho RB.out hRg); have hs1 := ho.size; simp only [World.size_alloc] at hs1; have VB1 := Lib.hid (fun cs => Blk.new w1 93 cs); (first | obtain ⟨pc, pfz, pl⟩ := HP1.out.isbad | obtain ⟨pc, pfz, pl⟩ := HP1.out.isgood); have hVg : w1.heap.size ≠ g := (by omega); have hgV : g ≠ w1.heap.size := (by omega); have hRV : w.heap.size ≠ w1.heap.size := (by omega); have hVR : w1.heap.size ≠ w.heap.size := (by omega);  clear hp ho)
          | (go_at_call 91/-f-/; (with_reducible refine (S.out _ (HP1.out.more ((Below.refl _ w1).alloc (Nat.le_refl _) (.cells #[.int .i64 1, .int .i64 0, .string ⟨#[]⟩] 93)))).mono ?_); rintro e w2 ⟨rfl, hp, ho⟩; have RB2 := Lib.hid (off_blk ho (RB1.out.alloc _) hRg); have VB2 := Lib.hid (off_blk ho (VB1.out #[.int .i64 1, .int .i64 0, .string ⟨#[]⟩]) hVg); have hs2 := ho.size; simp only [World.size_alloc] at hs2; have HP2 := Lib.hid hp; have HO2 := Lib.hid (off_t (HO1.out.alloc (.cells #[.int .i64 1, .int .i64 0, .string ⟨#[]⟩] 93)) ho); (first | obtain ⟨qc, qfz, ql⟩ := HP2.out.isbad | obtain ⟨qc, qfz, ql⟩ := HP2.out.isgood); obtain ⟨v0, v1, v2, vf0, vf1, vf2, vlt⟩ := blk3p VB2.out; obtain ⟨r0, r1, r2, rf0, rf1, rf2, rlt⟩ := blk3p RB2.out; have RB3 := Lib.hid (RB2.out.far (p := ⟨w1.heap.size, 1, none⟩) hRV (.int .i64 n)); have VB3 := Lib.hid (show Blk (w2.setCell ⟨w1.heap.size, 1, none⟩ (.int .i64 n)) w1.heap.size 93 #[.int .i64 1, .int .i64 n, .string ⟨#[]⟩] from (by simpa using VB2.out.put 1 (.int .i64 n))); have HP3 := Lib.hid (pt_far (i := 1) (u := .int .i64 n) HP2.out hgV); have HO3 := Lib.hid (HO2.out.put (p := ⟨w1.heap.size, 1, none⟩) (fun h => absurd h (by simp; omega)) (.int .i64 n)); clear hp ho)
          | (go_at_call 85/-f-/; (with_reducible refine (RR.out _).mono ?_); rintro e w4 ⟨rfl, hb⟩; have RB4 := Lib.hid (RB3.out.below hb RB3.out.lt); have VB4 := Lib.hid (VB3.out.below hb VB3.out.lt); have HP4 := Lib.hid (HP3.out.more hb); have HO4 := Lib.hid (off_t HO3.out (Off.of hb)); obtain ⟨a0, a1, a2, af0, af1, af2, alt⟩ := blk3p VB4.out; obtain ⟨b0, b1, b2, bf0, bf1, bf2, blt⟩ := blk3p RB4.out; (first | obtain ⟨oc, ofz, ol⟩ := HP4.out.isbad | obtain ⟨oc, ofz, ol⟩ := HP4.out.isgood); clear hb))
        rw [HE.out]
        have h9 := put3_bad (x := .int .i64 0) (y := .int .i64 0) (z := .string ⟨#[]⟩) HP4.out hgR HO4.out (Nat.le_refl _)
        exact bodyPost_ret (v := .agg #[.int .i64 0, .int .i64 0, .string ⟨#[]⟩]) (by simp [results, Try.results74, go_sem, *]) rfl ⟨rfl, h9.1, h9.2⟩
      | true =>
        have HE := Lib.hid (show res = (⟨1, n, ⟨#[]⟩⟩, some r2) from by rw [HR1.out]; unfold finV; rw [if_pos ⟨HRB.out.symm, rfl⟩])
        go_enter Try.func74, Try.ntmps74
        go_wp2_with (first
          | (go_at_call 73/-f-/; (with_reducible refine C1.out.mono ?_); rintro e w1 ⟨rfl, hp, ho⟩; have HP1 := Lib.hid hp; have HO1 := Lib.hid (off_t HO0.out ho); have RB1 := Lib.hid (off_blk ho RB.out hRg); have hs1 := ho.size; simp only [World.size_alloc] at hs1; have VB1 := Lib.hid (fun cs => Blk.new w1 93 cs); (first | obtain ⟨pc, pfz, pl⟩ := HP1.out.isbad | obtain ⟨pc, pfz, pl⟩ := HP1.out.isgood); have hVg : w1.heap.size ≠ g := (by omega); have hgV : g ≠ w1.heap.size := (by omega); have hRV : w.heap.size ≠ w1.heap.size := (by omega); have hVR : w1.heap.size ≠ w.heap.size := (by omega);  clear hp ho)
          | (go_at_call 91/-f-/; (with_reducible refine (S.out _ (HP1.out.more ((Below.refl _ w1).alloc (Nat.le_refl _) (.cells #[.int .i64 1, .int .i64 0, .string ⟨#[]⟩] 93)))).mono ?_); rintro e w2 ⟨rfl, hp, ho⟩; have RB2 := Lib.hid (off_blk ho (RB1.out.alloc _) hRg); have VB2 := Lib.hid (off_blk ho (VB1.out #[.int .i64 1, .int .i64 0, .string ⟨#[]⟩]) hVg); have hs2 := ho.size; simp only [World.size_alloc] at hs2; have HP2 := Lib.hid hp; have HO2 := Lib.hid (off_t (HO1.out.alloc (.cells #[.int .i64 1, .int .i64 0, .string ⟨#[]⟩] 93)) ho); (first | obtain ⟨qc, qfz, ql⟩ := HP2.out.isbad | obtain ⟨qc, qfz, ql⟩ := HP2.out.isgood); obtain ⟨v0, v1, v2, vf0, vf1, vf2, vlt⟩ := blk3p VB2.out; obtain ⟨r0, r1, r2, rf0, rf1, rf2, rlt⟩ := blk3p RB2.out; have RB3 := Lib.hid (RB2.out.far (p := ⟨w1.heap.size, 1, none⟩) hRV (.int .i64 n)); have VB3 := Lib.hid (show Blk (w2.setCell ⟨w1.heap.size, 1, none⟩ (.int .i64 n)) w1.heap.size 93 #[.int .i64 1, .int .i64 n, .string ⟨#[]⟩] from (by simpa using VB2.out.put 1 (.int .i64 n))); have HP3 := Lib.hid (pt_far (i := 1) (u := .int .i64 n) HP2.out hgV); have HO3 := Lib.hid (HO2.out.put (p := ⟨w1.heap.size, 1, none⟩) (fun h => absurd h (by simp; omega)) (.int .i64 n)); clear hp ho)
          | (go_at_call 85/-f-/; (with_reducible refine (RR.out _).mono ?_); rintro e w4 ⟨rfl, hb⟩; have RB4 := Lib.hid (RB3.out.below hb RB3.out.lt); have VB4 := Lib.hid (VB3.out.below hb VB3.out.lt); have HP4 := Lib.hid (HP3.out.more hb); have HO4 := Lib.hid (off_t HO3.out (Off.of hb)); obtain ⟨a0, a1, a2, af0, af1, af2, alt⟩ := blk3p VB4.out; obtain ⟨b0, b1, b2, bf0, bf1, bf2, blt⟩ := blk3p RB4.out; (first | obtain ⟨oc, ofz, ol⟩ := HP4.out.isbad | obtain ⟨oc, ofz, ol⟩ := HP4.out.isgood); clear hb))
        rw [HE.out]
        exact bodyPost_ret (v := .agg #[.int .i64 (1), .int .i64 (n), .string ⟨#[]⟩]) (by simp [results, Try.results74, go_sem, *]) rfl ⟨rfl, pt_put3 HP4.out hgR, off_put3 HO4.out (Nat.le_refl _)⟩
  by_cases h2 : x = 2
  · have HP := Lib.hid (show preV x (some r) = (⟨2, 0, ⟨(stepR [] (textR 200) (some r)).1.toArray⟩⟩, (stepR [] (textR 200) (some r)).2) from by unfold preV; rw [if_neg h1, if_pos h2])
    subst h2
    have S' := fun W hW => ptext_any g 200 (some r) W hW (by decide)
    have htl := text_len 200 (some r)
    generalize stepR [] (textR 200) (some r) = q at *
    obtain ⟨tl, st2⟩ := q
    simp only at HP S' htl
    have hTs : (⟨tl.toArray⟩ : ByteArray).size ≤ 9223372036854775807 := by simp only [ByteArray.size, List.size_toArray]; omega
    generalize (⟨tl.toArray⟩ : ByteArray) = T at *
    have S := Lib.hid S'
    clear S' h1 htl
    cases st2 with
    | none =>
      rw [HP.out] at HR1
      have HE := Lib.hid (show res = (zeroV, none) from by rw [HR1.out]; unfold finV; rw [if_neg]; simp)
      go_enter Try.func74, Try.ntmps74
      go_wp2_with (first
        | (go_at_call 73/-f-/; (with_reducible refine C1.out.mono ?_); rintro e w1 ⟨rfl, hp, ho⟩; have HP1 := Lib.hid hp; have HO1 := Lib.hid (off_t HO0.out ho); have RB1 := Lib.hid (off_blk ho RB.out hRg); have hs1 := ho.size; simp only [World.size_alloc] at hs1; have VB1 := Lib.hid (fun cs => Blk.new w1 93 cs); (first | obtain ⟨pc, pfz, pl⟩ := HP1.out.isbad | obtain ⟨pc, pfz, pl⟩ := HP1.out.isgood); have hVg : w1.heap.size ≠ g := (by omega); have hgV : g ≠ w1.heap.size := (by omega); have hRV : w.heap.size ≠ w1.heap.size := (by omega); have hVR : w1.heap.size ≠ w.heap.size := (by omega);  clear hp ho)
        | (go_at_call 92/-f-/; (with_reducible refine (S.out _ (HP1.out.more ((Below.refl _ w1).alloc (Nat.le_refl _) (.cells #[.int .i64 2, .int .i64 0, .string ⟨#[]⟩] 93)))).mono ?_); rintro e w2 ⟨rfl, hp, ho⟩; have RB2 := Lib.hid (off_blk ho (RB1.out.alloc _) hRg); have VB2 := Lib.hid (off_blk ho (VB1.out #[.int .i64 2, .int .i64 0, .string ⟨#[]⟩]) hVg); have hs2 := ho.size; simp only [World.size_alloc] at hs2; have HP2 := Lib.hid hp; have HO2 := Lib.hid (off_t (HO1.out.alloc (.cells #[.int .i64 2, .int .i64 0, .string ⟨#[]⟩] 93)) ho); (first | obtain ⟨qc, qfz, ql⟩ := HP2.out.isbad | obtain ⟨qc, qfz, ql⟩ := HP2.out.isgood); obtain ⟨v0, v1, v2, vf0, vf1, vf2, vlt⟩ := blk3p VB2.out; obtain ⟨r0, r1, r2, rf0, rf1, rf2, rlt⟩ := blk3p RB2.out; have RB3 := Lib.hid (RB2.out.far (p := ⟨w1.heap.size, 2, none⟩) hRV (.string T)); have VB3 := Lib.hid (show Blk (w2.setCell ⟨w1.heap.size, 2, none⟩ (.string T)) w1.heap.size 93 #[.int .i64 2, .int .i64 0, .string T] from (by simpa using VB2.out.put 2 (.string T))); have HP3 := Lib.hid (pt_far (i := 2) (u := .string T) HP2.out hgV); have HO3 := Lib.hid (HO2.out.put (p := ⟨w1.heap.size, 2, none⟩) (fun h => absurd h (by simp; omega)) (.string T)); clear hp ho))
      rw [HE.out]
      have h9 := put3_bad (x := .int .i64 0) (y := .int .i64 0) (z := .string ⟨#[]⟩) HP3.out hgR HO3.out (Nat.le_refl _)
      exact bodyPost_ret (v := .agg #[.int .i64 0, .int .i64 0, .string ⟨#[]⟩]) (by simp [results, Try.results74, go_sem, *]) rfl ⟨rfl, h9.1, h9.2⟩
    | some r2 =>
      rw [HP.out] at HR1
      obtain ⟨rb, hrb⟩ : ∃ rb, rb = rightB 2 (0) T := ⟨_, rfl⟩
      have RR'' := RR' 2 (0) T (by first | omega | decide)
      rw [← hrb] at RR''
      have RR := Lib.hid RR''
      have HRB := Lib.hid hrb
      clear RR' RR'' hrb
      cases rb with
      | false =>
        have HE := Lib.hid (show res = (zeroV, none) from by rw [HR1.out]; unfold finV; rw [if_neg]; simp only; rw [← HRB.out]; simp)
        go_enter Try.func74, Try.ntmps74
        go_wp2_with (first
          | (go_at_call 73/-f-/; (with_reducible refine C1.out.mono ?_); rintro e w1 ⟨rfl, hp, ho⟩; have HP1 := Lib.hid hp; have HO1 := Lib.hid (off_t HO0.out ho); have RB1 := Lib.hid (off_blk ho RB.out hRg); have hs1 := ho.size; simp only [World.size_alloc] at hs1; have VB1 := Lib.hid (fun cs => Blk.new w1 93 cs); (first | obtain ⟨pc, pfz, pl⟩ := HP1.out.isbad | obtain ⟨pc, pfz, pl⟩ := HP1.out.isgood); have hVg : w1.heap.size ≠ g := (by omega); have hgV : g ≠ w1.heap.size := (by omega); have hRV : w.heap.size ≠ w1.heap.size := (by omega); have hVR : w1.heap.size ≠ w.heap.size := (by omega);  clear hp ho)
          | (go_at_call 92/-f-/; (with_reducible refine (S.out _ (HP1.out.more ((Below.refl _ w1).alloc (Nat.le_refl _) (.cells #[.int .i64 2, .int .i64 0, .string ⟨#[]⟩] 93)))).mono ?_); rintro e w2 ⟨rfl, hp, ho⟩; have RB2 := Lib.hid (off_blk ho (RB1.out.alloc _) hRg); have VB2 := Lib.hid (off_blk ho (VB1.out #[.int .i64 2, .int .i64 0, .string ⟨#[]⟩]) hVg); have hs2 := ho.size; simp only [World.size_alloc] at hs2; have HP2 := Lib.hid hp; have HO2 := Lib.hid (off_t (HO1.out.alloc (.cells #[.int .i64 2, .int .i64 0, .string ⟨#[]⟩] 93)) ho); (first | obtain ⟨qc, qfz, ql⟩ := HP2.out.isbad | obtain ⟨qc, qfz, ql⟩ := HP2.out.isgood); obtain ⟨v0, v1, v2, vf0, vf1, vf2, vlt⟩ := blk3p VB2.out; obtain ⟨r0, r1, r2, rf0, rf1, rf2, rlt⟩ := blk3p RB2.out; have RB3 := Lib.hid (RB2.out.far (p := ⟨w1.heap.size, 2, none⟩) hRV (.string T)); have VB3 := Lib.hid (show Blk (w2.setCell ⟨w1.heap.size, 2, none⟩ (.string T)) w1.heap.size 93 #[.int .i64 2, .int .i64 0, .string T] from (by simpa using VB2.out.put 2 (.string T))); have HP3 := Lib.hid (pt_far (i := 2) (u := .string T) HP2.out hgV); have HO3 := Lib.hid (HO2.out.put (p := ⟨w1.heap.size, 2, none⟩) (fun h => absurd h (by simp; omega)) (.string T)); clear hp ho)
          | (go_at_call 85/-f-/; (with_reducible refine (RR.out _).mono ?_); rintro e w4 ⟨rfl, hb⟩; have RB4 := Lib.hid (RB3.out.below hb RB3.out.lt); have VB4 := Lib.hid (VB3.out.below hb VB3.out.lt); have HP4 := Lib.hid (HP3.out.more hb); have HO4 := Lib.hid (off_t HO3.out (Off.of hb)); obtain ⟨a0, a1, a2, af0, af1, af2, alt⟩ := blk3p VB4.out; obtain ⟨b0, b1, b2, bf0, bf1, bf2, blt⟩ := blk3p RB4.out; (first | obtain ⟨oc, ofz, ol⟩ := HP4.out.isbad | obtain ⟨oc, ofz, ol⟩ := HP4.out.isgood); clear hb))
        rw [HE.out]
        have h9 := put3_bad (x := .int .i64 0) (y := .int .i64 0) (z := .string ⟨#[]⟩) HP4.out hgR HO4.out (Nat.le_refl _)
        exact bodyPost_ret (v := .agg #[.int .i64 0, .int .i64 0, .string ⟨#[]⟩]) (by simp [results, Try.results74, go_sem, *]) rfl ⟨rfl, h9.1, h9.2⟩
      | true =>
        have HE := Lib.hid (show res = (⟨2, 0, T⟩, some r2) from by rw [HR1.out]; unfold finV; rw [if_pos ⟨HRB.out.symm, rfl⟩])
        go_enter Try.func74, Try.ntmps74
        go_wp2_with (first
          | (go_at_call 73/-f-/; (with_reducible refine C1.out.mono ?_); rintro e w1 ⟨rfl, hp, ho⟩; have HP1 := Lib.hid hp; have HO1 := Lib.hid (off_t HO0.out ho); have RB1 := Lib.hid (off_blk ho RB.out hRg); have hs1 := ho.size; simp only [World.size_alloc] at hs1; have VB1 := Lib.hid (fun cs => Blk.new w1 93 cs); (first | obtain ⟨pc, pfz, pl⟩ := HP1.out.isbad | obtain ⟨pc, pfz, pl⟩ := HP1.out.isgood); have hVg : w1.heap.size ≠ g := (by omega); have hgV : g ≠ w1.heap.size := (by omega); have hRV : w.heap.size ≠ w1.heap.size := (by omega); have hVR : w1.heap.size ≠ w.heap.size := (by omega);  clear hp ho)
          | (go_at_call 92/-f-/; (with_reducible refine (S.out _ (HP1.out.more ((Below.refl _ w1).alloc (Nat.le_refl _) (.cells #[.int .i64 2, .int .i64 0, .string ⟨#[]⟩] 93)))).mono ?_); rintro e w2 ⟨rfl, hp, ho⟩; have RB2 := Lib.hid (off_blk ho (RB1.out.alloc _) hRg); have VB2 := Lib.hid (off_blk ho (VB1.out #[.int .i64 2, .int .i64 0, .string ⟨#[]⟩]) hVg); have hs2 := ho.size; simp only [World.size_alloc] at hs2; have HP2 := Lib.hid hp; have HO2 := Lib.hid (off_t (HO1.out.alloc (.cells #[.int .i64 2, .int .i64 0, .string ⟨#[]⟩] 93)) ho); (first | obtain ⟨qc, qfz, ql⟩ := HP2.out.isbad | obtain ⟨qc, qfz, ql⟩ := HP2.out.isgood); obtain ⟨v0, v1, v2, vf0, vf1, vf2, vlt⟩ := blk3p VB2.out; obtain ⟨r0, r1, r2, rf0, rf1, rf2, rlt⟩ := blk3p RB2.out; have RB3 := Lib.hid (RB2.out.far (p := ⟨w1.heap.size, 2, none⟩) hRV (.string T)); have VB3 := Lib.hid (show Blk (w2.setCell ⟨w1.heap.size, 2, none⟩ (.string T)) w1.heap.size 93 #[.int .i64 2, .int .i64 0, .string T] from (by simpa using VB2.out.put 2 (.string T))); have HP3 := Lib.hid (pt_far (i := 2) (u := .string T) HP2.out hgV); have HO3 := Lib.hid (HO2.out.put (p := ⟨w1.heap.size, 2, none⟩) (fun h => absurd h (by simp; omega)) (.string T)); clear hp ho)
          | (go_at_call 85/-f-/; (with_reducible refine (RR.out _).mono ?_); rintro e w4 ⟨rfl, hb⟩; have RB4 := Lib.hid (RB3.out.below hb RB3.out.lt); have VB4 := Lib.hid (VB3.out.below hb VB3.out.lt); have HP4 := Lib.hid (HP3.out.more hb); have HO4 := Lib.hid (off_t HO3.out (Off.of hb)); obtain ⟨a0, a1, a2, af0, af1, af2, alt⟩ := blk3p VB4.out; obtain ⟨b0, b1, b2, bf0, bf1, bf2, blt⟩ := blk3p RB4.out; (first | obtain ⟨oc, ofz, ol⟩ := HP4.out.isbad | obtain ⟨oc, ofz, ol⟩ := HP4.out.isgood); clear hb))
        rw [HE.out]
        exact bodyPost_ret (v := .agg #[.int .i64 (2), .int .i64 (0), .string T]) (by simp [results, Try.results74, go_sem, *]) rfl ⟨rfl, pt_put3 HP4.out hgR, off_put3 HO4.out (Nat.le_refl _)⟩
  by_cases h3 : x = 3
  · have HP := Lib.hid (show preV x (some r) = (⟨3, (stepR 0 oneR (some r)).1.toNat, ⟨#[]⟩⟩, (stepR 0 oneR (some r)).2) from by unfold preV; rw [if_neg h1, if_neg h2, if_pos h3])
    subst h3
    clear h1 h2
    cases r with
    | nil =>
      have S' := fun W hW => pcut_any g 1 (some []) W hW (by omega)
      rw [show stepR [] (cutR 1) (some []) = ([], none) from rfl, show ((1 : Nat) : Int) = 1 from rfl] at S'
      have S := Lib.hid S'
      have HE := Lib.hid (show res = (zeroV, none) from by rw [HR1.out, HP.out]; rfl)
      clear S'
      go_enter Try.func74, Try.ntmps74
      go_wp2_with (first
        | (go_at_call 73/-f-/; (with_reducible refine C1.out.mono ?_); rintro e w1 ⟨rfl, hp, ho⟩; have HP1 := Lib.hid hp; have HO1 := Lib.hid (off_t HO0.out ho); have RB1 := Lib.hid (off_blk ho RB.out hRg); have hs1 := ho.size; simp only [World.size_alloc] at hs1; have VB1 := Lib.hid (fun cs => Blk.new w1 93 cs); (first | obtain ⟨pc, pfz, pl⟩ := HP1.out.isbad | obtain ⟨pc, pfz, pl⟩ := HP1.out.isgood); have hVg : w1.heap.size ≠ g := (by omega); have hgV : g ≠ w1.heap.size := (by omega); have hRV : w.heap.size ≠ w1.heap.size := (by omega); have hVR : w1.heap.size ≠ w.heap.size := (by omega);  clear hp ho)
        | (go_at_call 73/-f-/; (with_reducible refine (S.out _ (HP1.out.more ((Below.refl _ w1).alloc (Nat.le_refl _) (.cells #[.int .i64 3, .int .i64 0, .string ⟨#[]⟩] 93)))).mono ?_); rintro e w2 ⟨rfl, hp, ho⟩; have RB3 := Lib.hid (off_blk ho (RB1.out.alloc _) hRg); have hs2 := ho.size; simp only [World.size_alloc] at hs2; have VB3 := Lib.hid (off_blk ho (VB1.out #[.int .i64 3, .int .i64 0, .string ⟨#[]⟩]) hVg); have HP3 := Lib.hid hp; have HO3 := Lib.hid (off_t (HO1.out.alloc (.cells #[.int .i64 3, .int .i64 0, .string ⟨#[]⟩] 93)) ho); (first | obtain ⟨qc, qfz, ql⟩ := HP3.out.isbad | obtain ⟨qc, qfz, ql⟩ := HP3.out.isgood); obtain ⟨v0, v1, v2, vf0, vf1, vf2, vlt⟩ := blk3p VB3.out; obtain ⟨r0, r1, r2, rf0, rf1, rf2, rlt⟩ := blk3p RB3.out; clear hp ho))
      rw [HE.out]
      have h9 := put3_bad (x := .int .i64 0) (y := .int .i64 0) (z := .string ⟨#[]⟩) HP3.out hgR HO3.out (Nat.le_refl _)
      exact bodyPost_ret (v := .agg #[.int .i64 0, .int .i64 0, .string ⟨#[]⟩]) (by simp [results, Try.results74, go_sem, *]) rfl ⟨rfl, h9.1, h9.2⟩
    | cons b t =>
      have S' := fun W hW => pcut_any g 1 (some (b :: t)) W hW (by omega)
      rw [show stepR [] (cutR 1) (some (b :: t)) = ([b], some t) from by unfold stepR cutR; simp] at S'
      rw [show ((1 : Nat) : Int) = 1 from rfl] at S'
      rw [show stepR 0 oneR (some (b :: t)) = (b, some t) from rfl] at HP
      simp only at HP
      have hbx := b.toNat_lt
      have hbi : (b.toNat : Int) < 256 := by omega
      obtain ⟨B, hB⟩ : ∃ B : ByteArray, B = ⟨[b].toArray⟩ := ⟨_, rfl⟩
      have hBs : B.size = 1 := by rw [hB]; rfl
      have hB0 : B[0] = b := by subst hB; rfl
      simp only [← hB] at S'
      have S := Lib.hid S'
      clear S' hB
      rw [HP.out] at HR1
      obtain ⟨rb, hrb⟩ : ∃ rb, rb = rightB 3 (b.toNat) ⟨#[]⟩ := ⟨_, rfl⟩
      have RR'' := RR' 3 (b.toNat) ⟨#[]⟩ (by first | omega | decide)
      rw [← hrb] at RR''
      have RR := Lib.hid RR''
      have HRB := Lib.hid hrb
      clear RR' RR'' hrb
      cases rb with
      | false =>
        have HE := Lib.hid (show res = (zeroV, none) from by rw [HR1.out]; unfold finV; rw [if_neg]; simp only; rw [← HRB.out]; simp)
        go_enter Try.func74, Try.ntmps74
        go_wp2_with (first
          | (go_at_call 73/-f-/; (with_reducible refine C1.out.mono ?_); rintro e w1 ⟨rfl, hp, ho⟩; have HP1 := Lib.hid hp; have HO1 := Lib.hid (off_t HO0.out ho); have RB1 := Lib.hid (off_blk ho RB.out hRg); have hs1 := ho.size; simp only [World.size_alloc] at hs1; have VB1 := Lib.hid (fun cs => Blk.new w1 93 cs); (first | obtain ⟨pc, pfz, pl⟩ := HP1.out.isbad | obtain ⟨pc, pfz, pl⟩ := HP1.out.isgood); have hVg : w1.heap.size ≠ g := (by omega); have hgV : g ≠ w1.heap.size := (by omega); have hRV : w.heap.size ≠ w1.heap.size := (by omega); have hVR : w1.heap.size ≠ w.heap.size := (by omega);  clear hp ho)
          | (go_at_call 73/-f-/; (with_reducible refine (S.out _ (HP1.out.more ((Below.refl _ w1).alloc (Nat.le_refl _) (.cells #[.int .i64 3, .int .i64 0, .string ⟨#[]⟩] 93)))).mono ?_); rintro e w2 ⟨rfl, hp, ho⟩; have RB2 := Lib.hid (off_blk ho (RB1.out.alloc _) hRg); have VB2 := Lib.hid (off_blk ho (VB1.out #[.int .i64 3, .int .i64 0, .string ⟨#[]⟩]) hVg); have hs2 := ho.size; simp only [World.size_alloc] at hs2; have HP2 := Lib.hid hp; have HO2 := Lib.hid (off_t (HO1.out.alloc (.cells #[.int .i64 3, .int .i64 0, .string ⟨#[]⟩] 93)) ho); (first | obtain ⟨qc, qfz, ql⟩ := HP2.out.isbad | obtain ⟨qc, qfz, ql⟩ := HP2.out.isgood); obtain ⟨v0, v1, v2, vf0, vf1, vf2, vlt⟩ := blk3p VB2.out; obtain ⟨r0, r1, r2, rf0, rf1, rf2, rlt⟩ := blk3p RB2.out; have RB3 := Lib.hid (RB2.out.far (p := ⟨w1.heap.size, 1, none⟩) hRV (.int .i64 b.toNat)); have VB3 := Lib.hid (show Blk (w2.setCell ⟨w1.heap.size, 1, none⟩ (.int .i64 b.toNat)) w1.heap.size 93 #[.int .i64 3, .int .i64 b.toNat, .string ⟨#[]⟩] from (by simpa using VB2.out.put 1 (.int .i64 b.toNat))); have HP3 := Lib.hid (pt_far (i := 1) (u := .int .i64 b.toNat) HP2.out hgV); have HO3 := Lib.hid (HO2.out.put (p := ⟨w1.heap.size, 1, none⟩) (fun h => absurd h (by simp; omega)) (.int .i64 b.toNat)); clear hp ho)
          | (go_at_call 85/-f-/; (with_reducible refine (RR.out _).mono ?_); rintro e w4 ⟨rfl, hb⟩; have RB4 := Lib.hid (RB3.out.below hb RB3.out.lt); have VB4 := Lib.hid (VB3.out.below hb VB3.out.lt); have HP4 := Lib.hid (HP3.out.more hb); have HO4 := Lib.hid (off_t HO3.out (Off.of hb)); obtain ⟨a0, a1, a2, af0, af1, af2, alt⟩ := blk3p VB4.out; obtain ⟨b0, b1, b2, bf0, bf1, bf2, blt⟩ := blk3p RB4.out; (first | obtain ⟨oc, ofz, ol⟩ := HP4.out.isbad | obtain ⟨oc, ofz, ol⟩ := HP4.out.isgood); clear hb))
        rw [HE.out]
        have h9 := put3_bad (x := .int .i64 0) (y := .int .i64 0) (z := .string ⟨#[]⟩) HP4.out hgR HO4.out (Nat.le_refl _)
        exact bodyPost_ret (v := .agg #[.int .i64 0, .int .i64 0, .string ⟨#[]⟩]) (by simp [results, Try.results74, go_sem, *]) rfl ⟨rfl, h9.1, h9.2⟩
      | true =>
        have HE := Lib.hid (show res = (⟨3, b.toNat, ⟨#[]⟩⟩, some t) from by rw [HR1.out]; unfold finV; rw [if_pos ⟨HRB.out.symm, rfl⟩])
        go_enter Try.func74, Try.ntmps74
        go_wp2_with (first
          | (go_at_call 73/-f-/; (with_reducible refine C1.out.mono ?_); rintro e w1 ⟨rfl, hp, ho⟩; have HP1 := Lib.hid hp; have HO1 := Lib.hid (off_t HO0.out ho); have RB1 := Lib.hid (off_blk ho RB.out hRg); have hs1 := ho.size; simp only [World.size_alloc] at hs1; have VB1 := Lib.hid (fun cs => Blk.new w1 93 cs); (first | obtain ⟨pc, pfz, pl⟩ := HP1.out.isbad | obtain ⟨pc, pfz, pl⟩ := HP1.out.isgood); have hVg : w1.heap.size ≠ g := (by omega); have hgV : g ≠ w1.heap.size := (by omega); have hRV : w.heap.size ≠ w1.heap.size := (by omega); have hVR : w1.heap.size ≠ w.heap.size := (by omega);  clear hp ho)
          | (go_at_call 73/-f-/; (with_reducible refine (S.out _ (HP1.out.more ((Below.refl _ w1).alloc (Nat.le_refl _) (.cells #[.int .i64 3, .int .i64 0, .string ⟨#[]⟩] 93)))).mono ?_); rintro e w2 ⟨rfl, hp, ho⟩; have RB2 := Lib.hid (off_blk ho (RB1.out.alloc _) hRg); have VB2 := Lib.hid (off_blk ho (VB1.out #[.int .i64 3, .int .i64 0, .string ⟨#[]⟩]) hVg); have hs2 := ho.size; simp only [World.size_alloc] at hs2; have HP2 := Lib.hid hp; have HO2 := Lib.hid (off_t (HO1.out.alloc (.cells #[.int .i64 3, .int .i64 0, .string ⟨#[]⟩] 93)) ho); (first | obtain ⟨qc, qfz, ql⟩ := HP2.out.isbad | obtain ⟨qc, qfz, ql⟩ := HP2.out.isgood); obtain ⟨v0, v1, v2, vf0, vf1, vf2, vlt⟩ := blk3p VB2.out; obtain ⟨r0, r1, r2, rf0, rf1, rf2, rlt⟩ := blk3p RB2.out; have RB3 := Lib.hid (RB2.out.far (p := ⟨w1.heap.size, 1, none⟩) hRV (.int .i64 b.toNat)); have VB3 := Lib.hid (show Blk (w2.setCell ⟨w1.heap.size, 1, none⟩ (.int .i64 b.toNat)) w1.heap.size 93 #[.int .i64 3, .int .i64 b.toNat, .string ⟨#[]⟩] from (by simpa using VB2.out.put 1 (.int .i64 b.toNat))); have HP3 := Lib.hid (pt_far (i := 1) (u := .int .i64 b.toNat) HP2.out hgV); have HO3 := Lib.hid (HO2.out.put (p := ⟨w1.heap.size, 1, none⟩) (fun h => absurd h (by simp; omega)) (.int .i64 b.toNat)); clear hp ho)
          | (go_at_call 85/-f-/; (with_reducible refine (RR.out _).mono ?_); rintro e w4 ⟨rfl, hb⟩; have RB4 := Lib.hid (RB3.out.below hb RB3.out.lt); have VB4 := Lib.hid (VB3.out.below hb VB3.out.lt); have HP4 := Lib.hid (HP3.out.more hb); have HO4 := Lib.hid (off_t HO3.out (Off.of hb)); obtain ⟨a0, a1, a2, af0, af1, af2, alt⟩ := blk3p VB4.out; obtain ⟨b0, b1, b2, bf0, bf1, bf2, blt⟩ := blk3p RB4.out; (first | obtain ⟨oc, ofz, ol⟩ := HP4.out.isbad | obtain ⟨oc, ofz, ol⟩ := HP4.out.isgood); clear hb))
        rw [HE.out]
        exact bodyPost_ret (v := .agg #[.int .i64 (3), .int .i64 (b.toNat), .string ⟨#[]⟩]) (by simp [results, Try.results74, go_sem, *]) rfl ⟨rfl, pt_put3 HP4.out hgR, off_put3 HO4.out (Nat.le_refl _)⟩
  · have HP := Lib.hid (show preV x (some r) = (zeroV, some r) from by unfold preV; rw [if_neg h1, if_neg h2, if_neg h3])
    have n1 : ¬ (x.toNat : Int) = 1 := fun h => h1 (UInt8.toNat_inj.1 (by simp; omega))
    have n2 : ¬ (x.toNat : Int) = 2 := fun h => h2 (UInt8.toNat_inj.1 (by simp; omega))
    have n3 : ¬ (x.toNat : Int) = 3 := fun h => h3 (UInt8.toNat_inj.1 (by simp; omega))
    have e1 : ((x.toNat : Int) == 1) = false := beq_eq_false_iff_ne.2 n1
    have e2 : ((x.toNat : Int) == 2) = false := beq_eq_false_iff_ne.2 n2
    have e3 : ((x.toNat : Int) == 3) = false := beq_eq_false_iff_ne.2 n3
    have RR'' := RR' x.toNat 0 ⟨#[]⟩ (by decide)
    rw [rightB_no _ _ _ n1 n2 n3] at RR''
    have RR := Lib.hid RR''
    have HE := Lib.hid (show res = (zeroV, none) from by rw [HR1.out, HP.out]; unfold finV; rw [if_neg (by simp [zeroV, rightB])])
    clear RR' RR'' h1 h2 h3 n1 n2 n3
    go_enter Try.func74, Try.ntmps74
    go_wp2_with (first
      | (go_at_call 73/-f-/; (with_reducible refine C1.out.mono ?_); rintro e w1 ⟨rfl, hp, ho⟩; have HP1 := Lib.hid hp; have HO1 := Lib.hid (off_t HO0.out ho); have RB1 := Lib.hid (off_blk ho RB.out hRg); have hs1 := ho.size; simp only [World.size_alloc] at hs1; have VB1 := Lib.hid (fun cs => Blk.new w1 93 cs); (first | obtain ⟨pc, pfz, pl⟩ := HP1.out.isbad | obtain ⟨pc, pfz, pl⟩ := HP1.out.isgood); have hVg : w1.heap.size ≠ g := (by omega); have hgV : g ≠ w1.heap.size := (by omega); have hRV : w.heap.size ≠ w1.heap.size := (by omega); have hVR : w1.heap.size ≠ w.heap.size := (by omega); have RB3 := Lib.hid (RB1.out.alloc (.cells #[.int .i64 x.toNat, .int .i64 0, .string ⟨#[]⟩] 93)); have VB3 := Lib.hid (VB1.out #[.int .i64 x.toNat, .int .i64 0, .string ⟨#[]⟩]); have HP3 := Lib.hid (HP1.out.more ((Below.refl _ w1).alloc (Nat.le_refl _) (.cells #[.int .i64 x.toNat, .int .i64 0, .string ⟨#[]⟩] 93))); have HO3 := Lib.hid (HO1.out.alloc (.cells #[.int .i64 x.toNat, .int .i64 0, .string ⟨#[]⟩] 93));  clear hp ho)
      | (go_at_call 85/-f-/; (with_reducible refine (RR.out _).mono ?_); rintro e w4 ⟨rfl, hb⟩; have RB4 := Lib.hid (RB3.out.below hb RB3.out.lt); have VB4 := Lib.hid (VB3.out.below hb VB3.out.lt); have HP4 := Lib.hid (HP3.out.more hb); have HO4 := Lib.hid (off_t HO3.out (Off.of hb)); obtain ⟨a0, a1, a2, af0, af1, af2, alt⟩ := blk3p VB4.out; obtain ⟨b0, b1, b2, bf0, bf1, bf2, blt⟩ := blk3p RB4.out; (first | obtain ⟨oc, ofz, ol⟩ := HP4.out.isbad | obtain ⟨oc, ofz, ol⟩ := HP4.out.isgood); clear hb))
    rw [HE.out]
    have h9 := put3_bad (x := .int .i64 0) (y := .int .i64 0) (z := .string ⟨#[]⟩) HP4.out hgR HO4.out (Nat.le_refl _)
    exact bodyPost_ret (v := .agg #[.int .i64 0, .int .i64 0, .string ⟨#[]⟩]) (by simp [results, Try.results74, go_sem, *]) rfl ⟨rfl, h9.1, h9.2⟩
end Go.Proofs.Ytacangeamdcgdaa

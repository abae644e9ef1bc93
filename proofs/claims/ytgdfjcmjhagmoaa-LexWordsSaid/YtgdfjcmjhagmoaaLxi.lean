/- Contracts of package lex: the word at a text's beginning. -/
import Derived.Test.YtgdfjcmjhagmoaaLxh
namespace Go.Proofs.Ytgdfjcmjhagmoaa
open Go.ChangeShapes Go.WideShapes Go.ChangeAt Go.RowKit
theorem fstV_ex (o : Option (Wd × Nat)) : ∃ (k : Int) (t : ByteArray) (n a m : Int), fstV o = .tuple #[.agg #[.int .i64 k, .string t, .int .i64 n, .int .i64 a], .int .i64 m] := ⟨_, _, _, _, _, rfl⟩
theorem le_int (a b : UInt8) : decide (a ≤ b) = decide ((a.toNat : Int) ≤ (b.toNat : Int)) := by
  rw [Bool.eq_iff_iff, decide_eq_true_eq, decide_eq_true_eq, UInt8.le_iff_toNat_le]; omega
theorem fstW_cons (l r : List UInt8) (c : UInt8) (e : l = c :: r) : fstW l = if (decide (48 ≤ c) && decide (c ≤ 57)) = true then numW l else if (decide (97 ≤ c) && decide (c ≤ 122)) = true then namW l else if (c == 39) = true then txtW l else sgnW l := by
  subst e; rfl
theorem fstW_at (s : ByteArray) (h0 : 0 < s.size) : fstW s.data.toList = if decide ((48 : Int) ≤ (s[0].toNat : Int)) && decide ((s[0].toNat : Int) ≤ 57) then numW s.data.toList else if decide ((97 : Int) ≤ (s[0].toNat : Int)) && decide ((s[0].toNat : Int) ≤ 122) then namW s.data.toList else if decide ((s[0].toNat : Int) = 39) then txtW s.data.toList else sgnW s.data.toList := by
  have e : s.data.toList = s[0] :: s.data.toList.drop 1 := drop_at s 0 h0
  have h9 : (s[0] == 39) = decide ((s[0].toNat : Int) = 39) := by
    rw [Bool.eq_iff_iff, beq_iff_eq, decide_eq_true_eq, ← UInt8.toNat_inj]; simp; omega
  obtain ⟨l, hl⟩ : ∃ l, l = s.data.toList := ⟨_, rfl⟩
  rw [← hl] at e ⊢
  generalize s[0] = c at *
  have h1 := le_int 48 c
  have h2 := le_int c 57
  have h3 := le_int 97 c
  have h4 := le_int c 122
  show _ = if decide (((48 : UInt8).toNat : Int) ≤ _) && decide (_ ≤ ((57 : UInt8).toNat : Int)) then _ else if decide (((97 : UInt8).toNat : Int) ≤ _) && decide (_ ≤ ((122 : UInt8).toNat : Int)) then _ else _
  rw [← h1, ← h2, ← h3, ← h4, ← h9]
  exact fstW_cons l _ c e
set_option maxRecDepth 100000 in
set_option maxHeartbeats 8000000 in
theorem first_any (s : ByteArray) (w : World) (hs : s.size ≤ 1000000) (h0 : 0 < s.size) :
    Calls Try.prog 21/-f-/ #[.string s] w fun e w' => e = .returned (fstV (fstW s.data.toList)) ∧ Below w.heap.size w w' := by
  have HF' := fstW_at s h0
  generalize fstW s.data.toList = res at *
  generalize hz : (s[0].toNat : Int) = z at *
  have hz2 : (s[0].toNat : Int) = z := hz
  have BEL := Lib.hid (fun (wr : World) (h : Below (w4 w).heap.size (w4 w) wr) => (show Below w.heap.size w wr from ((Below.refl _ _).alloc (Nat.le_refl _) _).trans (h.mono (by rw [w4_size]; omega))))
  have BK := Lib.hid (fun (wr : World) (h : Below (w4 w).heap.size (w4 w) wr) => (show Blk wr w.heap.size 35 #[.int .i64 0, .string ⟨#[]⟩, .int .i64 0, .int .i64 0] from Blk.below (w := w4 w) (Blk.new w 35 _) h (by rw [w4_size]; omega)))
  by_cases p1 : (48 : Int) ≤ z ∧ z ≤ 57
  · obtain ⟨p1, p2⟩ := p1
    have HR := Lib.hid (show res = numW s.data.toList from by rw [HF', if_pos (by simp [p1, p2])])
    clear HF'
    obtain ⟨a1, a2, a3, a4, a5, ha⟩ := fstV_ex (numW s.data.toList)
    have C' := fun W => number_any s W hs
    rw [ha] at C'
    rw [← HR.out] at ha
    have HA := Lib.hid ha
    have C := Lib.hid C'
    clear C' ha hz
    go_enter Try.func21, Try.ntmps21
    go_wp2_with (go_at_call 31/-f-/; (with_reducible refine (C.out _).mono ?_); rintro e w2 ⟨rfl, hb2⟩; have HB2 := Lib.hid hb2; clear hb2; obtain ⟨c0, c1, c2, c3, f0, f1, f2, f3, hlw⟩ := blk4 (BK.out _ HB2.out))
    rw [HA.out]
    exact bodyPost_ret (v := .tuple #[.agg #[.int .i64 a1, .string a2, .int .i64 a3, .int .i64 a4], .int .i64 a5]) (by simp [results, Try.results21, go_sem, c0, c1, c2, c3]) rfl ⟨rfl, ((((BEL.out _ HB2.out).setCell (Nat.le_refl _) _).setCell (Nat.le_refl _) _).setCell (Nat.le_refl _) _).setCell (Nat.le_refl _) _⟩
  · have q1 : (decide ((48 : Int) ≤ z) && decide (z ≤ 57)) = false := by rw [Bool.eq_false_iff]; intro h; apply p1; simpa using h
    rw [if_neg (by rw [q1]; decide)] at HF'
    clear q1
    by_cases p3 : (97 : Int) ≤ z ∧ z ≤ 122
    · obtain ⟨p3, p4⟩ := p3
      have p5 : ¬ z ≤ 57 := by omega
      have p6 : (48 : Int) ≤ z := by omega
      clear p1
      have HR := Lib.hid (show res = namW s.data.toList from by rw [HF', if_pos (by simp [p3, p4])])
      clear HF'
      obtain ⟨a1, a2, a3, a4, a5, ha⟩ := fstV_ex (namW s.data.toList)
      have C' := fun W => name_any s W hs
      rw [ha] at C'
      rw [← HR.out] at ha
      have HA := Lib.hid ha
      have C := Lib.hid C'
      clear C' ha hz
      go_enter Try.func21, Try.ntmps21
      go_wp2_with (go_at_call 32/-f-/; (with_reducible refine (C.out _).mono ?_); rintro e w2 ⟨rfl, hb2⟩; have HB2 := Lib.hid hb2; clear hb2; obtain ⟨c0, c1, c2, c3, f0, f1, f2, f3, hlw⟩ := blk4 (BK.out _ HB2.out))
      rw [HA.out]
      exact bodyPost_ret (v := .tuple #[.agg #[.int .i64 a1, .string a2, .int .i64 a3, .int .i64 a4], .int .i64 a5]) (by simp [results, Try.results21, go_sem, c0, c1, c2, c3]) rfl ⟨rfl, ((((BEL.out _ HB2.out).setCell (Nat.le_refl _) _).setCell (Nat.le_refl _) _).setCell (Nat.le_refl _) _).setCell (Nat.le_refl _) _⟩
    · have q1 : (decide ((97 : Int) ≤ z) && decide (z ≤ 122)) = false := by rw [Bool.eq_false_iff]; intro h; apply p3; simpa using h
      rw [if_neg (by rw [q1]; decide)] at HF'
      clear q1
      by_cases p7 : z = 39
      · have q2 : (z == 39) = true := by rw [p7]; rfl
        have p8 : ¬ (48 : Int) ≤ z := by omega
        have p9 : ¬ (97 : Int) ≤ z := by omega
        rw [if_pos (by simpa using p7)] at HF'
        clear p1 p3 p7
        have HR := Lib.hid (show res = txtW s.data.toList from by rw [HF'])
        clear HF'
        obtain ⟨a1, a2, a3, a4, a5, ha⟩ := fstV_ex (txtW s.data.toList)
        have C' := fun W => text_any s W hs h0
        rw [ha] at C'
        rw [← HR.out] at ha
        have HA := Lib.hid ha
        have C := Lib.hid C'
        clear C' ha hz
        go_enter Try.func21, Try.ntmps21
        go_wp2_with (go_at_call 33/-f-/; (with_reducible refine (C.out _).mono ?_); rintro e w2 ⟨rfl, hb2⟩; have HB2 := Lib.hid hb2; clear hb2; obtain ⟨c0, c1, c2, c3, f0, f1, f2, f3, hlw⟩ := blk4 (BK.out _ HB2.out))
        rw [HA.out]
        exact bodyPost_ret (v := .tuple #[.agg #[.int .i64 a1, .string a2, .int .i64 a3, .int .i64 a4], .int .i64 a5]) (by simp [results, Try.results21, go_sem, c0, c1, c2, c3]) rfl ⟨rfl, ((((BEL.out _ HB2.out).setCell (Nat.le_refl _) _).setCell (Nat.le_refl _) _).setCell (Nat.le_refl _) _).setCell (Nat.le_refl _) _⟩
      · have q2 : (z == 39) = false := beq_eq_false_iff_ne.2 p7
        rw [if_neg (by simpa using p7)] at HF'
        clear p7
        have hr : (z < 48) ∨ ((48 : Int) ≤ z ∧ 57 < z ∧ z < 97) ∨ ((48 : Int) ≤ z ∧ 57 < z ∧ (97 : Int) ≤ z ∧ 122 < z) := by omega
        clear p1 p3
        rcases hr with r1 | ⟨r1, r2, r3⟩ | ⟨r1, r2, r3, r4⟩
        · have r9 : z < 97 := by omega
          have HR := Lib.hid (show res = sgnW s.data.toList from by rw [HF'])
          clear HF'
          obtain ⟨a1, a2, a3, a4, a5, ha⟩ := fstV_ex (sgnW s.data.toList)
          have C' := fun W => sign_any s W hs h0
          rw [ha] at C'
          rw [← HR.out] at ha
          have HA := Lib.hid ha
          have C := Lib.hid C'
          clear C' ha hz
          go_enter Try.func21, Try.ntmps21
          go_wp2_with (go_at_call 34/-f-/; (with_reducible refine (C.out _).mono ?_); rintro e w2 ⟨rfl, hb2⟩; have HB2 := Lib.hid hb2; clear hb2; obtain ⟨c0, c1, c2, c3, f0, f1, f2, f3, hlw⟩ := blk4 (BK.out _ HB2.out))
          rw [HA.out]
          exact bodyPost_ret (v := .tuple #[.agg #[.int .i64 a1, .string a2, .int .i64 a3, .int .i64 a4], .int .i64 a5]) (by simp [results, Try.results21, go_sem, c0, c1, c2, c3]) rfl ⟨rfl, ((((BEL.out _ HB2.out).setCell (Nat.le_refl _) _).setCell (Nat.le_refl _) _).setCell (Nat.le_refl _) _).setCell (Nat.le_refl _) _⟩
        · have HR := Lib.hid (show res = sgnW s.data.toList from by rw [HF'])
          clear HF'
          obtain ⟨a1, a2, a3, a4, a5, ha⟩ := fstV_ex (sgnW s.data.toList)
          have C' := fun W => sign_any s W hs h0
          rw [ha] at C'
          rw [← HR.out] at ha
          have HA := Lib.hid ha
          have C := Lib.hid C'
          clear C' ha hz
          go_enter Try.func21, Try.ntmps21
          go_wp2_with (go_at_call 34/-f-/; (with_reducible refine (C.out _).mono ?_); rintro e w2 ⟨rfl, hb2⟩; have HB2 := Lib.hid hb2; clear hb2; obtain ⟨c0, c1, c2, c3, f0, f1, f2, f3, hlw⟩ := blk4 (BK.out _ HB2.out))
          rw [HA.out]
          exact bodyPost_ret (v := .tuple #[.agg #[.int .i64 a1, .string a2, .int .i64 a3, .int .i64 a4], .int .i64 a5]) (by simp [results, Try.results21, go_sem, c0, c1, c2, c3]) rfl ⟨rfl, ((((BEL.out _ HB2.out).setCell (Nat.le_refl _) _).setCell (Nat.le_refl _) _).setCell (Nat.le_refl _) _).setCell (Nat.le_refl _) _⟩
        · have HR := Lib.hid (show res = sgnW s.data.toList from by rw [HF'])
          clear HF'
          obtain ⟨a1, a2, a3, a4, a5, ha⟩ := fstV_ex (sgnW s.data.toList)
          have C' := fun W => sign_any s W hs h0
          rw [ha] at C'
          rw [← HR.out] at ha
          have HA := Lib.hid ha
          have C := Lib.hid C'
          clear C' ha hz
          go_enter Try.func21, Try.ntmps21
          go_wp2_with (go_at_call 34/-f-/; (with_reducible refine (C.out _).mono ?_); rintro e w2 ⟨rfl, hb2⟩; have HB2 := Lib.hid hb2; clear hb2; obtain ⟨c0, c1, c2, c3, f0, f1, f2, f3, hlw⟩ := blk4 (BK.out _ HB2.out))
          rw [HA.out]
          exact bodyPost_ret (v := .tuple #[.agg #[.int .i64 a1, .string a2, .int .i64 a3, .int .i64 a4], .int .i64 a5]) (by simp [results, Try.results21, go_sem, c0, c1, c2, c3]) rfl ⟨rfl, ((((BEL.out _ HB2.out).setCell (Nat.le_refl _) _).setCell (Nat.le_refl _) _).setCell (Nat.le_refl _) _).setCell (Nat.le_refl _) _⟩
end Go.Proofs.Ytgdfjcmjhagmoaa

/- Contracts of package lex: behind blanks; how long a run is. -/
import Derived.Test.YtgdfjcmjhagmoaaLxb
namespace Go.Proofs.Ytgdfjcmjhagmoaa
open Go.ChangeShapes Go.WideShapes Go.ChangeAt Go.RowKit
theorem rem_cons (c : UInt8) (r : List UInt8) : rem (c :: r) = (c == 47 && r.head? == some 47) := by
  cases r with
  | nil => simp [rem]
  | cons d t => simp [rem]
theorem blk_false (c : UInt8) (r : List UInt8) : blk false (c :: r) = if isBl c then blk false r + 1 else if rem (c :: r) then blk true (c :: r) else 0 := by
  rw [rem_cons]
  show (if isBl c then blk false r + 1 else if c == 47 && r.head? == some 47 then blk true r + 1 else 0) = _
  by_cases h : (c == 47 && r.head? == some 47) = true
  · rw [if_pos h, if_pos h]
    have h2 : c = 47 := by simp at h; exact h.1
    subst h2
    rfl
  · rw [if_neg h, if_neg h]
theorem blk_true (c : UInt8) (r : List UInt8) : blk true (c :: r) = if c == 10 then blk false (c :: r) else blk true r + 1 := by
  show (if c == 10 then blk false r + 1 else blk true r + 1) = _
  by_cases h : (c == 10) = true
  · rw [if_pos h, if_pos h]
    have h2 : c = 10 := by simpa using h
    subst h2
    rfl
  · rw [if_neg h, if_neg h]
set_option maxRecDepth 100000 in
set_option maxHeartbeats 8000000 in
theorem behind_any (s : ByteArray) (k0 : Nat) (w : World) (hs : s.size ≤ 1000000) (hk0 : k0 ≤ s.size) :
    Calls Try.prog 20/-f-/ #[.string s, .int .i64 k0] w fun e w' => e = .returned (.int .i64 ((k0 + blk false (s.data.toList.drop k0) : Nat) : Int)) ∧ w = w' := by
  obtain ⟨R, hR⟩ : ∃ R, R = k0 + blk false (s.data.toList.drop k0) := ⟨_, rfl⟩
  rw [← hR]
  have HR := Lib.hid hR.symm
  clear hR
  go_enter Try.func20, Try.ntmps20
  go_wp2
  go_loop [1] (fun i => ∃ k : Nat, k ≤ s.size ∧ i = .int .i64 k ∧ Hid (k + blk false (s.data.toList.drop k) = R)) (fun i => s.size - (intOf i).toNat)
  case atStart => exact ⟨k0, hk0, rfl, HR⟩
  case round =>
    obtain ⟨k, hk, rfl, heq⟩ := hrel
    by_cases hlt : k < s.size
    · have HD := Lib.hid (drop_at s k hlt)
      obtain ⟨c, hc⟩ : ∃ c, c = s[k] := ⟨_, rfl⟩
      have HC := Lib.hid hc
      rw [← hc] at HD
      obtain ⟨b1, hb1⟩ : ∃ b, b = (c == 32) := ⟨_, rfl⟩
      obtain ⟨b2, hb2⟩ : ∃ b, b = (c == 9) := ⟨_, rfl⟩
      obtain ⟨b3, hb3⟩ : ∃ b, b = (c == 10) := ⟨_, rfl⟩
      have e1 : ((s[k].toNat : Int) == 32) = b1 := by rw [hb1, ← hc]; exact byte_eq c 32 (by decide)
      have e2 : ((s[k].toNat : Int) == 9) = b2 := by rw [hb2, ← hc]; exact byte_eq c 9 (by decide)
      have e3 : ((s[k].toNat : Int) == 10) = b3 := by rw [hb3, ← hc]; exact byte_eq c 10 (by decide)
      have HB := Lib.hid (show isBl c = (b1 || b2 || b3) from by rw [hb1, hb2, hb3]; rfl)
      have HB3 := Lib.hid hb3
      clear hb1 hb2 hb3 hc
      have YES : ∀ b, (b1 || b2 || b3) = b → b = true → Hid (k + 1 + blk false (s.data.toList.drop (k + 1)) = R) := fun b h1 h2 => Lib.hid (by
        have := heq.out
        rw [HD.out, blk_false, HB.out, h1, h2] at this
        simp only [if_true] at this
        omega)
      cases b1 with
      | true =>
        have HY := YES _ rfl rfl
        clear YES
        go_wp2
        go_round
        case rel => exact ⟨k + 1, hlt, by go_num, HY⟩
        case measure => simp [intOf]; omega
      | false =>
      cases b2 with
      | true =>
        have HY := YES _ rfl rfl
        clear YES
        go_wp2
        go_round
        case rel => exact ⟨k + 1, hlt, by go_num, HY⟩
        case measure => simp [intOf]; omega
      | false =>
      cases b3 with
      | true =>
        have HY := YES _ rfl rfl
        clear YES
        go_wp2
        go_round
        case rel => exact ⟨k + 1, hlt, by go_num, HY⟩
        case measure => simp [intOf]; omega
      | false =>
      clear YES
      have hext : (s.extract k s.size).data.toList = s.data.toList.drop k := by
        have : List.take (s.size - k) (List.drop k s.data.toList) = List.drop k s.data.toList := List.take_of_length_le (by simp)
        simpa using this
      have hes : (s.extract k s.size).size ≤ 1000000 := by simp; omega
      have P' := fun W => hp_any (s.extract k s.size) W hes
      rw [hext] at P'
      obtain ⟨q, hq⟩ : ∃ q, q = rem (s.data.toList.drop k) := ⟨_, rfl⟩
      rw [← hq] at P'
      have P := Lib.hid P'
      have HQ := Lib.hid hq
      clear P' hq hext hes
      cases q with
      | false =>
        have HX := Lib.hid (show k = R from by
          have := heq.out
          rw [HD.out, blk_false, HB.out] at this
          have h2 := HQ.out
          rw [HD.out] at h2
          rw [← h2] at this
          simpa using this)
        go_wp2_with (go_at_call 30/-f-/; (with_reducible refine (P.out _).mono ?_); rintro e w1 ⟨rfl, rfl⟩)
        go_ret
        exact ⟨ret_int (by rw [HX.out]), rfl⟩
      | true =>
        have HX := Lib.hid (show k + blk true (s.data.toList.drop k) = R from by
          have := heq.out
          rw [HD.out, blk_false, HB.out] at this
          have h2 := HQ.out
          rw [HD.out] at h2
          rw [← h2] at this
          rw [HD.out]
          simpa using this)
        go_wp2_with (go_at_call 30/-f-/; (with_reducible refine (P.out _).mono ?_); rintro e w1 ⟨rfl, rfl⟩)
        clear e1 e2
        go_loop [1] (fun i => ∃ j : Nat, k ≤ j ∧ j ≤ s.size ∧ i = .int .i64 j ∧ Hid (j + blk true (s.data.toList.drop j) = R)) (fun i => s.size - (intOf i).toNat)
        case atStart => exact ⟨k, Nat.le_refl _, hk, rfl, HX⟩
        case round =>
          obtain ⟨j, hkj, hj, rfl, heq2⟩ := hrel
          by_cases hlt2 : j < s.size
          · have HD2 := Lib.hid (drop_at s j hlt2)
            obtain ⟨d, hd⟩ : ∃ d, d = s[j] := ⟨_, rfl⟩
            rw [← hd] at HD2
            obtain ⟨b4, hb4⟩ : ∃ b, b = (d == 10) := ⟨_, rfl⟩
            have f1 : ((s[j].toNat : Int) == 10) = b4 := by rw [hb4, ← hd]; exact byte_eq d 10 (by decide)
            have f2 : ((s[j].toNat : Int) != 10) = !b4 := by rw [bne, f1]
            have HB4 := Lib.hid hb4
            have HDD := Lib.hid hd
            clear hb4 hd
            cases b4 with
            | true =>
              have hjk : j ≠ k := by
                intro h
                subst h
                have h1 := HB4.out
                rw [HDD.out, ← HC.out, ← HB3.out] at h1
                cases h1
              have HY := Lib.hid (show j + blk false (s.data.toList.drop j) = R from by
                have := heq2.out
                rw [HD2.out, blk_true, ← HB4.out, if_pos rfl] at this
                rw [HD2.out]; exact this)
              go_wp2
              go_round
              case rel => exact ⟨j, hj, rfl, HY⟩
              case measure => simp [intOf]; omega
            | false =>
              have HY := Lib.hid (show j + 1 + blk true (s.data.toList.drop (j + 1)) = R from by
                have := heq2.out
                rw [HD2.out, blk_true, ← HB4.out] at this
                simp only [Bool.false_eq_true, if_false] at this
                omega)
              go_wp2
              go_round
              case rel => exact ⟨j + 1, by omega, hlt2, by go_num, HY⟩
              case measure => simp [intOf]; omega
          · have hjl : j = s.size := by omega
            have HY := Lib.hid (show j + blk false (s.data.toList.drop j) = R from by
              have := heq2.out
              rw [hjl, drop_end] at this ⊢
              exact this)
            subst hjl
            go_wp2
            go_round
            case rel => exact ⟨s.size, Nat.le_refl _, rfl, HY⟩
            case measure => simp [intOf]; omega
    · have hkl : k = s.size := by omega
      have HX := Lib.hid (show k = R from by
        have := heq.out
        rw [hkl, drop_end] at this
        rw [hkl]; exact this)
      subst hkl
      go_wp2
      go_ret
      exact ⟨ret_int (by rw [HX.out]), rfl⟩
theorem runN_cons (c : UInt8) (r : List UInt8) : runN (c :: r) = if isP c then runN r + 1 else 0 := rfl
set_option maxRecDepth 100000 in
set_option maxHeartbeats 8000000 in
theorem run_any (s : ByteArray) (w : World) (hs : s.size ≤ 1000000) :
    Calls Try.prog 39/-f-/ #[.string s] w fun e w' => e = .returned (.int .i64 (runN s.data.toList)) ∧ w = w' := by
  obtain ⟨R, hR⟩ : ∃ R, R = runN s.data.toList := ⟨_, rfl⟩
  rw [← hR]
  have HR := Lib.hid hR.symm
  clear hR
  go_enter Try.func39, Try.ntmps39
  go_wp2
  go_loop [3, 4] (fun i _ => ∃ k : Nat, k ≤ s.size ∧ i = .int .i64 k ∧ Hid (k + runN (s.data.toList.drop k) = R)) (fun i _ => s.size - (intOf i).toNat)
  case atStart => exact ⟨0, Nat.zero_le _, rfl, Lib.hid (by simpa using HR.out)⟩
  case round =>
    obtain ⟨k, hk, rfl, heq⟩ := hrel
    by_cases hlt : k < s.size
    · have HD := Lib.hid (drop_at s k hlt)
      obtain ⟨c, hc⟩ : ∃ c, c = s[k] := ⟨_, rfl⟩
      rw [← hc] at HD
      have hcl := c.toNat_lt
      have HP := Lib.hid (show isP c = ((decide (97 ≤ (c.toNat : Int)) && decide ((c.toNat : Int) ≤ 122)) || (decide (65 ≤ (c.toNat : Int)) && decide ((c.toNat : Int) ≤ 90)) || (decide (48 ≤ (c.toNat : Int)) && decide ((c.toNat : Int) ≤ 57)) || decide ((c.toNat : Int) = 95)) from by
        unfold isP
        have h : ∀ a b : UInt8, decide (a ≤ b) = decide ((a.toNat : Int) ≤ (b.toNat : Int)) := fun a b => by
          rw [Bool.eq_iff_iff, decide_eq_true_eq, decide_eq_true_eq, UInt8.le_iff_toNat_le]; omega
        have h9 : (c == 95) = decide ((c.toNat : Int) = 95) := by
          rw [Bool.eq_iff_iff, beq_iff_eq, decide_eq_true_eq, ← UInt8.toNat_inj]; simp; omega
        rw [h, h, h, h, h, h, h9]; rfl)
      have HN := Lib.hid (runN_cons c (s.data.toList.drop (k + 1)))
      clear hcl
      generalize hz : (c.toNat : Int) = z at *
      have hz2 : (s[k].toNat : Int) = z := by rw [← hc]; exact hz
      obtain ⟨b, hb⟩ : ∃ b, b = isP c := ⟨_, rfl⟩
      cases b with
      | true =>
        have HY := Lib.hid (show k + 1 + runN (s.data.toList.drop (k + 1)) = R from by
          have := heq.out
          rw [HD.out, HN.out, ← hb, if_pos rfl] at this
          omega)
        have hp := HP.out
        rw [← hb] at hp
        simp only [Bool.true_eq, Bool.or_eq_true, Bool.and_eq_true, decide_eq_true_eq] at hp
        clear HP hb hc hz
        rcases hp with ((⟨p1, p2⟩ | ⟨p1, p2⟩) | ⟨p1, p2⟩) | p1
        all_goals
          go_wp2
          all_goals
            first
            | omega
            | (go_round
               case rel => exact ⟨k + 1, hlt, by go_num, HY⟩
               case measure => simp [intOf]; omega)
      | false =>
        have HX := Lib.hid (show k = R from by
          have := heq.out
          rw [HD.out, HN.out, ← hb] at this
          simpa using this)
        have hp := HP.out
        rw [← hb] at hp
        simp only [Bool.false_eq, Bool.or_eq_false_iff, Bool.and_eq_false_iff, decide_eq_false_iff_not] at hp
        clear HP hb hc hz
        obtain ⟨⟨⟨p1, p2⟩, p3⟩, p4⟩ := hp
        have e4 : (z == 95) = false := beq_eq_false_iff_ne.2 p4
        have e5 : (z != 95) = true := by rw [bne, e4]; rfl
        clear p4
        rcases p1 with p1 | p1 <;> rcases p2 with p2 | p2 <;> rcases p3 with p3 | p3
        all_goals
          simp only [Int.not_le] at p1 p2 p3
          go_wp2
          all_goals
            first
            | omega
            | (go_ret
               exact ⟨ret_int (by rw [HX.out]), rfl⟩)
    · have hkl : k = s.size := by omega
      have HX := Lib.hid (show k = R from by
        have := heq.out
        rw [hkl, drop_end] at this
        rw [hkl]; exact this)
      subst hkl
      go_wp2
      go_ret
      exact ⟨ret_int (by rw [HX.out]), rfl⟩
end Go.Proofs.Ytgdfjcmjhagmoaa

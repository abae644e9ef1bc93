/- Contracts of package lex: signs. -/
import Derived.Test.YtgdfjcmjhagmoaaLxf
import Derived.Test.YtgdfjcmjhagmoaaShelf
namespace Go.Proofs.Ytgdfjcmjhagmoaa
open Go.ChangeShapes Go.WideShapes Go.ChangeAt Go.RowKit
theorem two_ext (s : ByteArray) (h : 2 ≤ s.size) : two s.data.toList = (((s.extract 0 2).toList == [60, 61]) || ((s.extract 0 2).toList == [33, 61]) || ((s.extract 0 2).toList == [62, 61])) := by
  obtain ⟨⟨l⟩⟩ := s
  match l with
  | [] => simp [ByteArray.size] at h
  | [c] => simp [ByteArray.size] at h
  | c :: d :: r =>
    have h1 : ((⟨⟨c :: d :: r⟩⟩ : ByteArray).extract 0 2) = ⟨#[c, d]⟩ := by
      apply ByteArray.ext; apply Array.toList_inj.1; simp
    rw [h1]
    simp only [two, ByteArray.toList_eq]
    rw [Bool.eq_iff_iff]
    simp
    constructor
    · rintro ⟨hd, (h | h) | h⟩ <;> simp [hd, h]
    · rintro ((⟨h, hd⟩ | ⟨h, hd⟩) | ⟨h, hd⟩) <;> simp [hd, h]
theorem two_short (s : ByteArray) (h : ¬ 2 ≤ s.size) : two s.data.toList = false := by
  obtain ⟨⟨l⟩⟩ := s
  match l with
  | [] => rfl
  | [c] => rfl
  | c :: d :: r => exact absurd (by simp [ByteArray.size]) h
theorem head_any (s : ByteArray) (h : 0 < s.size) : s.data.toList.head?.any (signs.contains ·) = decide ((0 : Int) ≤ Lib.indexByte signs (s[0]).toNat.toUInt8) := by
  rw [ib_mem, show s.data.toList = s[0] :: s.data.toList.drop 1 from (drop_at s 0 h)]
  simp
set_option maxRecDepth 100000 in
set_option maxHeartbeats 4000000 in
theorem sign_any (s : ByteArray) (w : World) (hs : s.size ≤ 1000000) (h0 : 0 < s.size) :
    Calls Try.prog 34/-f-/ #[.string s] w fun e w' => e = .returned (fstV (sgnW s.data.toList)) ∧ Below w.heap.size w w' := by
  have S' := fun W => Try.strings_IndexByte ⟨#[40, 41, 123, 125, 91, 93, 44, 59, 58, 46, 43, 45, 42, 47, 37, 60, 61, 62]⟩ ((s[0]).toNat : Int) W
  rw [show (⟨#[40, 41, 123, 125, 91, 93, 44, 59, 58, 46, 43, 45, 42, 47, 37, 60, 61, 62]⟩ : ByteArray).data.toList = signs from rfl, show (((s[0]).toNat : Int)).toNat = (s[0]).toNat from rfl] at S'
  have HE1 := ext_take0 s 1
  have HE2 := ext_take0 s 2
  have HW' := show sgnW s.data.toList = if two s.data.toList then some (⟨0, ⟨(s.data.toList.take 2).toArray⟩, 0, 0⟩, 2)
    else if s.data.toList.head?.any (signs.contains ·) then some (⟨0, ⟨(s.data.toList.take 1).toArray⟩, 0, 0⟩, 1) else none from rfl
  rw [head_any s h0, ← HE1, ← HE2] at HW'
  generalize sgnW s.data.toList = res at *
  generalize Lib.indexByte signs (s[0]).toNat.toUInt8 = ix at *
  have S := Lib.hid S'
  clear S' HE1 HE2
  by_cases h2 : 2 ≤ s.size
  · rw [two_ext s h2] at HW'
    obtain ⟨q1, eq1⟩ : ∃ q, ((s.extract 0 2).toList == [60, 61]) = q := ⟨_, rfl⟩
    obtain ⟨q2, eq2⟩ : ∃ q, ((s.extract 0 2).toList == [33, 61]) = q := ⟨_, rfl⟩
    obtain ⟨q3, eq3⟩ : ∃ q, ((s.extract 0 2).toList == [62, 61]) = q := ⟨_, rfl⟩
    rw [eq1, eq2, eq3] at HW'
    cases q1 with
    | true =>
      have HR := Lib.hid (show res = some (⟨0, s.extract 0 2, 0, 0⟩, 2) from by rw [HW', if_pos (by simp)])
      clear HW'
      go_enter Try.func34, Try.ntmps34
      go_wp2_with (go_at_call 45/-f-/; (with_reducible refine (S.out _).mono ?_); rintro e w1 ⟨rfl, rfl⟩)
      rw [HR.out]
      exact bodyPost_ret (v := .tuple #[.agg #[.int .i64 0, .string (s.extract 0 2), .int .i64 0, .int .i64 0], .int .i64 2]) (by simp [results, Try.results34, go_sem]) rfl ⟨rfl, by first | exact (Below.refl _ _).alloc (Nat.le_refl _) _ | exact ((Below.refl _ _).alloc (Nat.le_refl _) _).setCell (Nat.le_refl _) _⟩
    | false =>
      cases q2 with
      | true =>
        have HR := Lib.hid (show res = some (⟨0, s.extract 0 2, 0, 0⟩, 2) from by rw [HW', if_pos (by simp)])
        clear HW'
        go_enter Try.func34, Try.ntmps34
        go_wp2_with (go_at_call 45/-f-/; (with_reducible refine (S.out _).mono ?_); rintro e w1 ⟨rfl, rfl⟩)
        rw [HR.out]
        exact bodyPost_ret (v := .tuple #[.agg #[.int .i64 0, .string (s.extract 0 2), .int .i64 0, .int .i64 0], .int .i64 2]) (by simp [results, Try.results34, go_sem]) rfl ⟨rfl, by first | exact (Below.refl _ _).alloc (Nat.le_refl _) _ | exact ((Below.refl _ _).alloc (Nat.le_refl _) _).setCell (Nat.le_refl _) _⟩
      | false =>
        cases q3 with
        | true =>
          have HR := Lib.hid (show res = some (⟨0, s.extract 0 2, 0, 0⟩, 2) from by rw [HW', if_pos (by simp)])
          clear HW'
          go_enter Try.func34, Try.ntmps34
          go_wp2_with (go_at_call 45/-f-/; (with_reducible refine (S.out _).mono ?_); rintro e w1 ⟨rfl, rfl⟩)
          rw [HR.out]
          exact bodyPost_ret (v := .tuple #[.agg #[.int .i64 0, .string (s.extract 0 2), .int .i64 0, .int .i64 0], .int .i64 2]) (by simp [results, Try.results34, go_sem]) rfl ⟨rfl, by first | exact (Below.refl _ _).alloc (Nat.le_refl _) _ | exact ((Below.refl _ _).alloc (Nat.le_refl _) _).setCell (Nat.le_refl _) _⟩
        | false =>
          by_cases hx : (0 : Int) ≤ ix
          · have HR := Lib.hid (show res = some (⟨0, s.extract 0 1, 0, 0⟩, 1) from by rw [HW', if_neg (by simp), if_pos (by simpa using hx)])
            clear HW'
            go_enter Try.func34, Try.ntmps34
            go_wp2_with (go_at_call 45/-f-/; (with_reducible refine (S.out _).mono ?_); rintro e w1 ⟨rfl, rfl⟩)
            rw [HR.out]
            exact bodyPost_ret (v := .tuple #[.agg #[.int .i64 0, .string (s.extract 0 1), .int .i64 0, .int .i64 0], .int .i64 1]) (by simp [results, Try.results34, go_sem]) rfl ⟨rfl, by first | exact (Below.refl _ _).alloc (Nat.le_refl _) _ | exact ((Below.refl _ _).alloc (Nat.le_refl _) _).setCell (Nat.le_refl _) _⟩
          · have HR := Lib.hid (show res = none from by rw [HW', if_neg (by simp), if_neg (by simpa using hx)])
            clear HW'
            go_enter Try.func34, Try.ntmps34
            go_wp2_with (go_at_call 45/-f-/; (with_reducible refine (S.out _).mono ?_); rintro e w1 ⟨rfl, rfl⟩)
            rw [HR.out]
            exact bodyPost_ret (v := .tuple #[.agg #[.int .i64 0, .string ⟨#[]⟩, .int .i64 0, .int .i64 0], .int .i64 0]) (by simp [results, Try.results34, go_sem]) rfl ⟨rfl, by first | exact (Below.refl _ _).alloc (Nat.le_refl _) _ | exact ((Below.refl _ _).alloc (Nat.le_refl _) _).setCell (Nat.le_refl _) _⟩
  · rw [two_short s h2] at HW'
    by_cases hx : (0 : Int) ≤ ix
    · have HR := Lib.hid (show res = some (⟨0, s.extract 0 1, 0, 0⟩, 1) from by rw [HW', if_neg (by simp), if_pos (by simpa using hx)])
      clear HW'
      go_enter Try.func34, Try.ntmps34
      go_wp2_with (go_at_call 45/-f-/; (with_reducible refine (S.out _).mono ?_); rintro e w1 ⟨rfl, rfl⟩)
      rw [HR.out]
      exact bodyPost_ret (v := .tuple #[.agg #[.int .i64 0, .string (s.extract 0 1), .int .i64 0, .int .i64 0], .int .i64 1]) (by simp [results, Try.results34, go_sem]) rfl ⟨rfl, by first | exact (Below.refl _ _).alloc (Nat.le_refl _) _ | exact ((Below.refl _ _).alloc (Nat.le_refl _) _).setCell (Nat.le_refl _) _⟩
    · have HR := Lib.hid (show res = none from by rw [HW', if_neg (by simp), if_neg (by simpa using hx)])
      clear HW'
      go_enter Try.func34, Try.ntmps34
      go_wp2_with (go_at_call 45/-f-/; (with_reducible refine (S.out _).mono ?_); rintro e w1 ⟨rfl, rfl⟩)
      rw [HR.out]
      exact bodyPost_ret (v := .tuple #[.agg #[.int .i64 0, .string ⟨#[]⟩, .int .i64 0, .int .i64 0], .int .i64 0]) (by simp [results, Try.results34, go_sem]) rfl ⟨rfl, by first | exact (Below.refl _ _).alloc (Nat.le_refl _) _ | exact ((Below.refl _ _).alloc (Nat.le_refl _) _).setCell (Nat.le_refl _) _⟩
end Go.Proofs.Ytgdfjcmjhagmoaa

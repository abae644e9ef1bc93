/- LexStands: each sign's, number's and name's text stands where it says; between words there are blanks and remarks alone. No condition. -/
import Derived.Test.YtgdfjcmjhagmoaaRows
import Derived.Test.YtgdfjcmjhagmoaaLxy
import Derived.Laws.DeepStrings4
namespace Go.Proofs.Ytgdfjcmjhagmoaa.LexStands
open Go.ChangeShapes Go.WideShapes Go.ChangeAt Go.RowKit Go.Deep
theorem stand_len (l : List UInt8) : ∀ (ws : List Wd) (k : Nat), k ≤ l.length → Stand l ws k → k + ws.length ≤ l.length
  | [], k, hk, _ => by simpa using hk
  | x :: r, k, hk, h => by
    obtain ⟨m, y, e, _, h2⟩ := h
    have hp := fst_pos _ _ e
    have hle := blk_le false (l.drop k)
    rw [List.length_drop] at hp hle
    have := stand_len l r _ (by omega) h2
    simp only [List.length_cons]
    omega
theorem stand_at (l : List UInt8) (ws : List Wd) (j k : Nat) (hj : j < ws.length) (h : Stand l (ws.drop j) k) : ∃ m y, fstW (l.drop (k + blk false (l.drop k))) = some (y, m) ∧ ws.getD j default = { y with at_ := ((k + blk false (l.drop k) : Nat) : Int) } ∧ Stand l (ws.drop (j + 1)) (k + blk false (l.drop k) + m) := by
  rw [List.drop_eq_getElem_cons hj] at h
  obtain ⟨m, y, e, h1, h2⟩ := h
  exact ⟨m, y, e, by simp [List.getD, hj, h1], h2⟩
set_option maxRecDepth 100000 in
set_option maxHeartbeats 4000000 in
theorem walk_bad (s : ByteArray) (w : World) (hs : s.size ≤ 9223372036854775807) (n : Int) (k : Int) (hn : (n == 0) = false)
    (h : Calls Try.prog 8/-f-/ #[.string s] w fun e w' => e = .returned (.tuple #[.slice none 0 0, .int .i64 k, .int .i64 n]) ∧ Below w.heap.size w w') :
    Calls Try.prog 5/-f-/ #[.string s] w fun e w' => e = .returned (.bool true) ∧ Below w.heap.size w w' := by
  have WD := Lib.hid h
  have AW := Lib.hid awake_any
  have hn2 : (n != 0) = true := by rw [bne, hn]; rfl
  clear h
  go_enter Try.func5, Try.ntmps5
  go_wp2_with (first
    | (go_at_call 8/-f-/; (with_reducible refine WD.out.mono ?_); rintro e w2 ⟨rfl, hb2⟩; have HB2 := Lib.hid hb2; clear hb2)
    | (go_at_call 9/-f-/; (with_reducible refine (AW.out _).mono ?_); rintro e w9 ⟨rfl, hb9⟩; have HB9 := Lib.hid (HB2.out.trans (hb9.mono HB2.out.size)); clear hb9))
  go_ret
  exact ⟨rfl, HB9.out⟩
set_option maxRecDepth 100000 in
set_option maxHeartbeats 8000000 in
theorem walk_ok (s : ByteArray) (w : World) (hs : s.size ≤ 8000) (ws : List Wd) (hws : wordsF (s.size + 1) s.data.toList 0 = .ok ws) :
    Calls Try.prog 5/-f-/ #[.string s] w fun e w' => e = .returned (.bool true) ∧ Below w.heap.size w w' := by
  have hst0 := words_stand s.data.toList (s.size + 1) 0 ws (Nat.zero_le _) (by simp) hws
  have hwl := stand_len _ _ _ (Nat.zero_le _) hst0
  rw [show s.data.toList.length = s.size from by simp, Nat.zero_add] at hwl
  have HST := Lib.hid hst0
  have W' := words_any s w (by omega) (by omega)
  rw [hws] at W'
  have WD := Lib.hid (W'.mono (R' := fun e w' => (∃ A c, e = .returned (.tuple #[.slice A ws.length c, .int .i64 0, .int .i64 0]) ∧ Wds w' A ws) ∧ Below w.heap.size w w') (by
    rintro e w' ⟨⟨v, rfl, h⟩, hb⟩
    obtain ⟨A, c, rfl⟩ := own_slice h
    exact ⟨⟨A, c, rfl, own_wds h⟩, hb⟩))
  have AW := Lib.hid awake_any
  clear W' hst0 hws
  go_enter Try.func5, Try.ntmps5
  go_wp2_with (go_at_call 8/-f-/; (with_reducible refine WD.out.mono ?_); rintro e w2 ⟨⟨A, c, rfl, hw2⟩, hb2⟩; have HB2 := Lib.hid hb2; have HW2 := Lib.hid hw2; clear hb2 hw2)
  go_loopw [6, 7, 8] (fun a b i wr => ∃ k j : Nat, j ≤ ws.length ∧ k ≤ s.size ∧ a = .int .i64 k ∧ b = .bool false ∧ i = .int .i64 j ∧ Hid (Below w.heap.size w wr) ∧ Hid (Wds wr A ws) ∧ Hid (Stand s.data.toList (ws.drop j) k)) (fun _ _ i _ => ws.length + 1 - (intOf i).toNat)
  case atStart => exact ⟨0, 0, Nat.zero_le _, Nat.zero_le _, rfl, rfl, rfl, HB2, HW2, Lib.hid (by rw [List.drop_zero]; exact HST.out)⟩
  case round =>
    obtain ⟨k, j, hj, hk, rfl, rfl, rfl, hbl, hwd, hstand⟩ := hrel
    obtain ⟨wx, rfl⟩ : ∃ x, x = wr := ⟨wr, rfl⟩
    have hble := blk_le false (s.data.toList.drop k)
    rw [List.length_drop, show s.data.toList.length = s.size from by simp] at hble
    obtain ⟨e, he⟩ : ∃ e, e = k + blk false (s.data.toList.drop k) := ⟨_, rfl⟩
    have HE := Lib.hid he
    have hke : k ≤ e := by omega
    have hes : e ≤ s.size := by omega
    clear he hble
    by_cases hjn : j < ws.length
    · obtain ⟨m, y, hf, hx, hnext⟩ := stand_at _ _ _ _ hjn hstand.out
      rw [← HE.out] at hf hx hnext
      have HNEXT := Lib.hid hnext
      have HF := Lib.hid hf
      obtain ⟨b, off, rfl, hb, x0, x1, x2, x3⟩ := wds_cell hwd.out hjn
      obtain ⟨ykd, ytx, yn, ya⟩ := y
      rw [hx] at x0 x1 x2 x3
      simp only at x0 x1 x2 x3
      clear hx hf hnext hstand
      have hps := fst_pos _ _ HF.out
      rw [List.length_drop, show s.data.toList.length = s.size from by simp] at hps
      have hes2 : e < s.size := by omega
      have HM := Lib.hid (show e + m ≤ s.size from by omega)
      have HSZ := Lib.hid (fst_size _ _ _ HF.out)
      clear hps
      go_wp2
      go_loop [6, 7] (fun a b => ∃ (p : Nat) (q : Bool), p ≤ e ∧ a = .int .i64 p ∧ b = .bool q ∧ Hid (p + blk q (s.data.toList.drop p) = e)) (fun a _ => s.size - (intOf a).toNat)
      case atStart => exact ⟨k, false, hke, rfl, rfl, Lib.hid HE.out.symm⟩
      case round =>
        obtain ⟨p, q, hp, rfl, rfl, hq⟩ := hrel
        by_cases hpe : p < e
        · have hlt : p < s.size := by omega
          have hst := scan_step s.data.toList p q e hq.out hpe s[p] (drop_at s p hlt)
          obtain ⟨c, hc⟩ : ∃ c, c = s[p] := ⟨_, rfl⟩
          have e10 : ((s[p].toNat : Int) == 10) = (c == 10) := by rw [hc]; exact byte_eq _ 10 (by decide)
          have e47 : ((s[p].toNat : Int) == 47) = (c == 47) := by rw [hc]; exact byte_eq _ 47 (by decide)
          have e32 : ((s[p].toNat : Int) == 32) = (c == 32) := by rw [hc]; exact byte_eq _ 32 (by decide)
          have e9 : ((s[p].toNat : Int) == 9) = (c == 9) := by rw [hc]; exact byte_eq _ 9 (by decide)
          have m10 : ((s[p].toNat : Int) != 10) = !(c == 10) := by rw [bne, e10]
          have m32 : ((s[p].toNat : Int) != 32) = !(c == 32) := by rw [bne, e32]
          have m9 : ((s[p].toNat : Int) != 9) = !(c == 9) := by rw [bne, e9]
          rw [← hc] at hst
          have HS := Lib.hid hst
          clear hst hc hq
          by_cases h10 : c = 10
          · subst h10
            rw [show ((10 : UInt8) == 10) = true from rfl] at e10 m10
            rw [show ((10 : UInt8) == 47) = false from rfl] at e47
            rw [show ((10 : UInt8) == 32) = false from rfl] at e32 m32
            rw [show ((10 : UInt8) == 9) = false from rfl] at e9 m9
            rw [Bool.not_true] at m10
            rw [Bool.not_false] at m32 m9
            go_wp2
            go_round
            case rel => exact ⟨p + 1, false, by omega, by go_num, rfl, Lib.hid HS.out.1⟩
            case measure => simp [intOf]; omega
          have b10 : (c == 10) = false := beq_eq_false_iff_ne.2 h10
          rw [b10] at e10 m10
          rw [Bool.not_false] at m10
          have n10 : (c != 10) = true := by rw [bne, b10]; rfl
          cases q with
          | true =>
            have HR := Lib.hid (show p + 1 + blk true (s.data.toList.drop (p + 1)) = e from by have h := HS.out.1; rwa [n10, Bool.true_or, Bool.and_true] at h)
            clear HS h10 b10 n10
            go_wp2
            go_round
            case rel => exact ⟨p + 1, true, by omega, by go_num, rfl, HR⟩
            case measure => simp [intOf]; omega
          | false =>
          by_cases h47 : c = 47
          · subst h47
            rw [show ((47 : UInt8) == 47) = true from rfl] at e47
            have HR := Lib.hid (show p + 1 + blk true (s.data.toList.drop (p + 1)) = e from HS.out.1)
            clear HS h10 b10 n10
            go_wp2
            go_round
            case rel => exact ⟨p + 1, true, by omega, by go_num, rfl, HR⟩
            case measure => simp [intOf]; omega
          have b47 : (c == 47) = false := beq_eq_false_iff_ne.2 h47
          rw [b47] at e47
          have HR := Lib.hid (show p + 1 + blk false (s.data.toList.drop (p + 1)) = e from by have h := HS.out.1; rwa [n10, b47] at h)
          have hor : c = 32 ∨ c = 9 := by
            have h := HS.out.2
            rw [n10, b47] at h
            rcases h with h | h | h | h
            · cases h
            · exact .inl h
            · exact .inr h
            · exact absurd h h10
          clear HS h10 b10 n10 h47 b47
          rcases hor with rfl | rfl
          · rw [show ((32 : UInt8) == 32) = true from rfl] at e32 m32
            rw [Bool.not_true] at m32
            go_wp2
            go_round
            case rel => exact ⟨p + 1, false, by omega, by go_num, rfl, HR⟩
            case measure => simp [intOf]; omega
          · rw [show ((9 : UInt8) == 9) = true from rfl] at e9 m9
            rw [show ((9 : UInt8) == 32) = false from rfl] at e32 m32
            rw [Bool.not_true] at m9
            rw [Bool.not_false] at m32
            go_wp2
            go_round
            case rel => exact ⟨p + 1, false, by omega, by go_num, rfl, HR⟩
            case measure => simp [intOf]; omega
        · have hpe2 : p = e := by omega
          subst hpe2
          have hq0 := scan_end s.data.toList q p hq.out (by simpa using hes2)
          subst hq0
          have hm := HM.out
          by_cases h2 : ykd = 2
          · subst h2
            have HC := Lib.hid (HSZ.out.1 rfl)
            have hcl := List.count_le_length (a := (39 : UInt8)) (l := ytx.data.toList)
            rw [show ytx.data.toList.length = ytx.size from by simp] at hcl
            have hm2 := HC.out
            go_wp2
            go_loop [11, 12] (fun a b => ∃ t : Nat, t ≤ ytx.size ∧ a = .int .i64 ((ytx.size + 2 + (ytx.data.toList.take t).count 39 : Nat) : Int) ∧ b = .int .i64 t) (fun _ b => ytx.size - (intOf b).toNat)
            case atStart => exact ⟨0, Nat.zero_le _, by simp, rfl⟩
            case round =>
              obtain ⟨t, ht, rfl, rfl⟩ := hrel
              have hct := (List.take_sublist t ytx.data.toList).count_le (39 : UInt8)
              by_cases htl : t < ytx.size
              · have e39 : ((ytx[t].toNat : Int) == 39) = (ytx[t] == 39) := byte_eq _ 39 (by decide)
                have HT := Lib.hid (show (ytx.data.toList.take (t + 1)).count 39 = (ytx.data.toList.take t).count 39 + (if ytx[t] == 39 then 1 else 0) from by
                  rw [List.take_add_one, List.count_append, List.getElem?_eq_getElem (by simpa using htl)]
                  simp [List.count_cons]; rfl)
                obtain ⟨b39, hb39⟩ : ∃ b, b = (ytx[t] == 39) := ⟨_, rfl⟩
                rw [← hb39] at e39
                have HTT := Lib.hid (show (ytx.data.toList.take (t + 1)).count 39 = (ytx.data.toList.take t).count 39 + (if b39 then 1 else 0) from by rw [hb39]; exact HT.out)
                clear hb39 HT
                generalize hn0 : (ytx.data.toList.take t).count 39 = n0 at *
                clear hn0
                cases b39 with
                | true =>
                  go_wp2
                  go_round
                  case rel => exact ⟨t + 1, htl, by rw [HTT.out]; first | go_num | (congr 1; simp; omega), by go_num⟩
                  case measure => simp [intOf]; omega
                | false =>
                  go_wp2
                  go_round
                  case rel => exact ⟨t + 1, htl, by rw [HTT.out]; first | go_num | (congr 1; simp; omega), by go_num⟩
                  case measure => simp [intOf]; omega
              · have htl2 : t = ytx.size := by omega
                subst htl2
                go_wp2
                go_roundw
                case rel => exact ⟨p + m, j + 1, hjn, hm, (by rw [List.take_of_length_le (show ytx.data.toList.length ≤ ytx.size from by simp)]; congr 1; omega), rfl, by go_num, hbl, hwd, HNEXT⟩
                case measure => simp [intOf]; omega
          · have b2 : (ykd == 2) = false := beq_eq_false_iff_ne.2 h2
            have htx := HSZ.out.2 h2
            have hsz2 : m = ytx.size := by
              have h3 : ytx.size = (List.take m (List.drop p s.data.toList)).length := by
                conv => lhs; rw [htx]
                exact arr_size _
              rw [List.length_take, List.length_drop, show s.data.toList.length = s.size from by simp] at h3
              omega
            subst hsz2
            have hex : (s.extract p (p + ytx.size)).toList = ytx.toList := by
              conv => rhs; rw [htx]
              rw [ByteArray.toList_eq, ByteArray.toList_eq]
              simp
            have x5 : ((s.extract p (p + ytx.size)).toList == ytx.toList) = true := beq_iff_eq.2 hex
            have x6 : ((s.extract p (p + ytx.size)).toList != ytx.toList) = false := by rw [bne, x5]; rfl
            have w1 : IntKind.i64.wrap ((p : Int) + (ytx.size : Int)) = (p : Int) + (ytx.size : Int) := IntWalk.i64_in _ (by omega)
            have w2' : ((p : Int) + (ytx.size : Int)).toNat = p + ytx.size := by omega
            have w3 : (0 : Int) ≤ (p : Int) := by omega
            have w4' : (p : Int) ≤ (p : Int) + (ytx.size : Int) := by omega
            have w5 : (p : Int) + (ytx.size : Int) ≤ (s.size : Int) := by omega
            have w6 : decide ((s.size : Int) < (p : Int) + (ytx.size : Int)) = false := decide_eq_false (by omega)
            have w7 : (0 : Int) ≤ (p : Int) + (ytx.size : Int) := by omega
            clear htx hex HSZ HF HM h2
            go_upto_region 30 with fail
            go_quiet (fail)
            go_wp2
            go_roundw
            case rel => exact ⟨p + ytx.size, j + 1, hjn, hm, by go_num, rfl, by go_num, Lib.hid (below_drewN hbl.out _), Lib.hid (hwd.out.drewN _), HNEXT⟩
            case measure => simp [intOf]; omega
    · have hjl : j = ws.length := by omega
      subst hjl
      have hee : e = s.size := by
        have h := hstand.out
        rw [List.drop_length] at h
        have h2 : k + blk false (s.data.toList.drop k) = s.data.toList.length := h
        rw [show s.data.toList.length = s.size from by simp] at h2
        rw [HE.out]; exact h2
      subst hee
      have HQ0 := Lib.hid HE.out.symm
      go_wp2
      go_loop [6, 7] (fun a b => ∃ (p : Nat) (q : Bool), p ≤ s.size ∧ a = .int .i64 p ∧ b = .bool q ∧ Hid (p + blk q (s.data.toList.drop p) = s.size)) (fun a _ => s.size - (intOf a).toNat)
      case atStart => exact ⟨k, false, hke, rfl, rfl, Lib.hid HE.out.symm⟩
      case round =>
        obtain ⟨p, q, hp, rfl, rfl, hq⟩ := hrel
        by_cases hpe : p < s.size
        · have hlt : p < s.size := by omega
          have hst := scan_step s.data.toList p q s.size hq.out hpe s[p] (drop_at s p hlt)
          obtain ⟨c, hc⟩ : ∃ c, c = s[p] := ⟨_, rfl⟩
          have e10 : ((s[p].toNat : Int) == 10) = (c == 10) := by rw [hc]; exact byte_eq _ 10 (by decide)
          have e47 : ((s[p].toNat : Int) == 47) = (c == 47) := by rw [hc]; exact byte_eq _ 47 (by decide)
          have e32 : ((s[p].toNat : Int) == 32) = (c == 32) := by rw [hc]; exact byte_eq _ 32 (by decide)
          have e9 : ((s[p].toNat : Int) == 9) = (c == 9) := by rw [hc]; exact byte_eq _ 9 (by decide)
          have m10 : ((s[p].toNat : Int) != 10) = !(c == 10) := by rw [bne, e10]
          have m32 : ((s[p].toNat : Int) != 32) = !(c == 32) := by rw [bne, e32]
          have m9 : ((s[p].toNat : Int) != 9) = !(c == 9) := by rw [bne, e9]
          rw [← hc] at hst
          have HS := Lib.hid hst
          clear hst hc hq
          by_cases h10 : c = 10
          · subst h10
            rw [show ((10 : UInt8) == 10) = true from rfl] at e10 m10
            rw [show ((10 : UInt8) == 47) = false from rfl] at e47
            rw [show ((10 : UInt8) == 32) = false from rfl] at e32 m32
            rw [show ((10 : UInt8) == 9) = false from rfl] at e9 m9
            rw [Bool.not_true] at m10
            rw [Bool.not_false] at m32 m9
            go_wp2
            go_round
            case rel => exact ⟨p + 1, false, by omega, by go_num, rfl, Lib.hid HS.out.1⟩
            case measure => simp [intOf]; omega
          have b10 : (c == 10) = false := beq_eq_false_iff_ne.2 h10
          rw [b10] at e10 m10
          rw [Bool.not_false] at m10
          have n10 : (c != 10) = true := by rw [bne, b10]; rfl
          cases q with
          | true =>
            have HR := Lib.hid (show p + 1 + blk true (s.data.toList.drop (p + 1)) = s.size from by have h := HS.out.1; rwa [n10, Bool.true_or, Bool.and_true] at h)
            clear HS h10 b10 n10
            go_wp2
            go_round
            case rel => exact ⟨p + 1, true, by omega, by go_num, rfl, HR⟩
            case measure => simp [intOf]; omega
          | false =>
          by_cases h47 : c = 47
          · subst h47
            rw [show ((47 : UInt8) == 47) = true from rfl] at e47
            have HR := Lib.hid (show p + 1 + blk true (s.data.toList.drop (p + 1)) = s.size from HS.out.1)
            clear HS h10 b10 n10
            go_wp2
            go_round
            case rel => exact ⟨p + 1, true, by omega, by go_num, rfl, HR⟩
            case measure => simp [intOf]; omega
          have b47 : (c == 47) = false := beq_eq_false_iff_ne.2 h47
          rw [b47] at e47
          have HR := Lib.hid (show p + 1 + blk false (s.data.toList.drop (p + 1)) = s.size from by have h := HS.out.1; rwa [n10, b47] at h)
          have hor : c = 32 ∨ c = 9 := by
            have h := HS.out.2
            rw [n10, b47] at h
            rcases h with h | h | h | h
            · cases h
            · exact .inl h
            · exact .inr h
            · exact absurd h h10
          clear HS h10 b10 n10 h47 b47
          rcases hor with rfl | rfl
          · rw [show ((32 : UInt8) == 32) = true from rfl] at e32 m32
            rw [Bool.not_true] at m32
            go_wp2
            go_round
            case rel => exact ⟨p + 1, false, by omega, by go_num, rfl, HR⟩
            case measure => simp [intOf]; omega
          · rw [show ((9 : UInt8) == 9) = true from rfl] at e9 m9
            rw [show ((9 : UInt8) == 32) = false from rfl] at e32 m32
            rw [Bool.not_true] at m9
            rw [Bool.not_false] at m32
            go_wp2
            go_round
            case rel => exact ⟨p + 1, false, by omega, by go_num, rfl, HR⟩
            case measure => simp [intOf]; omega
        · have hpe2 : p = s.size := by omega
          subst hpe2
          cases q with
          | true =>
            go_wp2_with (go_at_call 9/-f-/; (with_reducible refine (AW.out _).mono ?_); rintro e w9 ⟨rfl, hb9⟩; have HB9 := Lib.hid (hbl.out.trans (hb9.mono hbl.out.size)); clear hb9)
            go_ret
            exact ⟨rfl, HB9.out⟩
          | false =>
            go_wp2_with (go_at_call 9/-f-/; (with_reducible refine (AW.out _).mono ?_); rintro e w9 ⟨rfl, hb9⟩; have HB9 := Lib.hid (hbl.out.trans (hb9.mono hbl.out.size)); clear hb9)
            go_ret
            exact ⟨rfl, HB9.out⟩
theorem walk (s : ByteArray) (w : World) (hs : s.size ≤ 9223372036854775807) :
    Calls Try.prog 5/-f-/ #[.string s] w fun e w' => e = .returned (.bool true) ∧ Below w.heap.size w w' := by
  by_cases hl : 8000 < s.size
  · exact walk_bad s w hs 5 0 rfl ((words_big s w hs hl).mono (by rintro e w' ⟨rfl, rfl⟩; exact ⟨rfl, Below.refl _ _⟩))
  · have W := words_any s w (by omega) hl
    cases h : wordsF (s.size + 1) s.data.toList 0 with
    | error p => rw [h] at W; exact walk_bad s w hs 12 p rfl W
    | ok ws => exact walk_ok s w (by omega) ws h
theorem own : ownKnob Try.prog.godebug = none := by kernel_rfl
theorem laidOut : laidOutB Try.prog = true := by kernel_rfl
set_option maxRecDepth 100000 in
theorem lifted (os : Os) (started : os.Started) (H : Type) (enc : TypeId × Value → H) :
    ReturnsInHanded {} Try.checked os 5 .any (Rows.lexStandsSpec.pre6 enc Try.prog Try.f5 Rows.lexStandsRow.domain false) (Rows.lexStandsSpec.post enc Try.prog Try.f5 false true false false) := by
  refine returnsInHanded_of_change (C := Try.checked) own started (by kernel_rfl) Try.func5
    (ChangeSpec.witness6 (enc := enc) (C := Try.checked) false ⟨#[], #[.string ⟨#[]⟩], []⟩ 8 (by kernel_rfl) (by kernel_rfl) (by kernel_rfl) (by kernel_rfl)) ?_
  intro W base args ds gs before hval0 hW hcnd _
  have hval : ∀ (j : Nat) t v, Try.f5.params[j]? = some t → args[j]? = some v → Value.okWide Try.prog W .any base t v := hval0
  have hW' := hW
  obtain ⟨p, q, hA0, hV, rfl, hfz, hnd⟩ := hW
  have hA : DataW.TrodAll enc Try.prog W 0 (fun _ => true) true Try.f5.params.toList args.toList ds p := hA0
  rw [Try.params5] at hA hval
  obtain ⟨v0, vs0, d0, ds0, p0, q0, hargs, rfl, rfl, h0, r0⟩ := trodAll_cons hA
  obtain ⟨rfl, rfl, rfl⟩ := trodAll_nil r0
  obtain rfl : args = #[v0] := by cases args; simp_all
  obtain ⟨rfl, rfl⟩ := trodVars_none hV
  obtain ⟨s0, rfl, rfl, rfl, z0⟩ := Go.ChangeMaps.open_string Try.underlying9 (hval 0 9 v0 rfl rfl) h0
  clear hA0 hval0
  refine (walk s0 W (by have := z0; unfold maxLen at this; omega)).mono fun e W' ⟨he, bel⟩ => ?_
  subst he
  exact ⟨_, rfl, _, _, _, [], _, [], hW', trodAll_mk1 (shut_bool Try.underlying4 _), (trodAll_cons_mk (Go.ChangeMaps.shut_string Try.underlying9 z0) trodAll_mk0), rfl, bel.frame _, fun h => by cases h⟩

theorem over : Rows.lexStandsRow.holds Try.pinned (OpenSpec.ofChange Rows.lexStandsSpec) :=
  OpenClaim.holds_of_wide 5 Try.f5 rfl rfl rfl rfl rfl rfl rfl ⟨rfl, rfl, rfl, rfl, rfl⟩ rfl rfl rfl rfl rfl (by kernel_rfl) Try.func5 (by kernel_rfl)
    (of_decide_eq_true (by kernel_rfl)) (by unfold Func.isWrapper; first | (rw [if_pos (by decide +kernel)]; kernel_rfl) | (rw [if_neg (by decide +kernel)]; exact ⟨rfl, rfl⟩))
    (fun os started H enc _ => lifted os started H enc)

theorem proved : Rows.LexStandsSaid := over

end Go.Proofs.Ytgdfjcmjhagmoaa.LexStands

/- The document's words: contract. -/
import Derived.Test.YtgdfjcmjhagmoaaLyc
namespace Go.Proofs.Ytgdfjcmjhagmoaa
open Go.ChangeShapes Go.WideShapes Go.ChangeAt Go.RowKit
theorem Src.fourN (W : World) (N : Nat) (e : W.heap.size = N) (x : Wd) (t : TypeId) : Src (W.alloc (.cells #[.int .i64 x.kd, .string x.tx, .int .i64 x.n, .int .i64 x.at_] t)) (some ⟨N, 0, none⟩) 1 4 (wcs x) := by
  subst e; exact Src.four W x t
set_option maxRecDepth 100000 in
set_option maxHeartbeats 16000000 in
theorem refwords_any (s : ByteArray) (w : World) (hs : s.size ≤ 8000) :
    Calls Try.prog 10/-f-/ #[.string s] w fun e w' => RWordsR w' e (wordsF (s.size + 1) s.data.toList 0) ∧ Below w.heap.size w w' := by
  obtain ⟨R, hR⟩ : ∃ R, R = wordsF (s.size + 1) (s.data.toList.drop 0) 0 := ⟨_, rfl⟩
  rw [List.drop_zero] at hR
  rw [← hR]
  have HR := Lib.hid (show R = wordsF (s.size + 1) (s.data.toList.drop 0) 0 from by rw [List.drop_zero]; exact hR)
  clear hR
  have HSL := Lib.hid (show s.data.toList.length = s.size by simp)
  obtain ⟨i0, hi, hz0, hz1, hz2⟩ := info_parts info36
  obtain ⟨j0, ji, jz0, jz1, jz2⟩ := info_parts info5
  go_enter Try.func10, Try.ntmps10
  go_wp2
  go_loopw [4, 5] (fun v a wr => ∃ (p f : Nat) (acc : List Wd), p ≤ s.size ∧ s.size - p < f ∧ acc.length ≤ p ∧ a = .int .i64 p ∧ Hid (Below w.heap.size w wr) ∧ Hid (wr.ownsRow w.heap.size 36 4 v acc.length (wcells acc)) ∧ Hid (R = (wordsF f (s.data.toList.drop p) p).map (acc ++ ·))) (fun _ a _ => s.size - (intOf a).toNat)
  case atStart => exact ⟨0, s.size + 1, [], Nat.zero_le _, by omega, Nat.le_refl _, rfl, Lib.hid (Below.refl _ _), Lib.hid (World.ownsRow_nil _ _ _ _), Lib.hid (by rw [HR.out]; cases wordsF (s.size + 1) (s.data.toList.drop 0) 0 <;> rfl)⟩
  case round =>
    obtain ⟨p, f, acc, hp, hf, hacc, rfl, hbl, hown, heq⟩ := hrel
    obtain ⟨wx, rfl⟩ : ∃ x, x = wr := ⟨wr, rfl⟩
    obtain ⟨A0, k0, rfl⟩ := own_slice hown.out
    have hsz := hbl.out.size
    cases f with
    | zero => omega
    | succ f =>
    by_cases hlt : p < s.size
    · have HD := Lib.hid (drop_at s p hlt)
      obtain ⟨c, hc⟩ : ∃ c, c = s[p] := ⟨_, rfl⟩
      rw [← hc] at HD
      have HC := Lib.hid hc
      have e32 : ((s[p].toNat : Int) == 32) = (c == 32) := by rw [hc]; exact byte_eq _ 32 (by decide)
      have e9 : ((s[p].toNat : Int) == 9) = (c == 9) := by rw [hc]; exact byte_eq _ 9 (by decide)
      have e10 : ((s[p].toNat : Int) == 10) = (c == 10) := by rw [hc]; exact byte_eq _ 10 (by decide)
      have e47 : ((s[p].toNat : Int) == 47) = (c == 47) := by rw [hc]; exact byte_eq _ 47 (by decide)
      have e39 : ((s[p].toNat : Int) == 39) = (c == 39) := by rw [hc]; exact byte_eq _ 39 (by decide)
      clear hc
      by_cases hb : isBl c = true
      · as_aux_lemma =>
          have HX := Lib.hid (show R = (wordsF (f + 1) (s.data.toList.drop (p + 1)) (p + 1)).map (acc ++ ·) from by
            rw [heq.out, words_move f _ p (p + 1) (by
              rw [HD.out, blk_false, if_pos hb]; omega)])
          have h3 : c = 32 ∨ c = 9 ∨ c = 10 := by
            unfold isBl at hb
            simp at hb
            rcases hb with (h | h) | h
            · exact .inl h
            · exact .inr (.inl h)
            · exact .inr (.inr h)
          clear hb e47 e39 heq
          rcases h3 with rfl | rfl | rfl
          · rw [show ((32 : UInt8) == 32) = true from rfl] at e32
            go_wp2
            go_roundw
            case rel => exact ⟨p + 1, f + 1, acc, hlt, by omega, by omega, by go_num, hbl, hown, HX⟩
            case measure => simp [intOf]; omega
          · rw [show ((9 : UInt8) == 32) = false from rfl] at e32
            rw [show ((9 : UInt8) == 9) = true from rfl] at e9
            go_wp2
            go_roundw
            case rel => exact ⟨p + 1, f + 1, acc, hlt, by omega, by omega, by go_num, hbl, hown, HX⟩
            case measure => simp [intOf]; omega
          · rw [show ((10 : UInt8) == 32) = false from rfl] at e32
            rw [show ((10 : UInt8) == 9) = false from rfl] at e9
            rw [show ((10 : UInt8) == 10) = true from rfl] at e10
            go_wp2
            go_roundw
            case rel => exact ⟨p + 1, f + 1, acc, hlt, by omega, by omega, by go_num, hbl, hown, HX⟩
            case measure => simp [intOf]; omega
      have hb3 : c ≠ 32 ∧ c ≠ 9 ∧ c ≠ 10 := by
        refine ⟨?_, ?_, ?_⟩ <;> (rintro rfl; exact absurd hb (by decide))
      rw [beq_eq_false_iff_ne.2 hb3.1] at e32
      rw [beq_eq_false_iff_ne.2 hb3.2.1] at e9
      rw [beq_eq_false_iff_ne.2 hb3.2.2] at e10
      by_cases hr : rem (s.data.toList.drop p) = true
      · -- a remark
        as_aux_lemma =>
          have hr2 := hr
          rw [HD.out, rem_cons] at hr2
          have hc47 : c = 47 := by simp at hr2; exact hr2.1
          have hp1 : p + 1 < s.size := by
            rcases Nat.lt_or_ge (p + 1) s.size with h | h
            · exact h
            · rw [List.drop_eq_nil_of_le (by rw [HSL.out]; exact h)] at hr2; simp at hr2
          have h47 : s[p + 1] = 47 := by
            rw [drop_at s (p + 1) hp1] at hr2; simp at hr2; exact hr2.2
          have e47' : ((s[p + 1].toNat : Int) == 47) = true := by rw [h47]; rfl
          have hi1 : (p : Int) + 1 < (s.size : Int) := by omega
          have HS0 := Lib.hid (show p + blk false (s.data.toList.drop p) = p + blk true (s.data.toList.drop p) from by
            rw [HD.out] at hr ⊢
            rw [blk_false, if_neg hb, if_pos hr])
          have hcx : (c == 47) = true := by rw [hc47]; rfl
          rw [hcx] at e47
          have HP10 := Lib.hid (show (s[p].toNat : Int) ≠ 10 from by
            have := beq_eq_false_iff_ne.1 e10; exact this)
          clear hr hr2 h47 hcx hc47 hb3 hb e39
          go_wp2
          go_loop [5] (fun a => ∃ q, p ≤ q ∧ q ≤ s.size ∧ a = .int .i64 q ∧ Hid (p + blk false (s.data.toList.drop p) = q + blk true (s.data.toList.drop q))) (fun a => s.size - (intOf a).toNat)
          case atStart => exact ⟨p, Nat.le_refl _, hp, rfl, HS0⟩
          case round =>
            obtain ⟨q, hpq, hq, rfl, hbq⟩ := hrel
            by_cases hqs : q < s.size
            · obtain ⟨d, hd⟩ : ∃ d, d = s[q] := ⟨_, rfl⟩
              have HPD := Lib.hid (fun (h : q = p) => (show (d.toNat : Int) ≠ 10 from by subst h; rw [hd]; exact HP10.out))
              have m10 : ((s[q].toNat : Int) == 10) = (d == 10) := by rw [hd]; exact byte_eq _ 10 (by decide)
              have n10 : ((s[q].toNat : Int) != 10) = !(d == 10) := by rw [bne, m10]
              have hdq := drop_at s q hqs
              rw [← hd] at hdq
              have HDQ := Lib.hid hdq
              clear hd hdq
              by_cases h10 : d = 10
              · subst h10
                have HY := Lib.hid (show R = (wordsF (f + 1) (s.data.toList.drop q) q).map (acc ++ ·) from by
                  rw [heq.out, words_move f _ p q (by
                    rw [hbq.out, HDQ.out, blk_true, if_pos (by rfl)])])
                have hne : p < q := by
                  rcases Nat.lt_or_ge p q with h | h
                  · exact h
                  · exact absurd rfl (HPD.out (by omega))
                rw [show (!((10 : UInt8) == 10)) = false from rfl] at n10
                clear m10
                go_wp2
                go_roundw
                case rel => exact ⟨q, f + 1, acc, hq, by omega, by omega, rfl, hbl, hown, HY⟩
                case measure => simp [intOf]; omega
              · have h10b : (d == 10) = false := beq_eq_false_iff_ne.2 h10
                have HY := Lib.hid (show p + blk false (s.data.toList.drop p) = q + 1 + blk true (s.data.toList.drop (q + 1)) from by
                  rw [hbq.out, HDQ.out, blk_true, if_neg (by simpa using h10)]; omega)
                rw [h10b] at n10 m10
                rw [Bool.not_false] at n10
                clear h10 h10b
                go_wp2
                go_round
                case rel => exact ⟨q + 1, by omega, hqs, by go_num, HY⟩
                case measure => simp [intOf]; omega
            · have hqe : q = s.size := by omega
              subst hqe
              have HY := Lib.hid (show R = (wordsF (f + 1) (s.data.toList.drop s.size) s.size).map (acc ++ ·) from by
                rw [heq.out, words_move f _ p s.size (by rw [hbq.out, drop_end]; rfl)])
              go_wp2
              go_roundw
              case rel => exact ⟨s.size, f + 1, acc, Nat.le_refl _, by omega, by omega, rfl, hbl, hown, HY⟩
              case measure => simp [intOf]; omega
      have H0 := Lib.hid (show blk false (s.data.toList.drop p) = 0 from by
        rw [HD.out] at hr ⊢
        rw [blk_false, if_neg hb, if_neg hr])
      have NO := Lib.hid (fun (h : fstW (s.data.toList.drop p) = none) => (show R = .error p from by
        rw [heq.out, words_word _ _ _ H0.out (by rw [HSL.out]; exact hlt), h]; rfl))
      have YES := Lib.hid (fun kd tx n a m (h : fstW (s.data.toList.drop p) = some (⟨kd, tx, n, a⟩, m)) => (show R = (wordsF f (s.data.toList.drop (p + m)) (p + m)).map ((acc ++ [⟨kd, tx, n, (p : Int)⟩]) ++ ·) from by
        rw [heq.out, words_word _ _ _ H0.out (by rw [HSL.out]; exact hlt), h]
        show ((wordsF f (s.data.toList.drop (p + m)) (p + m)).map (⟨kd, tx, n, (p : Int)⟩ :: ·)).map (acc ++ ·) = _
        cases wordsF f (s.data.toList.drop (p + m)) (p + m) with
        | error q => rfl
        | ok l => simp [Except.map]))
      have HREM := Lib.hid hr
      clear hr heq HR
      by_cases h39 : c = 39
      · as_aux_lemma =>
          subst h39
          rw [show ((39 : UInt8) == 47) = false from rfl] at e47
          rw [show ((39 : UInt8) == 39) = true from rfl] at e39
          have HF := Lib.hid (show fstW (s.data.toList.drop p) = (txt (s.data.toList.drop (p + 1))).bind fun x => if 200 < x.1.length then none else some (⟨2, ⟨x.1.toArray⟩, 0, 0⟩, x.2 + 1) from by rw [HD.out, fst_quote]; rfl)
          clear hb hb3
          go_wp2
          go_loopw [7, 8] (fun b i wy => ∃ (k : Nat) (bs : List UInt8), p + 1 ≤ k ∧ k ≤ s.size ∧ bs.length + (p + 1) ≤ k ∧ i = .int .i64 k ∧ Hid (Below wx.heap.size wx wy) ∧ Hid (Row8 wy wx.heap.size b bs) ∧ Hid (txt (s.data.toList.drop (p + 1)) = (txt (s.data.toList.drop k)).map fun x => (bs ++ x.1, x.2 + (k - (p + 1))))) (fun _ i _ => s.size - (intOf i).toNat)
          case atStart => exact ⟨p + 1, [], Nat.le_refl _, hlt, by simp, by go_num, Lib.hid (Below.refl _ _), Lib.hid ⟨World.ownsRow_nil _ _ _ _, fun _ => rfl⟩, Lib.hid (by cases txt (s.data.toList.drop (p + 1)) <;> simp)⟩
          case round =>
            obtain ⟨k, bs, hpk, hk, hbs, rfl, hby, hrow, htx⟩ := hrel
            obtain ⟨wy, rfl⟩ : ∃ x, x = wr := ⟨wr, rfl⟩
            obtain ⟨B0, d0, rfl⟩ := own_slice hrow.out.1
            have hsy := hby.out.size
            have HBY := Lib.hid (hbl.out.trans (hby.out.mono hsz))
            by_cases hks : k < s.size
            · obtain ⟨d, hd⟩ : ∃ d, d = s[k] := ⟨_, rfl⟩
              have m10 : ((s[k].toNat : Int) == 10) = (d == 10) := by rw [hd]; exact byte_eq _ 10 (by decide)
              have n10 : ((s[k].toNat : Int) != 10) = !(d == 10) := by rw [bne, m10]
              have m39 : ((s[k].toNat : Int) == 39) = (d == 39) := by rw [hd]; exact byte_eq _ 39 (by decide)
              have n39 : ((s[k].toNat : Int) != 39) = !(d == 39) := by rw [bne, m39]
              have hdk := drop_at s k hks
              rw [← hd] at hdk
              have HDK := Lib.hid hdk
              have HDD := Lib.hid hd
              clear hd hdk
              by_cases h10 : d = 10
              · subst h10
                have HX := Lib.hid (NO.out (by rw [HF.out, htx.out, HDK.out, txt_nl]; rfl))
                rw [show ((10 : UInt8) == 10) = true from rfl] at m10 n10
                rw [Bool.not_true] at n10
                clear m39 n39
                go_wp2
                rw [HX.out]
                exact bodyPost_ret (v := .tuple #[.slice none 0 0, .int .i64 p]) (by simp [results, Try.results10, go_sem]) rfl ⟨rfl, HBY.out⟩
              rw [beq_eq_false_iff_ne.2 h10] at m10 n10
              rw [Bool.not_false] at n10
              by_cases h39 : d = 39
              · subst h39
                rw [show ((39 : UInt8) == 39) = true from rfl] at m39 n39
                rw [Bool.not_true] at n39
                by_cases hn : k + 1 < s.size ∧ (s.data.toList.drop (k + 1)).head? = some 39
                · obtain ⟨hn1, hn2⟩ := hn
                  have hd2 := drop_at s (k + 1) hn1
                  have h39 : s[k + 1] = 39 := by rw [hd2] at hn2; simpa using hn2
                  have HY := Lib.hid (show txt (s.data.toList.drop (p + 1)) = (txt (s.data.toList.drop (k + 2))).map fun x => ((bs ++ [39]) ++ x.1, x.2 + (k + 2 - (p + 1))) from by
                    rw [htx.out, HDK.out, hd2, h39, txt_two, Option.map_map]
                    congr 1
                    funext x
                    simp
                    omega)
                  have e5 : ((s[k + 1].toNat : Int) == 39) = true := by rw [h39]; rfl
                  have hki : (k : Int) + 1 < (s.size : Int) := by omega
                  clear hn2 hd2 h39 h10
                  go_wp2_with (at_builtin; refine wpList_append_src _ rfl _ _ 54 rfl wx.heap.size 5 j0 (.int .u8 0) 1 1 Try.underlying54/-t-/ ji jz0 jz1 jz2 rfl (by decide) (.slice B0 bs.length d0) bs.length (cells8 bs) rfl (World.ownsRow.alloc hrow.out.1 _) (some ⟨wy.heap.size, 0, none⟩) 1 1 [.int .u8 (s[k].toNat : Int)] rfl (Src.one wy _ _ rfl) (by unfold maxLen; omega) (by omega) (by simp; omega) ?_; intro v9 w9 hown9 hgrow h9; clear h9; obtain ⟨A9, k9, rfl⟩ := own_slice hown9; have HG := Lib.hid hgrow; have HO9 := Lib.hid hown9; clear hgrow hown9)
                  have HB9 := Lib.hid ((hby.out.alloc hsy (.cells #[.int .u8 (s[k].toNat : Int)] 5)).grown HG.out (by simp; omega) (fun g hg => (hrow.out.1.lt g hg).1))
                  go_roundw
                  case rel => exact ⟨k + 2, bs ++ [39], by omega, hn1, by simp; omega, by go_num, HB9, Lib.hid (by rw [HDD.out]; exact row8_snoc HO9.out), HY⟩
                  case measure => simp [intOf]; omega
                · as_aux_lemma =>
                    have hne : (s.data.toList.drop (k + 1)).head? ≠ some 39 := fun h => by
                      rcases Nat.lt_or_ge (k + 1) s.size with h2 | h2
                      · exact hn ⟨h2, h⟩
                      · rw [List.drop_eq_nil_of_le (by rw [HSL.out]; exact h2)] at h; cases h
                    have HTX := Lib.hid (show fstW (s.data.toList.drop p) = if 200 < bs.length then none else some (⟨2, ⟨bs.toArray⟩, 0, 0⟩, 1 + (k - (p + 1)) + 1) from by
                      rw [HF.out, htx.out, HDK.out, txt_end _ hne]
                      simp)
                    have hnx : (¬ k + 1 < s.size) ∨ (∃ h : k + 1 < s.size, ((s[k + 1].toNat : Int) == 39) = false) := by
                      by_cases hn1 : k + 1 < s.size
                      · right
                        refine ⟨hn1, ?_⟩
                        have : s[k + 1] ≠ 39 := fun e => hn ⟨hn1, by rw [drop_at s (k + 1) hn1, e]; rfl⟩
                        rw [show ((39 : Int)) = ((39 : Nat) : Int) from rfl, byte_eq _ 39 (by decide)]
                        exact beq_eq_false_iff_ne.2 this
                      · exact .inl hn1
                    have HOA := Lib.hid ((Off.of (S := fun _ => False) hby.out).own hown.out (fun _ _ h => h))
                    clear hn hne h10
                    by_cases h200 : 200 < bs.length
                    · have HX := Lib.hid (NO.out (by rw [HTX.out, if_pos h200]))
                      have hl2 : (200 : Int) < (bs.length : Int) := by omega
                      rcases hnx with h1 | ⟨h1, e5⟩
                      · have hki : ¬ (k : Int) + 1 < (s.size : Int) := by omega
                        go_wp2
                        rw [HX.out]
                        exact bodyPost_ret (v := .tuple #[.slice none 0 0, .int .i64 p]) (by simp [results, Try.results10, go_sem]) rfl ⟨rfl, HBY.out⟩
                      · have hki : (k : Int) + 1 < (s.size : Int) := by omega
                        go_wp2
                        rw [HX.out]
                        exact bodyPost_ret (v := .tuple #[.slice none 0 0, .int .i64 p]) (by simp [results, Try.results10, go_sem]) rfl ⟨rfl, HBY.out⟩
                    · have HY := Lib.hid (show R = (wordsF f (s.data.toList.drop (k + 1)) (k + 1)).map ((acc ++ [⟨2, ⟨bs.toArray⟩, 0, (p : Int)⟩]) ++ ·) from by
                        have h := YES.out _ _ _ _ _ (by rw [HTX.out, if_neg h200])
                        rw [show p + (1 + (k - (p + 1)) + 1) = k + 1 from by omega] at h
                        exact h)
                      have hl2 : ¬ (200 : Int) < (bs.length : Int) := by omega
                      have CV := hrow.out.conv
                      rcases hnx with h1 | ⟨h1, e5⟩
                      · have hki : ¬ (k : Int) + 1 < (s.size : Int) := by omega
                        go_wp2_with (at_builtin; refine wpList_append_src _ rfl _ _ 27 rfl w.heap.size 36 i0 (.agg #[.int .i64 0, .string ⟨#[]⟩, .int .i64 0, .int .i64 0]) 4 40 Try.underlying27/-t-/ hi hz0 hz1 hz2 rfl (by decide) (.slice A0 acc.length k0) acc.length (wcells acc) rfl (World.ownsRow.alloc HOA.out _) (some ⟨wy.heap.size, 0, none⟩) 1 1 (wcs ⟨2, ⟨bs.toArray⟩, 0, p⟩) rfl (Src.four wy ⟨2, ⟨bs.toArray⟩, 0, p⟩ _) (by unfold maxLen; omega) (by omega) (by simp; omega) ?_; intro v9 w9 hown9 hgrow h9; clear h9; obtain ⟨A9, k9, rfl⟩ := own_slice hown9; have HG := Lib.hid hgrow; have HO9 := Lib.hid hown9; clear hgrow hown9)
                        have HB9 := Lib.hid ((HBY.out.alloc HBY.out.size (.cells #[.int .i64 2, .string ⟨bs.toArray⟩, .int .i64 0, .int .i64 p] 36)).grown HG.out (by simp; omega) (fun g hg => (HOA.out.lt g hg).1))
                        go_roundw
                        case rel => exact ⟨k + 1, f, acc ++ [⟨2, ⟨bs.toArray⟩, 0, (p : Int)⟩], hks, by omega, by simp; omega, by go_num, HB9, Lib.hid (by rw [wcells_one, List.length_append]; exact HO9.out), HY⟩
                        case measure => simp [intOf]; omega
                      · have hki : (k : Int) + 1 < (s.size : Int) := by omega
                        go_wp2_with (at_builtin; refine wpList_append_src _ rfl _ _ 27 rfl w.heap.size 36 i0 (.agg #[.int .i64 0, .string ⟨#[]⟩, .int .i64 0, .int .i64 0]) 4 40 Try.underlying27/-t-/ hi hz0 hz1 hz2 rfl (by decide) (.slice A0 acc.length k0) acc.length (wcells acc) rfl (World.ownsRow.alloc HOA.out _) (some ⟨wy.heap.size, 0, none⟩) 1 1 (wcs ⟨2, ⟨bs.toArray⟩, 0, p⟩) rfl (Src.four wy ⟨2, ⟨bs.toArray⟩, 0, p⟩ _) (by unfold maxLen; omega) (by omega) (by simp; omega) ?_; intro v9 w9 hown9 hgrow h9; clear h9; obtain ⟨A9, k9, rfl⟩ := own_slice hown9; have HG := Lib.hid hgrow; have HO9 := Lib.hid hown9; clear hgrow hown9)
                        have HB9 := Lib.hid ((HBY.out.alloc HBY.out.size (.cells #[.int .i64 2, .string ⟨bs.toArray⟩, .int .i64 0, .int .i64 p] 36)).grown HG.out (by simp; omega) (fun g hg => (HOA.out.lt g hg).1))
                        go_roundw
                        case rel => exact ⟨k + 1, f, acc ++ [⟨2, ⟨bs.toArray⟩, 0, (p : Int)⟩], hks, by omega, by simp; omega, by go_num, HB9, Lib.hid (by rw [wcells_one, List.length_append]; exact HO9.out), HY⟩
                        case measure => simp [intOf]; omega
              · have HY := Lib.hid (show txt (s.data.toList.drop (p + 1)) = (txt (s.data.toList.drop (k + 1))).map fun x => ((bs ++ [d]) ++ x.1, x.2 + (k + 1 - (p + 1))) from by
                  rw [htx.out, HDK.out, txt_step _ _ h10 h39, Option.map_map]
                  congr 1
                  funext x
                  simp
                  omega)
                rw [beq_eq_false_iff_ne.2 h39] at m39 n39
                rw [Bool.not_false] at n39
                clear h10 h39
                go_wp2_with (at_builtin; refine wpList_append_src _ rfl _ _ 54 rfl wx.heap.size 5 j0 (.int .u8 0) 1 1 Try.underlying54/-t-/ ji jz0 jz1 jz2 rfl (by decide) (.slice B0 bs.length d0) bs.length (cells8 bs) rfl (World.ownsRow.alloc hrow.out.1 _) (some ⟨wy.heap.size, 0, none⟩) 1 1 [.int .u8 (s[k].toNat : Int)] rfl (Src.one wy _ _ rfl) (by unfold maxLen; omega) (by omega) (by simp; omega) ?_; intro v9 w9 hown9 hgrow h9; clear h9; obtain ⟨A9, k9, rfl⟩ := own_slice hown9; have HG := Lib.hid hgrow; have HO9 := Lib.hid hown9; clear hgrow hown9)
                have HB9 := Lib.hid ((hby.out.alloc hsy (.cells #[.int .u8 (s[k].toNat : Int)] 5)).grown HG.out (by simp; omega) (fun g hg => (hrow.out.1.lt g hg).1))
                go_roundw
                case rel => exact ⟨k + 1, bs ++ [d], by omega, hks, by simp; omega, by go_num, HB9, Lib.hid (by rw [HDD.out]; exact row8_snoc HO9.out), HY⟩
                case measure => simp [intOf]; omega
            · have hke : k = s.size := by omega
              subst hke
              have HX := Lib.hid (NO.out (by rw [HF.out, htx.out, drop_end]; rfl))
              go_wp2
              rw [HX.out]
              exact bodyPost_ret (v := .tuple #[.slice none 0 0, .int .i64 p]) (by simp [results, Try.results10, go_sem]) rfl ⟨rfl, HBY.out⟩
      have n39 : (c == 39) = false := beq_eq_false_iff_ne.2 h39
      rw [n39] at e39
      by_cases hP : isP c = true
      · as_aux_lemma =>
          have hc47 : c ≠ 47 := by rintro rfl; exact absurd hP (by decide)
          rw [beq_eq_false_iff_ne.2 hc47] at e47
          have PT' := fun W => part_any s[p] W
          rw [← HC.out, hP] at PT'
          have PT := Lib.hid (show ∀ W, Calls Try.prog 22/-f-/ #[.int .u8 (s[p].toNat : Int)] W fun e w' => e = .returned (.bool true) ∧ W = w' from by rw [← HC.out]; exact PT')
          have hrl := runN_le (s.data.toList.drop p)
          rw [List.length_drop, HSL.out] at hrl
          have hrp : 0 < runN (s.data.toList.drop p) := by rw [HD.out]; exact run_pos c _ hP
          clear PT' hb hb3 n39
          go_wp2_with (go_at_call 22/-f-/; (with_reducible refine (PT.out _).mono ?_); rintro e w2 ⟨rfl, rfl⟩)
          go_loop [9] (fun i => ∃ q, p ≤ q ∧ q ≤ s.size ∧ i = .int .i64 q ∧ Hid (q + runN (s.data.toList.drop q) = p + runN (s.data.toList.drop p))) (fun i => s.size - (intOf i).toNat)
          case atStart => exact ⟨p, Nat.le_refl _, hp, rfl, Lib.hid rfl⟩
          case round =>
            obtain ⟨q, hpq, hq, rfl, hrq⟩ := hrel
            by_cases hqs : q < s.size
            · have hdq := drop_at s q hqs
              cases hPd : isP s[q] with
              | true =>
                have HY := Lib.hid (show q + 1 + runN (s.data.toList.drop (q + 1)) = p + runN (s.data.toList.drop p) from by
                  rw [← hrq.out, hdq, runN_cons, if_pos hPd]; omega)
                have PQ' := fun W => part_any s[q] W
                rw [hPd] at PQ'
                have PQ := Lib.hid PQ'
                clear PQ' hdq hPd
                go_wp2_with (go_at_call 22/-f-/; (with_reducible refine (PQ.out _).mono ?_); rintro e w2 ⟨rfl, rfl⟩)
                go_round
                case rel => exact ⟨q + 1, by omega, hqs, by go_num, HY⟩
                case measure => simp [intOf]; omega
              | false =>
                have hqm : q = p + runN (s.data.toList.drop p) := by
                  rw [← hrq.out, hdq, runN_cons, if_neg (by rw [hPd]; decide)]; rfl
                have PQ' := fun W => part_any s[q] W
                rw [hPd] at PQ'
                have PQ := Lib.hid PQ'
                clear PQ' hdq hPd
                have HQM := Lib.hid hqm
                clear hqm
                go_upto_region 31 with (go_at_call 22/-f-/; (with_reducible refine (PQ.out _).mono ?_); rintro e w2 ⟨rfl, rfl⟩)
                have hqm := HQM.out
                clear HQM
                as_aux_lemma =>
                  have HT := Lib.hid (show s.extract p q = ⟨((s.data.toList.drop p).take (runN (s.data.toList.drop p))).toArray⟩ from by
                    rw [ext_data s p q hpq hq, show q - p = runN (s.data.toList.drop p) from by omega])
                  have hTs : (s.extract p q).size = q - p := by
                    rw [ext_data s p q hpq hq, arr_size, List.length_take, List.length_drop, HSL.out]; omega
                  have hpq0 : (0 : Int) ≤ (p : Int) := by omega
                  have hpqi : (p : Int) ≤ (q : Int) := by omega
                  have hqi : (q : Int) ≤ (s.size : Int) := by omega
                  have NM' := fun W => refnamed_any (s.extract p q) W (by omega)
                  have hTd : (s.extract p q).data.toList = (s.data.toList.drop p).take (runN (s.data.toList.drop p)) := by rw [HT.out]
                  have hpq2 : p < q := by omega
                  have HQM := Lib.hid hqm
                  clear hqm
                  by_cases hdg : (48 ≤ c && c ≤ 57) = true
                  · have hneg : Ar.pneg (s.extract p q).data.toList = false := by
                      rw [hTd, HD.out, take_run c _ hP]; exact digit_neg c _ hdg
                    have PS' := fun W => refparse_plain (s.extract p q) W (by omega) (by omega) hneg
                    have h48 : (48 : Int) ≤ (s[p].toNat : Int) := by
                      simp only [Bool.and_eq_true, decide_eq_true_eq, UInt8.le_iff_toNat_le] at hdg
                      have h1 := hdg.1
                      rw [HC.out] at h1
                      have h2 : (48 : UInt8).toNat = 48 := rfl
                      omega
                    have h57 : (s[p].toNat : Int) ≤ 57 := by
                      simp only [Bool.and_eq_true, decide_eq_true_eq, UInt8.le_iff_toNat_le] at hdg
                      have h1 := hdg.2
                      rw [HC.out] at h1
                      have h2 : (57 : UInt8).toNat = 57 := rfl
                      omega
                    have HFW := Lib.hid (show fstW (s.data.toList.drop p) = if parseE (s.extract p q).data.toList = 0 then some (⟨1, s.extract p q, parseV (s.extract p q).data.toList, 0⟩, runN (s.data.toList.drop p)) else none from by
                      rw [hTd, HT.out]
                      rw [HD.out, fst_digit c _ hdg]; rfl)
                    generalize parseE (s.extract p q).data.toList = pe at *
                    generalize parseV (s.extract p q).data.toList = pv at *
                    have hgz : ∃ T, T = s.extract p q := ⟨_, rfl⟩
                    generalize namB (s.extract p q) = nb at *
                    have NM := Lib.hid NM'
                    have PS := Lib.hid PS'
                    have BE2 := Lib.hid (fun (W : World) (h : Below (wx.alloc (.cells #[.int .i64 3, .string (s.extract p q), .int .i64 0, .int .i64 p] 36)).heap.size (wx.alloc (.cells #[.int .i64 3, .string (s.extract p q), .int .i64 0, .int .i64 p] 36)) W) => (show Below wx.heap.size wx W ∧ Blk W wx.heap.size 36 #[.int .i64 3, .string (s.extract p q), .int .i64 0, .int .i64 p] from ⟨((Below.refl _ _).alloc (Nat.le_refl _) _).trans (h.mono (by simp)), (Blk.new wx _ _).below h (by simp)⟩))
                    clear NM' PS' hTd hneg hgz hdg HT hTs
                    by_cases hpe : pe = 0
                    · subst hpe
                      have HY := Lib.hid (show R = (wordsF f (s.data.toList.drop q) q).map ((acc ++ [⟨1, s.extract p q, pv, (p : Int)⟩]) ++ ·) from by
                        have h := YES.out _ _ _ _ _ (by rw [HFW.out, if_pos rfl])
                        rw [← HQM.out] at h
                        exact h)
                      go_upto_region 36 with (first
                        | (go_at_call 23/-f-/; (with_reducible refine (NM.out _).mono ?_); rintro e w2 ⟨rfl, rfl⟩)
                        | (go_at_call 24/-f-/; (with_reducible refine (PS.out _).mono ?_); rintro e w3 ⟨rfl, hb3⟩; have X3 := BE2.out _ hb3; have HB3 := Lib.hid X3.1; have HK3 := Lib.hid X3.2; clear hb3 X3; obtain ⟨c0, c1, c2, c3, f0, f1, f2, f3, hl3⟩ := blk4 HK3.out))
                      have HOA := Lib.hid (((((Off.of (S := fun x => x = wx.heap.size) HB3.out).put (p := ⟨wx.heap.size, 0, none⟩) (fun _ => rfl) (.int .i64 1)).put (p := ⟨wx.heap.size, 1, none⟩) (fun _ => rfl) (.string (s.extract p q))).put (p := ⟨wx.heap.size, 2, none⟩) (fun _ => rfl) (.int .i64 pv)).put (p := ⟨wx.heap.size, 3, none⟩) (fun _ => rfl) (.int .i64 p))
                      have HOW := Lib.hid (HOA.out.own hown.out (fun g hg (he : g = wx.heap.size) => by have := (hown.out.lt g hg).2; omega))
                      have HBA := Lib.hid (hbl.out.trans (HOA.out.below (B := w.heap.size) (fun x hx (he : x = wx.heap.size) => by omega) hsz))
                      go_wp2_with (at_builtin; refine wpList_append_src _ rfl _ _ 27 rfl w.heap.size 36 i0 (.agg #[.int .i64 0, .string ⟨#[]⟩, .int .i64 0, .int .i64 0]) 4 40 Try.underlying27/-t-/ hi hz0 hz1 hz2 rfl (by decide) (.slice A0 acc.length k0) acc.length (wcells acc) rfl (World.ownsRow.alloc HOW.out _) (some ⟨w3.heap.size, 0, none⟩) 1 1 (wcs ⟨1, s.extract p q, pv, p⟩) rfl (Src.fourN _ _ (by simp) ⟨1, s.extract p q, pv, p⟩ _) (by unfold maxLen; omega) (by omega) (by simp; omega) ?_; intro v9 w9 hown9 hgrow h9; clear h9; obtain ⟨A9, k9, rfl⟩ := own_slice hown9; have HG := Lib.hid hgrow; have HO9 := Lib.hid hown9; clear hgrow hown9)
                      have hs3 := HB3.out.size
                      have HB9 := Lib.hid ((HBA.out.alloc (by simp; omega) (.cells #[.int .i64 1, .string (s.extract p q), .int .i64 pv, .int .i64 p] 36)).grown HG.out (by simp; omega) (fun g hg => (HOW.out.lt g hg).1))
                      go_roundw
                      case rel => exact ⟨q, f, acc ++ [⟨1, s.extract p q, pv, (p : Int)⟩], hq, by omega, by simp; omega, by go_num, HB9, Lib.hid (by rw [wcells_one, List.length_append]; exact HO9.out), HY⟩
                      case measure => simp [intOf]; omega
                    · have HX := Lib.hid (NO.out (by rw [HFW.out, if_neg hpe]))
                      have hpe2 : (pe == 0) = false := beq_eq_false_iff_ne.2 hpe
                      clear HFW YES NO
                      go_upto_region 36 with (first
                        | (go_at_call 23/-f-/; (with_reducible refine (NM.out _).mono ?_); rintro e w2 ⟨rfl, rfl⟩)
                        | (go_at_call 24/-f-/; (with_reducible refine (PS.out _).mono ?_); rintro e w3 ⟨rfl, hb3⟩; have X3 := BE2.out _ hb3; have HB3 := Lib.hid X3.1; have HK3 := Lib.hid X3.2; clear hb3 X3; obtain ⟨c0, c1, c2, c3, f0, f1, f2, f3, hl3⟩ := blk4 HK3.out))
                      have HOA := Lib.hid (((((Off.of (S := fun x => x = wx.heap.size) HB3.out).put (p := ⟨wx.heap.size, 0, none⟩) (fun _ => rfl) (.int .i64 1)).put (p := ⟨wx.heap.size, 1, none⟩) (fun _ => rfl) (.string (s.extract p q))).put (p := ⟨wx.heap.size, 2, none⟩) (fun _ => rfl) (.int .i64 pv)).put (p := ⟨wx.heap.size, 3, none⟩) (fun _ => rfl) (.int .i64 p))
                      have HBA := Lib.hid (hbl.out.trans (HOA.out.below (B := w.heap.size) (fun x hx (he : x = wx.heap.size) => by omega) hsz))
                      go_wp2
                      rw [HX.out]
                      exact bodyPost_ret (v := .tuple #[.slice none 0 0, .int .i64 p]) (by simp [results, Try.results10, go_sem]) rfl ⟨rfl, HBA.out⟩
    
                  have h4857 : ¬ (48 : Int) ≤ (s[p].toNat : Int) ∨ ((48 : Int) ≤ (s[p].toNat : Int) ∧ ¬ (s[p].toNat : Int) ≤ 57) := by
                    simp only [Bool.and_eq_true, decide_eq_true_eq, UInt8.le_iff_toNat_le] at hdg
                    rw [HC.out] at hdg
                    have h2 : (57 : UInt8).toNat = 57 := rfl
                    have h3 : (48 : UInt8).toNat = 48 := rfl
                    omega
                  have HFW := Lib.hid (show fstW (s.data.toList.drop p) = if namB (s.extract p q) = true then some (⟨3, s.extract p q, 0, 0⟩, runN (s.data.toList.drop p)) else none from by
                    by_cases hlo : (97 ≤ c && c ≤ 122) = true
                    · rw [HT.out]
                      rw [HD.out, fst_lower c _ hdg hlo]; rfl
                    · rw [HT.out]
                      rw [HD.out, upper_none c _ hP hdg hlo, upper_nam c _ hP hlo]; rfl)
                  generalize namB (s.extract p q) = nb at *
                  have NM := Lib.hid NM'
                  clear NM' hTd hdg HT hTs
                  cases nb with
                  | true =>
                    have HY := Lib.hid (show R = (wordsF f (s.data.toList.drop q) q).map ((acc ++ [⟨3, s.extract p q, 0, (p : Int)⟩]) ++ ·) from by
                      have h := YES.out _ _ _ _ _ (by rw [HFW.out, if_pos rfl])
                      rw [← HQM.out] at h
                      exact h)
                    rcases h4857 with g1 | ⟨g1, g2⟩
                    all_goals
                      go_wp2_with (first
                        | (go_at_call 23/-f-/; (with_reducible refine (NM.out _).mono ?_); rintro e w2 ⟨rfl, rfl⟩)
                        | (at_builtin; refine wpList_append_src _ rfl _ _ 27 rfl w.heap.size 36 i0 (.agg #[.int .i64 0, .string ⟨#[]⟩, .int .i64 0, .int .i64 0]) 4 40 Try.underlying27/-t-/ hi hz0 hz1 hz2 rfl (by decide) (.slice A0 acc.length k0) acc.length (wcells acc) rfl (World.ownsRow.alloc (World.ownsRow.alloc hown.out _) _) (some ⟨wx.heap.size + 1, 0, none⟩) 1 1 (wcs ⟨3, s.extract p q, 0, p⟩) rfl (Src.four2 wx _ ⟨3, s.extract p q, 0, p⟩ _) (by unfold maxLen; omega) (by omega) (by simp; omega) ?_; intro v9 w9 hown9 hgrow h9; clear h9; obtain ⟨A9, k9, rfl⟩ := own_slice hown9; have HG := Lib.hid hgrow; have HO9 := Lib.hid hown9; clear hgrow hown9))
                      have HB9 := Lib.hid (((hbl.out.alloc hsz (.cells #[.int .i64 3, .string (s.extract p q), .int .i64 0, .int .i64 p] 36)).alloc (by simp; omega) (.cells #[.int .i64 3, .string (s.extract p q), .int .i64 0, .int .i64 p] 36)).grown HG.out (by simp; omega) (fun g hg => (hown.out.lt g hg).1))
                      go_roundw
                      case rel => exact ⟨q, f, acc ++ [⟨3, s.extract p q, 0, (p : Int)⟩], hq, by omega, by simp; omega, by go_num, HB9, Lib.hid (by rw [wcells_one, List.length_append]; exact HO9.out), HY⟩
                      case measure => simp [intOf]; omega
                  | false =>
                    have HX := Lib.hid (NO.out (by rw [HFW.out, if_neg (by decide)]))
                    rcases h4857 with g1 | ⟨g1, g2⟩
                    all_goals
                      go_wp2_with (go_at_call 23/-f-/; (with_reducible refine (NM.out _).mono ?_); rintro e w2 ⟨rfl, rfl⟩)
                      rw [HX.out]
                      exact bodyPost_ret (v := .tuple #[.slice none 0 0, .int .i64 p]) (by simp [results, Try.results10, go_sem]) rfl ⟨rfl, hbl.out.alloc hsz _⟩
            · have hqe : q = s.size := by omega
              have hqm : q = p + runN (s.data.toList.drop p) := by
                rw [← hrq.out, hqe, drop_end]; rfl
              clear hqe
              have HQM := Lib.hid hqm
              clear hqm
              go_upto_region 31 with fail
              have hqm := HQM.out
              clear HQM
              as_aux_lemma =>
                have HT := Lib.hid (show s.extract p q = ⟨((s.data.toList.drop p).take (runN (s.data.toList.drop p))).toArray⟩ from by
                  rw [ext_data s p q hpq hq, show q - p = runN (s.data.toList.drop p) from by omega])
                have hTs : (s.extract p q).size = q - p := by
                  rw [ext_data s p q hpq hq, arr_size, List.length_take, List.length_drop, HSL.out]; omega
                have hpq0 : (0 : Int) ≤ (p : Int) := by omega
                have hpqi : (p : Int) ≤ (q : Int) := by omega
                have hqi : (q : Int) ≤ (s.size : Int) := by omega
                have NM' := fun W => refnamed_any (s.extract p q) W (by omega)
                have hTd : (s.extract p q).data.toList = (s.data.toList.drop p).take (runN (s.data.toList.drop p)) := by rw [HT.out]
                have hpq2 : p < q := by omega
                have HQM := Lib.hid hqm
                clear hqm
                by_cases hdg : (48 ≤ c && c ≤ 57) = true
                · have hneg : Ar.pneg (s.extract p q).data.toList = false := by
                    rw [hTd, HD.out, take_run c _ hP]; exact digit_neg c _ hdg
                  have PS' := fun W => refparse_plain (s.extract p q) W (by omega) (by omega) hneg
                  have h48 : (48 : Int) ≤ (s[p].toNat : Int) := by
                    simp only [Bool.and_eq_true, decide_eq_true_eq, UInt8.le_iff_toNat_le] at hdg
                    have h1 := hdg.1
                    rw [HC.out] at h1
                    have h2 : (48 : UInt8).toNat = 48 := rfl
                    omega
                  have h57 : (s[p].toNat : Int) ≤ 57 := by
                    simp only [Bool.and_eq_true, decide_eq_true_eq, UInt8.le_iff_toNat_le] at hdg
                    have h1 := hdg.2
                    rw [HC.out] at h1
                    have h2 : (57 : UInt8).toNat = 57 := rfl
                    omega
                  have HFW := Lib.hid (show fstW (s.data.toList.drop p) = if parseE (s.extract p q).data.toList = 0 then some (⟨1, s.extract p q, parseV (s.extract p q).data.toList, 0⟩, runN (s.data.toList.drop p)) else none from by
                    rw [hTd, HT.out]
                    rw [HD.out, fst_digit c _ hdg]; rfl)
                  generalize parseE (s.extract p q).data.toList = pe at *
                  generalize parseV (s.extract p q).data.toList = pv at *
                  have hgz : ∃ T, T = s.extract p q := ⟨_, rfl⟩
                  generalize namB (s.extract p q) = nb at *
                  have NM := Lib.hid NM'
                  have PS := Lib.hid PS'
                  have BE2 := Lib.hid (fun (W : World) (h : Below (wx.alloc (.cells #[.int .i64 3, .string (s.extract p q), .int .i64 0, .int .i64 p] 36)).heap.size (wx.alloc (.cells #[.int .i64 3, .string (s.extract p q), .int .i64 0, .int .i64 p] 36)) W) => (show Below wx.heap.size wx W ∧ Blk W wx.heap.size 36 #[.int .i64 3, .string (s.extract p q), .int .i64 0, .int .i64 p] from ⟨((Below.refl _ _).alloc (Nat.le_refl _) _).trans (h.mono (by simp)), (Blk.new wx _ _).below h (by simp)⟩))
                  clear NM' PS' hTd hneg hgz hdg HT hTs
                  by_cases hpe : pe = 0
                  · subst hpe
                    have HY := Lib.hid (show R = (wordsF f (s.data.toList.drop q) q).map ((acc ++ [⟨1, s.extract p q, pv, (p : Int)⟩]) ++ ·) from by
                      have h := YES.out _ _ _ _ _ (by rw [HFW.out, if_pos rfl])
                      rw [← HQM.out] at h
                      exact h)
                    go_upto_region 36 with (first
                      | (go_at_call 23/-f-/; (with_reducible refine (NM.out _).mono ?_); rintro e w2 ⟨rfl, rfl⟩)
                      | (go_at_call 24/-f-/; (with_reducible refine (PS.out _).mono ?_); rintro e w3 ⟨rfl, hb3⟩; have X3 := BE2.out _ hb3; have HB3 := Lib.hid X3.1; have HK3 := Lib.hid X3.2; clear hb3 X3; obtain ⟨c0, c1, c2, c3, f0, f1, f2, f3, hl3⟩ := blk4 HK3.out))
                    have HOA := Lib.hid (((((Off.of (S := fun x => x = wx.heap.size) HB3.out).put (p := ⟨wx.heap.size, 0, none⟩) (fun _ => rfl) (.int .i64 1)).put (p := ⟨wx.heap.size, 1, none⟩) (fun _ => rfl) (.string (s.extract p q))).put (p := ⟨wx.heap.size, 2, none⟩) (fun _ => rfl) (.int .i64 pv)).put (p := ⟨wx.heap.size, 3, none⟩) (fun _ => rfl) (.int .i64 p))
                    have HOW := Lib.hid (HOA.out.own hown.out (fun g hg (he : g = wx.heap.size) => by have := (hown.out.lt g hg).2; omega))
                    have HBA := Lib.hid (hbl.out.trans (HOA.out.below (B := w.heap.size) (fun x hx (he : x = wx.heap.size) => by omega) hsz))
                    go_wp2_with (at_builtin; refine wpList_append_src _ rfl _ _ 27 rfl w.heap.size 36 i0 (.agg #[.int .i64 0, .string ⟨#[]⟩, .int .i64 0, .int .i64 0]) 4 40 Try.underlying27/-t-/ hi hz0 hz1 hz2 rfl (by decide) (.slice A0 acc.length k0) acc.length (wcells acc) rfl (World.ownsRow.alloc HOW.out _) (some ⟨w3.heap.size, 0, none⟩) 1 1 (wcs ⟨1, s.extract p q, pv, p⟩) rfl (Src.fourN _ _ (by simp) ⟨1, s.extract p q, pv, p⟩ _) (by unfold maxLen; omega) (by omega) (by simp; omega) ?_; intro v9 w9 hown9 hgrow h9; clear h9; obtain ⟨A9, k9, rfl⟩ := own_slice hown9; have HG := Lib.hid hgrow; have HO9 := Lib.hid hown9; clear hgrow hown9)
                    have hs3 := HB3.out.size
                    have HB9 := Lib.hid ((HBA.out.alloc (by simp; omega) (.cells #[.int .i64 1, .string (s.extract p q), .int .i64 pv, .int .i64 p] 36)).grown HG.out (by simp; omega) (fun g hg => (HOW.out.lt g hg).1))
                    go_roundw
                    case rel => exact ⟨q, f, acc ++ [⟨1, s.extract p q, pv, (p : Int)⟩], hq, by omega, by simp; omega, by go_num, HB9, Lib.hid (by rw [wcells_one, List.length_append]; exact HO9.out), HY⟩
                    case measure => simp [intOf]; omega
                  · have HX := Lib.hid (NO.out (by rw [HFW.out, if_neg hpe]))
                    have hpe2 : (pe == 0) = false := beq_eq_false_iff_ne.2 hpe
                    clear HFW YES NO
                    go_upto_region 36 with (first
                      | (go_at_call 23/-f-/; (with_reducible refine (NM.out _).mono ?_); rintro e w2 ⟨rfl, rfl⟩)
                      | (go_at_call 24/-f-/; (with_reducible refine (PS.out _).mono ?_); rintro e w3 ⟨rfl, hb3⟩; have X3 := BE2.out _ hb3; have HB3 := Lib.hid X3.1; have HK3 := Lib.hid X3.2; clear hb3 X3; obtain ⟨c0, c1, c2, c3, f0, f1, f2, f3, hl3⟩ := blk4 HK3.out))
                    have HOA := Lib.hid (((((Off.of (S := fun x => x = wx.heap.size) HB3.out).put (p := ⟨wx.heap.size, 0, none⟩) (fun _ => rfl) (.int .i64 1)).put (p := ⟨wx.heap.size, 1, none⟩) (fun _ => rfl) (.string (s.extract p q))).put (p := ⟨wx.heap.size, 2, none⟩) (fun _ => rfl) (.int .i64 pv)).put (p := ⟨wx.heap.size, 3, none⟩) (fun _ => rfl) (.int .i64 p))
                    have HBA := Lib.hid (hbl.out.trans (HOA.out.below (B := w.heap.size) (fun x hx (he : x = wx.heap.size) => by omega) hsz))
                    go_wp2
                    rw [HX.out]
                    exact bodyPost_ret (v := .tuple #[.slice none 0 0, .int .i64 p]) (by simp [results, Try.results10, go_sem]) rfl ⟨rfl, HBA.out⟩
    
                have h4857 : ¬ (48 : Int) ≤ (s[p].toNat : Int) ∨ ((48 : Int) ≤ (s[p].toNat : Int) ∧ ¬ (s[p].toNat : Int) ≤ 57) := by
                  simp only [Bool.and_eq_true, decide_eq_true_eq, UInt8.le_iff_toNat_le] at hdg
                  rw [HC.out] at hdg
                  have h2 : (57 : UInt8).toNat = 57 := rfl
                  have h3 : (48 : UInt8).toNat = 48 := rfl
                  omega
                have HFW := Lib.hid (show fstW (s.data.toList.drop p) = if namB (s.extract p q) = true then some (⟨3, s.extract p q, 0, 0⟩, runN (s.data.toList.drop p)) else none from by
                  by_cases hlo : (97 ≤ c && c ≤ 122) = true
                  · rw [HT.out]
                    rw [HD.out, fst_lower c _ hdg hlo]; rfl
                  · rw [HT.out]
                    rw [HD.out, upper_none c _ hP hdg hlo, upper_nam c _ hP hlo]; rfl)
                generalize namB (s.extract p q) = nb at *
                have NM := Lib.hid NM'
                clear NM' hTd hdg HT hTs
                cases nb with
                | true =>
                  have HY := Lib.hid (show R = (wordsF f (s.data.toList.drop q) q).map ((acc ++ [⟨3, s.extract p q, 0, (p : Int)⟩]) ++ ·) from by
                    have h := YES.out _ _ _ _ _ (by rw [HFW.out, if_pos rfl])
                    rw [← HQM.out] at h
                    exact h)
                  rcases h4857 with g1 | ⟨g1, g2⟩
                  all_goals
                    go_wp2_with (first
                      | (go_at_call 23/-f-/; (with_reducible refine (NM.out _).mono ?_); rintro e w2 ⟨rfl, rfl⟩)
                      | (at_builtin; refine wpList_append_src _ rfl _ _ 27 rfl w.heap.size 36 i0 (.agg #[.int .i64 0, .string ⟨#[]⟩, .int .i64 0, .int .i64 0]) 4 40 Try.underlying27/-t-/ hi hz0 hz1 hz2 rfl (by decide) (.slice A0 acc.length k0) acc.length (wcells acc) rfl (World.ownsRow.alloc (World.ownsRow.alloc hown.out _) _) (some ⟨wx.heap.size + 1, 0, none⟩) 1 1 (wcs ⟨3, s.extract p q, 0, p⟩) rfl (Src.four2 wx _ ⟨3, s.extract p q, 0, p⟩ _) (by unfold maxLen; omega) (by omega) (by simp; omega) ?_; intro v9 w9 hown9 hgrow h9; clear h9; obtain ⟨A9, k9, rfl⟩ := own_slice hown9; have HG := Lib.hid hgrow; have HO9 := Lib.hid hown9; clear hgrow hown9))
                    have HB9 := Lib.hid (((hbl.out.alloc hsz (.cells #[.int .i64 3, .string (s.extract p q), .int .i64 0, .int .i64 p] 36)).alloc (by simp; omega) (.cells #[.int .i64 3, .string (s.extract p q), .int .i64 0, .int .i64 p] 36)).grown HG.out (by simp; omega) (fun g hg => (hown.out.lt g hg).1))
                    go_roundw
                    case rel => exact ⟨q, f, acc ++ [⟨3, s.extract p q, 0, (p : Int)⟩], hq, by omega, by simp; omega, by go_num, HB9, Lib.hid (by rw [wcells_one, List.length_append]; exact HO9.out), HY⟩
                    case measure => simp [intOf]; omega
                | false =>
                  have HX := Lib.hid (NO.out (by rw [HFW.out, if_neg (by decide)]))
                  rcases h4857 with g1 | ⟨g1, g2⟩
                  all_goals
                    go_wp2_with (go_at_call 23/-f-/; (with_reducible refine (NM.out _).mono ?_); rintro e w2 ⟨rfl, rfl⟩)
                    rw [HX.out]
                    exact bodyPost_ret (v := .tuple #[.slice none 0 0, .int .i64 p]) (by simp [results, Try.results10, go_sem]) rfl ⟨rfl, hbl.out.alloc hsz _⟩
      as_aux_lemma =>
        have hPf : isP c = false := by simpa using hP
        have hdg : ¬ (48 ≤ c && c ≤ 57) = true := fun h => hP (by unfold isP; simp at h ⊢; exact .inl (.inr h))
        have hlo : ¬ (97 ≤ c && c ≤ 122) = true := fun h => hP (by unfold isP; simp at h ⊢; exact .inl (.inl (.inl h)))
        have hw : (c == 47) = false ∨ ((c == 47) = true ∧ ¬ p + 1 < s.size) ∨ ((c == 47) = true ∧ ∃ h : p + 1 < s.size, ((s[p + 1].toNat : Int) == 47) = false) := by
          by_cases h47 : c = 47
          · subst h47
            by_cases hp1 : p + 1 < s.size
            · refine .inr (.inr ⟨rfl, hp1, ?_⟩)
              rw [show ((47 : Int)) = ((47 : Nat) : Int) from rfl, byte_eq _ 47 (by decide), beq_eq_false_iff_ne]
              intro h
              exact HREM.out (by rw [HD.out, drop_at s (p + 1) hp1, h]; rfl)
            · exact .inr (.inl ⟨rfl, hp1⟩)
          · exact .inl (beq_eq_false_iff_ne.2 h47)
        have PT' := fun W => part_any s[p] W
        rw [← HC.out, hPf] at PT'
        have PT := Lib.hid (show ∀ W, Calls Try.prog 22/-f-/ #[.int .u8 (s[p].toNat : Int)] W fun e w' => e = .returned (.bool false) ∧ W = w' from by rw [← HC.out]; exact PT')
        have hTd : (s.extract p s.size).data.toList = s.data.toList.drop p := by
          rw [ext_data s p s.size hp (Nat.le_refl _)]
          have e : ∀ l : List UInt8, (⟨l.toArray⟩ : ByteArray).data.toList = l := fun l => by simp
          rw [e]
          exact List.take_of_length_le (by rw [List.length_drop, HSL.out]; omega)
        have hTs : (s.extract p s.size).size = s.size - p := by
          have : (s.extract p s.size).data.toList.length = (s.extract p s.size).size := by simp
          rw [← this, hTd, List.length_drop, HSL.out]
        have SG' := fun W => refsign_any (s.extract p s.size) W (by omega) (by omega)
        rw [hTd] at SG'
        have HFW := Lib.hid (show fstW (s.data.toList.drop p) = if sgnT (s.data.toList.drop p) = [] then none else some (⟨0, ⟨(sgnT (s.data.toList.drop p)).toArray⟩, 0, 0⟩, (sgnT (s.data.toList.drop p)).length) from by
          rw [← sgnW_eq _ (by rw [HD.out]; simp)]
          rw [HD.out, fst_sign c _ hdg hlo h39])
        have hgl : p + (sgnT (s.data.toList.drop p)).length ≤ s.size := by
          have h : (sgnT (s.data.toList.drop p)).length ≤ (s.data.toList.drop p).length := by
            unfold sgnT
            split
            · rw [List.length_take]; omega
            · split
              · rw [List.length_take]; omega
              · simp
          rw [List.length_drop, HSL.out] at h
          omega
        generalize sgnT (s.data.toList.drop p) = g at *
        have hGs : (⟨g.toArray⟩ : ByteArray).size = g.length := arr_size g
        have hGl : (⟨g.toArray⟩ : ByteArray).toList = g := by rw [ByteArray.toList_eq]
        generalize (⟨g.toArray⟩ : ByteArray) = G at *
        have SG := Lib.hid SG'
        have hpi : (p : Int) ≤ (s.size : Int) := by omega
        clear SG' PT' hTd hTs hdg hlo hPf hP hb hb3 n39
        by_cases hg0 : g = []
        · have HX := Lib.hid (NO.out (by rw [HFW.out, if_pos hg0]))
          have hGe : (G.toList == []) = true := by rw [hGl, hg0]; rfl
          clear hGl hg0 HFW YES NO hGs hgl
          rcases hw with h1 | ⟨h1, h2⟩ | ⟨h1, h2, h3⟩
          · rw [h1] at e47
            go_wp2_with (first
              | (go_at_call 22/-f-/; (with_reducible refine (PT.out _).mono ?_); rintro e w2 ⟨rfl, rfl⟩)
              | (go_at_call 25/-f-/; (with_reducible refine (SG.out _).mono ?_); rintro e w3 ⟨rfl, hb3⟩; have HB3 := Lib.hid (hbl.out.trans (hb3.mono hsz)); clear hb3))
            rw [HX.out]
            exact bodyPost_ret (v := .tuple #[.slice none 0 0, .int .i64 p]) (by simp [results, Try.results10, go_sem]) rfl ⟨rfl, HB3.out⟩
          · rw [h1] at e47
            have h2i : ¬ (p : Int) + 1 < (s.size : Int) := by omega
            go_wp2_with (first
              | (go_at_call 22/-f-/; (with_reducible refine (PT.out _).mono ?_); rintro e w2 ⟨rfl, rfl⟩)
              | (go_at_call 25/-f-/; (with_reducible refine (SG.out _).mono ?_); rintro e w3 ⟨rfl, hb3⟩; have HB3 := Lib.hid (hbl.out.trans (hb3.mono hsz)); clear hb3))
            rw [HX.out]
            exact bodyPost_ret (v := .tuple #[.slice none 0 0, .int .i64 p]) (by simp [results, Try.results10, go_sem]) rfl ⟨rfl, HB3.out⟩
          · rw [h1] at e47
            have h2i : (p : Int) + 1 < (s.size : Int) := by omega
            go_wp2_with (first
              | (go_at_call 22/-f-/; (with_reducible refine (PT.out _).mono ?_); rintro e w2 ⟨rfl, rfl⟩)
              | (go_at_call 25/-f-/; (with_reducible refine (SG.out _).mono ?_); rintro e w3 ⟨rfl, hb3⟩; have HB3 := Lib.hid (hbl.out.trans (hb3.mono hsz)); clear hb3))
            rw [HX.out]
            exact bodyPost_ret (v := .tuple #[.slice none 0 0, .int .i64 p]) (by simp [results, Try.results10, go_sem]) rfl ⟨rfl, HB3.out⟩
        · have hgp : 0 < g.length := List.length_pos_iff.2 hg0
          have HY := Lib.hid (show R = (wordsF f (s.data.toList.drop (p + G.size)) (p + G.size)).map ((acc ++ [⟨0, G, 0, (p : Int)⟩]) ++ ·) from by
            have h := YES.out _ _ _ _ _ (by rw [HFW.out, if_neg hg0])
            rw [← hGs] at h
            exact h)
          have hGe : (G.toList == []) = false := by
            rw [hGl, beq_eq_false_iff_ne]
            exact hg0
          have hG1 : 0 < G.size := by omega
          have hG2 : p + G.size ≤ s.size := by omega
          clear hGl hg0 HFW YES NO hGs hgl hgp
          have hwall : ∃ b1, (c == 47) = b1 ∧ (b1 = false ∨ (b1 = true ∧ ¬ (p : Int) + 1 < (s.size : Int)) ∨ (b1 = true ∧ (p : Int) + 1 < (s.size : Int) ∧ ∃ h : p + 1 < s.size, ((s[p + 1].toNat : Int) == 47) = false)) := by
            rcases hw with h1 | ⟨h1, h2⟩ | ⟨h1, h2, h3⟩
            · exact ⟨_, rfl, .inl h1⟩
            · exact ⟨_, rfl, .inr (.inl ⟨h1, by omega⟩)⟩
            · exact ⟨_, rfl, .inr (.inr ⟨h1, by omega, h2, h3⟩)⟩
          clear hw
          obtain ⟨b1, hb1, hw⟩ := hwall
          rw [hb1] at e47
          clear hb1
          rcases hw with rfl | ⟨rfl, h2i⟩ | ⟨rfl, h2i, h2, h3⟩
          all_goals
            go_wp2_with (first
              | (go_at_call 22/-f-/; (with_reducible refine (PT.out _).mono ?_); rintro e w2 ⟨rfl, rfl⟩)
              | (go_at_call 25/-f-/; (with_reducible refine (SG.out _).mono ?_); rintro e w3 ⟨rfl, hb3⟩; have HB3 := Lib.hid (hbl.out.trans (hb3.mono hsz)); have HOW := Lib.hid ((Off.of (S := fun _ => False) hb3).own hown.out (fun _ _ h => h)); clear hb3)
              | (at_builtin; refine wpList_append_src _ rfl _ _ 27 rfl w.heap.size 36 i0 (.agg #[.int .i64 0, .string ⟨#[]⟩, .int .i64 0, .int .i64 0]) 4 40 Try.underlying27/-t-/ hi hz0 hz1 hz2 rfl (by decide) (.slice A0 acc.length k0) acc.length (wcells acc) rfl (World.ownsRow.alloc HOW.out _) (some ⟨w3.heap.size, 0, none⟩) 1 1 (wcs ⟨0, G, 0, p⟩) rfl (Src.four w3 ⟨0, G, 0, p⟩ _) (by unfold maxLen; omega) (by omega) (by have := HB3.out.size; simp; omega) ?_; intro v9 w9 hown9 hgrow h9; clear h9; obtain ⟨A9, k9, rfl⟩ := own_slice hown9; have HG := Lib.hid hgrow; have HO9 := Lib.hid hown9; clear hgrow hown9))
            have HB9 := Lib.hid ((HB3.out.alloc HB3.out.size (.cells #[.int .i64 0, .string G, .int .i64 0, .int .i64 p] 36)).grown HG.out (by have := HB3.out.size; simp; omega) (fun g hg => (HOW.out.lt g hg).1))
            go_roundw
            case rel => exact ⟨p + G.size, f, acc ++ [⟨0, G, 0, (p : Int)⟩], hG2, by omega, by simp; omega, by go_num, HB9, Lib.hid (by rw [wcells_one, List.length_append]; exact HO9.out), HY⟩
            case measure => simp [intOf]; omega
    · have hps : p = s.size := by omega
      subst hps
      have HX := Lib.hid (show R = .ok acc from by
        rw [heq.out, drop_end]
        show ((wordsF (f + 1) [] s.size).map (acc ++ ·)) = _
        rw [wordsF, if_pos (by rfl)]; simp [Except.map])
      go_wp2
      rw [HX.out]
      exact bodyPost_ret (v := .tuple #[.slice A0 acc.length k0, .int .i64 (-1)]) (by simp [results, Try.results10, go_sem]) rfl ⟨⟨A0, k0, rfl, own_wds hown.out⟩, hbl.out⟩
end Go.Proofs.Ytgdfjcmjhagmoaa

/- Contracts of package calc: a number's text, and what a text is as a number. -/
import Derived.Test.YtgdfjcmjhagmoaaCalcB
import Derived.Test.YtgdfjcmjhagmoaaText
import Derived.WalkSpells
import Derived.WalkLawsBesides
import Derived.Lib.Strings
import Derived.Deep.DeepCutAuto
namespace Go.Proofs.Ytgdfjcmjhagmoaa
open Go.ChangeShapes Go.WideShapes Go.ChangeAt Go.RowKit
theorem byte_at (s : ByteArray) (k : Nat) (h : k < s.size) : s[k] = s.data.toList[k]'(by simpa using h) := rfl
theorem plain_any (s : ByteArray) (w : World) (hs : s.size ≤ 1000000) :
    Calls Try.prog 49 #[.string s] w fun e w' => e = .returned (.bool (Ar.plainL s.data.toList)) ∧ w = w' := by
  go_enter Try.func49, Try.ntmps49
  go_wp2
  go_loop [3, 6] (fun _ i => ∃ k : Nat, k ≤ s.size ∧ i = .int .i64 k ∧ Hid ((s.data.toList.take k).all Ar.dig = true)) (fun _ i => s.size - (intOf i).toNat)
  case atStart => exact ⟨0, Nat.zero_le _, rfl, Lib.hid (by simp)⟩
  case round =>
    obtain ⟨k, hk, rfl, hd⟩ := hrel
    have hsl : s.data.toList.length = s.size := by simp
    have HSL := Lib.hid hsl
    clear hsl
    by_cases hlt : k < s.size
    · have hkl : k < s.data.toList.length := by rw [HSL.out]; exact hlt
      by_cases hdg : Ar.dig s[k] = true
      · have h1 := of_decide_eq_true hdg
        have hd' := Lib.hid (show (s.data.toList.take (k + 1)).all Ar.dig = true from by
          rw [List.take_succ_eq_append_getElem hkl, List.all_append, hd.out, Bool.true_and, List.all_cons, List.all_nil, Bool.and_true]; exact hdg)
        clear hdg
        go_wp2
        go_round
        case rel => exact ⟨k + 1, by omega, by go_num, hd'⟩
        case measure => simp [intOf]; omega
      · have h1 : ¬ (48 ≤ s[k].toNat ∧ s[k].toNat ≤ 57) := fun h => hdg (decide_eq_true h)
        have HP := Lib.hid (show false = Ar.plainL s.data.toList from by
          symm; rw [Ar.plainL, show s.data.toList.all Ar.dig = false from by
            rw [List.all_eq_false]; exact ⟨s[k], List.getElem_mem hkl, hdg⟩]; rfl)
        clear hdg
        by_cases hlo : s[k].toNat < 48
        · go_wp2
          go_ret
          exact ⟨ret_bool HP.out, rfl⟩
        · have hhi : 57 < s[k].toNat := by omega
          go_wp2
          go_ret
          exact ⟨ret_bool HP.out, rfl⟩
    · have hkl : k = s.size := by omega
      subst hkl
      have hall : s.data.toList.all Ar.dig = true := by have := hd.out; rwa [← HSL.out, List.take_length] at this
      have e0 := ByteArray.toList_eq s
      by_cases hq : s.data.toList = [48]
      · have q1 : s.toList = [48] := by rw [e0]; exact hq
        have HP := Lib.hid (show true = Ar.plainL s.data.toList from by rw [hq]; rfl)
        clear hq e0 hall
        go_wp2
        go_ret
        exact ⟨ret_bool HP.out, rfl⟩
      · by_cases hn : s.data.toList = []
        · have q1 : ¬ s.toList = [48] := by rw [e0]; exact hq
          have q2 : s.toList = [] := by rw [e0]; exact hn
          have HP := Lib.hid (show false = Ar.plainL s.data.toList from by rw [hn]; rfl)
          clear hq hn e0 hall
          go_wp2
          go_ret
          exact ⟨ret_bool HP.out, rfl⟩
        · have q1 : ¬ s.toList = [48] := by rw [e0]; exact hq
          have q2 : ¬ s.toList = [] := by rw [e0]; exact hn
          have q3 : 0 < s.size := by have := HSL.out; have := List.length_pos_iff.2 hn; omega
          have q4 : s.data.toList.headD 0 = s[0] := by
            have h9 : s.data.toList[0]? = some s[0] := by rw [List.getElem?_eq_getElem (by rw [HSL.out]; exact q3)]; rfl
            cases hc : s.data.toList with
            | nil => exact absurd hc hn
            | cons x r => rw [hc] at h9; simpa using h9
          have HP := Lib.hid (show (s.toList == [48] || !s.toList.isEmpty && ((s[0].toNat : Int) != 48)) = Ar.plainL s.data.toList from by
            rw [Ar.plainL, hall, Bool.true_and, q4, e0]
            congr 2
            by_cases h : s[0] = 48
            · rw [h]; rfl
            · have h8 : (s[0].toNat : Int) ≠ 48 := fun h7 => h (UInt8.toNat_inj.1 (by simpa using (by omega : s[0].toNat = 48)))
              rw [bne_iff_ne.2 h, bne_iff_ne.2 h8])
          clear hq hn e0 hall q4
          go_wp2
          go_ret
          exact ⟨ret_bool HP.out, rfl⟩

def parseV (l : List UInt8) : Int := if Ar.pgood l = true then narV (Ar.pz l) else 0
def parseE (l : List UInt8) : Int := if Ar.pgood l = true then narE (Ar.pz l) else 12
set_option maxRecDepth 100000 in
set_option maxHeartbeats 2000000 in
theorem parse_any (s : ByteArray) (w : World) (hs : s.size ≤ 1000000) :
    Calls Try.prog 40 #[.string s] w fun e w' => e = .returned (.tuple #[.int .i64 (parseV s.data.toList), .int .i64 (parseE s.data.toList)]) ∧ w = w' := by
  have hsl : s.data.toList.length = s.size := by simp
  have HSL := Lib.hid hsl
  clear hsl
  by_cases hh : 0 < s.size ∧ s.data.toList.headD 0 = 45
  · obtain ⟨h0, h45⟩ := hh
    have hs0 : s.data.toList.headD 0 = s[0] := by
      have h9 : s.data.toList[0]? = some s[0] := by rw [List.getElem?_eq_getElem (by rw [HSL.out]; exact h0)]; rfl
      cases hc : s.data.toList with
      | nil => rw [hc] at h9; simp at h9
      | cons x r => rw [hc] at h9; simpa using h9
    have hb45 : ((s[0].toNat : Int) == 45) = true := by rw [← hs0, h45]; rfl
    have HN := Lib.hid (show Ar.pneg s.data.toList = true from by unfold Ar.pneg; rw [h45]; rfl)
    have HT0 : (s.extract 1 s.size).data.toList = Ar.pbody s.data.toList := by
      rw [Lib.extract_data]; unfold Ar.pbody; rw [if_pos HN.out, List.take_of_length_le (by rw [List.length_drop, HSL.out]; omega)]; simp
    have hts : (s.extract 1 s.size).size = s.size - 1 := by simp
    clear hs0 h45
    go_enter Try.func40, Try.ntmps40
    go_upto_region 4 with fail
    generalize hT : s.extract 1 s.size = T at *
    have HT := Lib.hid HT0
    have hts' : T.size ≤ 1000000 := by omega
    clear HT0 hT hts
    have PL := Lib.hid (plain_any T w (by omega))
    have e0 := ByteArray.toList_eq T
    by_cases hg : Ar.pgood s.data.toList = true
    · skip
      have hpl : Ar.plainL T.data.toList = true := by rw [HT.out]; unfold Ar.pgood at hg; rw [Bool.and_eq_true] at hg; exact hg.1
      have hall : T.data.toList.all Ar.dig = true := by unfold Ar.plainL at hpl; rw [Bool.and_eq_true] at hpl; exact hpl.1
      have HALL := Lib.hid hall
      have HPL := Lib.hid hpl
      have h48 : (T.toList == [48]) = false := by rw [beq_eq_false_iff_ne, e0, HT.out]; unfold Ar.pgood at hg; rw [HN.out] at hg; simp only [Bool.true_and, Bool.and_eq_true, Bool.not_eq_true', beq_eq_false_iff_ne] at hg; exact hg.2
      have HV := Lib.hid (show parseV s.data.toList = narV (Ar.pz s.data.toList) ∧ parseE s.data.toList = narE (Ar.pz s.data.toList) from by unfold parseV parseE; rw [if_pos hg, if_pos hg]; exact ⟨rfl, rfl⟩)
      have HZ := Lib.hid (show Ar.pz s.data.toList = -Ar.decVal T.data.toList from by unfold Ar.pz; rw [HN.out, HT.out]; rfl)
      have HTL := Lib.hid (show T.data.toList.length = T.size by simp)
      clear hg hpl hall e0
      go_wp2_with (go_at_call 49; refine PL.out.mono ?_; rintro e w1 ⟨he, rfl⟩; rw [HPL.out] at he; subst he)
      go_loop [6, 7, 35] (fun z _ i => ∃ k : Nat, k ≤ T.size ∧ i = .int .i64 k ∧ z = .int .u64 (Ar.decVal (T.data.toList.take k)) ∧ Hid (Ar.decVal (T.data.toList.take k) < 18446744073709551616)) (fun _ _ i => T.size - (intOf i).toNat)
      case atStart => exact ⟨0, Nat.zero_le _, rfl, rfl, Lib.hid (by simp [Ar.decVal])⟩
      case round =>
        obtain ⟨k, hk, rfl, rfl, hsz⟩ := hrel
        have hge : 0 ≤ Ar.decVal (T.data.toList.take k) := Ar.decVal_nonneg _ HALL.out k (by rw [HTL.out]; exact hk)
        by_cases hlt : k < T.size
        · have hkl : k < T.data.toList.length := by rw [HTL.out]; exact hlt
          have hdg : 48 ≤ (T[k]'hlt).toNat ∧ (T[k]'hlt).toNat ≤ 57 := of_decide_eq_true (List.all_eq_true.1 HALL.out _ (List.getElem_mem hkl))
          have HDT := Lib.hid (show Ar.decVal (T.data.toList.take (k + 1)) = 10 * Ar.decVal (T.data.toList.take k) + (((T[k]'hlt).toNat : Int) - 48) from Ar.decVal_take _ k hkl)
          have hle := Lib.hid (Ar.decVal_le _ HALL.out (k + 1) (by rw [HTL.out]; omega))
          generalize hP : Ar.decVal (T.data.toList.take k) = P at *
          have HPP := Lib.hid hP
          clear hP
          obtain ⟨p, rfl⟩ := Int.eq_ofNat_of_zero_le hge
          have hp : p < 18446744073709551616 := by have := hsz.out; omega
          clear hkl hge
          have HGE := Lib.hid (show 18446744073709551616 ≤ p * 10 + ((T[k]'hlt).toNat - 48) → (0 : Int) = parseV s.data.toList ∧ (2 : Int) = parseE s.data.toList from by
            intro hge
            have h1 := hle.out; have h2 := HDT.out; have h3 := HZ.out; have h4 := HV.out
            rw [h4.1, h4.2]; unfold narV narE; rw [if_neg (by omega), if_neg (by omega)]; exact ⟨rfl, rfl⟩)
          clear hle
          by_cases hbig : p * 10 < 18446744073709551616
          · have M64 := Lib.hid (mul64_small p 10 w hp (by omega) hbig)
            have A64 := add64 ((p : Int) * 10) (((T[k]'hlt).toNat : Int) - 48) (by omega) (by omega) w
            by_cases hc : p * 10 + ((T[k]'hlt).toNat - 48) < 18446744073709551616
            · have ec : ((p : Int) * 10 + (((T[k]'hlt).toNat : Int) - 48)) / 18446744073709551616 = 0 := by omega
              have es : ((p : Int) * 10 + (((T[k]'hlt).toNat : Int) - 48)) % 18446744073709551616 = (p : Int) * 10 + (((T[k]'hlt).toNat : Int) - 48) := by omega
              rw [ec, es] at A64
              clear ec es
              have HD2 := Lib.hid (show (p : Int) * 10 + (((T[k]'hlt).toNat : Int) - 48) = Ar.decVal (T.data.toList.take (k + 1)) ∧ Ar.decVal (T.data.toList.take (k + 1)) < 18446744073709551616 from ⟨by rw [HDT.out]; omega, by rw [HDT.out]; omega⟩)
              clear HDT HGE
              go_wp2_with (go_at_call 50; refine M64.out.mono ?_; rintro e w1 ⟨rfl, rfl⟩)
              go_round
              case rel => exact ⟨k + 1, by omega, by go_num, by rw [HD2.out.1], Lib.hid HD2.out.2⟩
              case measure => simp [intOf]; omega
            · have ec : ((p : Int) * 10 + (((T[k]'hlt).toNat : Int) - 48)) / 18446744073709551616 = 1 := by omega
              have HV2 := Lib.hid (HGE.out (by omega))
              rw [ec] at A64
              clear ec HDT HGE
              go_wp2_with (go_at_call 50; refine M64.out.mono ?_; rintro e w1 ⟨rfl, rfl⟩)
              go_ret2
              exact ⟨ret_two HV2.out.1 HV2.out.2, rfl⟩
          · have M64 := Lib.hid (mul64_big p 10 w hp (by omega) (by omega))
            have HV2 := Lib.hid (HGE.out (by omega))
            have A64 := Lib.hid (fun lo : Nat => add64 (lo : Int) (((T[k]'hlt).toNat : Int) - 48) (by omega) (by omega) w)
            clear HDT HGE
            go_wp2_with (go_at_call 50; refine M64.out.mono ?_; rintro e w1 ⟨uh, ul, h1, rfl, rfl⟩; have hh1 : ((uh : Int) == 0) = false := beq_eq_false_iff_ne.2 (by omega); have hh2 : ((uh : Int) != 0) = true := bne_iff_ne.2 (by omega); have A65 := A64.out ul)
            go_ret2
            exact ⟨ret_two HV2.out.1 HV2.out.2, rfl⟩
        · have hkl : k = T.size := by omega
          subst hkl
          have h9 : Ar.decVal (T.data.toList.take T.size) = Ar.decVal T.data.toList := by rw [← HTL.out, List.take_length]
          rw [h9] at hge hsz ⊢
          clear h9
          have HV2 := Lib.hid (show narV (if true = true then -Ar.decVal T.data.toList else Ar.decVal T.data.toList) = parseV s.data.toList ∧ narE (if true = true then -Ar.decVal T.data.toList else Ar.decVal T.data.toList) = parseE s.data.toList from by
            rw [HV.out.1, HV.out.2, HZ.out]; exact ⟨rfl, rfl⟩)
          have SG := Lib.hid (signed_any (Ar.decVal T.data.toList) true w hge (by have := hsz.out; omega))
          generalize Ar.decVal T.data.toList = P at *
          go_wp2_with (go_at_call 52; refine SG.out.mono ?_; rintro e w1 ⟨rfl, rfl⟩)
          go_ret2
          exact ⟨ret_two HV2.out.1 HV2.out.2, rfl⟩
    · skip
      have HV := Lib.hid (show (0 : Int) = parseV s.data.toList ∧ (12 : Int) = parseE s.data.toList from by unfold parseV parseE; rw [if_neg hg, if_neg hg]; exact ⟨rfl, rfl⟩)
      by_cases hpl : Ar.plainL T.data.toList = true
      · have h48 : (T.toList == [48]) = true := by
          rw [beq_iff_eq, e0, HT.out]
          unfold Ar.pgood at hg; rw [HT.out] at hpl; rw [HN.out, hpl, Bool.true_and, Bool.true_and, Bool.not_eq_true', beq_eq_false_iff_ne] at hg
          exact Classical.byContradiction fun h => hg h
        have HPL := Lib.hid hpl
        clear hg hpl e0
        go_wp2_with (go_at_call 49; refine PL.out.mono ?_; rintro e w1 ⟨he, rfl⟩; rw [HPL.out] at he; subst he)
        all_goals (go_ret2; exact ⟨ret_two HV.out.1 HV.out.2, rfl⟩)
      · have HPL := Lib.hid (Bool.eq_false_iff.2 hpl)
        clear hg hpl e0
        go_wp2_with (go_at_call 49; refine PL.out.mono ?_; rintro e w1 ⟨he, rfl⟩; rw [HPL.out] at he; subst he)
        all_goals (go_ret2; exact ⟨ret_two HV.out.1 HV.out.2, rfl⟩)
  · have HN := Lib.hid (show Ar.pneg s.data.toList = false from by
      unfold Ar.pneg; rw [beq_eq_false_iff_ne]; intro h; apply hh
      refine ⟨?_, h⟩
      rw [← HSL.out]
      cases hc : s.data.toList with
      | nil => rw [hc] at h; simp at h
      | cons x r => simp)
    have HT := Lib.hid (show s.data.toList = Ar.pbody s.data.toList from by unfold Ar.pbody; rw [HN.out]; rfl)
    by_cases h0 : 0 < s.size
    · have hs0 : s.data.toList.headD 0 = s[0] := by
        have h9 : s.data.toList[0]? = some s[0] := by rw [List.getElem?_eq_getElem (by rw [HSL.out]; exact h0)]; rfl
        cases hc : s.data.toList with
        | nil => rw [hc] at h9; simp at h9
        | cons x r => rw [hc] at h9; simpa using h9
      have hb45 : ((s[0].toNat : Int) == 45) = false := by
        rw [beq_eq_false_iff_ne, ← hs0]; intro h
        have h2 := HN.out; unfold Ar.pneg at h2; rw [beq_eq_false_iff_ne] at h2
        exact h2 (UInt8.toNat_inj.1 (by simpa using (by omega : (s.data.toList.headD 0).toNat = 45)))
      clear hs0 hh
      go_enter Try.func40, Try.ntmps40
      go_upto_region 4 with fail
      have PL := Lib.hid (plain_any s w (by omega))
      have e0 := ByteArray.toList_eq s
      by_cases hg : Ar.pgood s.data.toList = true
      · skip
        have hpl : Ar.plainL s.data.toList = true := by rw [HT.out]; unfold Ar.pgood at hg; rw [Bool.and_eq_true] at hg; exact hg.1
        have hall : s.data.toList.all Ar.dig = true := by unfold Ar.plainL at hpl; rw [Bool.and_eq_true] at hpl; exact hpl.1
        have HALL := Lib.hid hall
        have HPL := Lib.hid hpl
        have h48 := trivial
        have HV := Lib.hid (show parseV s.data.toList = narV (Ar.pz s.data.toList) ∧ parseE s.data.toList = narE (Ar.pz s.data.toList) from by unfold parseV parseE; rw [if_pos hg, if_pos hg]; exact ⟨rfl, rfl⟩)
        have HZ := Lib.hid (show Ar.pz s.data.toList = Ar.decVal s.data.toList from by unfold Ar.pz; rw [HN.out, if_neg (by simp), ← HT.out])
        have HTL := Lib.hid (show s.data.toList.length = s.size by simp)
        clear hg hpl hall e0
        go_wp2_with (go_at_call 49; refine PL.out.mono ?_; rintro e w1 ⟨he, rfl⟩; rw [HPL.out] at he; subst he)
        go_loop [6, 7, 35] (fun z _ i => ∃ k : Nat, k ≤ s.size ∧ i = .int .i64 k ∧ z = .int .u64 (Ar.decVal (s.data.toList.take k)) ∧ Hid (Ar.decVal (s.data.toList.take k) < 18446744073709551616)) (fun _ _ i => s.size - (intOf i).toNat)
        case atStart => exact ⟨0, Nat.zero_le _, rfl, rfl, Lib.hid (by simp [Ar.decVal])⟩
        case round =>
          obtain ⟨k, hk, rfl, rfl, hsz⟩ := hrel
          have hge : 0 ≤ Ar.decVal (s.data.toList.take k) := Ar.decVal_nonneg _ HALL.out k (by rw [HTL.out]; exact hk)
          by_cases hlt : k < s.size
          · have hkl : k < s.data.toList.length := by rw [HTL.out]; exact hlt
            have hdg : 48 ≤ (s[k]'hlt).toNat ∧ (s[k]'hlt).toNat ≤ 57 := of_decide_eq_true (List.all_eq_true.1 HALL.out _ (List.getElem_mem hkl))
            have HDT := Lib.hid (show Ar.decVal (s.data.toList.take (k + 1)) = 10 * Ar.decVal (s.data.toList.take k) + (((s[k]'hlt).toNat : Int) - 48) from Ar.decVal_take _ k hkl)
            have hle := Lib.hid (Ar.decVal_le _ HALL.out (k + 1) (by rw [HTL.out]; omega))
            generalize hP : Ar.decVal (s.data.toList.take k) = P at *
            have HPP := Lib.hid hP
            clear hP
            obtain ⟨p, rfl⟩ := Int.eq_ofNat_of_zero_le hge
            have hp : p < 18446744073709551616 := by have := hsz.out; omega
            clear hkl hge
            have HGE := Lib.hid (show 18446744073709551616 ≤ p * 10 + ((s[k]'hlt).toNat - 48) → (0 : Int) = parseV s.data.toList ∧ (2 : Int) = parseE s.data.toList from by
              intro hge
              have h1 := hle.out; have h2 := HDT.out; have h3 := HZ.out; have h4 := HV.out
              rw [h4.1, h4.2]; unfold narV narE; rw [if_neg (by omega), if_neg (by omega)]; exact ⟨rfl, rfl⟩)
            clear hle
            by_cases hbig : p * 10 < 18446744073709551616
            · have M64 := Lib.hid (mul64_small p 10 w hp (by omega) hbig)
              have A64 := add64 ((p : Int) * 10) (((s[k]'hlt).toNat : Int) - 48) (by omega) (by omega) w
              by_cases hc : p * 10 + ((s[k]'hlt).toNat - 48) < 18446744073709551616
              · have ec : ((p : Int) * 10 + (((s[k]'hlt).toNat : Int) - 48)) / 18446744073709551616 = 0 := by omega
                have es : ((p : Int) * 10 + (((s[k]'hlt).toNat : Int) - 48)) % 18446744073709551616 = (p : Int) * 10 + (((s[k]'hlt).toNat : Int) - 48) := by omega
                rw [ec, es] at A64
                clear ec es
                have HD2 := Lib.hid (show (p : Int) * 10 + (((s[k]'hlt).toNat : Int) - 48) = Ar.decVal (s.data.toList.take (k + 1)) ∧ Ar.decVal (s.data.toList.take (k + 1)) < 18446744073709551616 from ⟨by rw [HDT.out]; omega, by rw [HDT.out]; omega⟩)
                clear HDT HGE
                go_wp2_with (go_at_call 50; refine M64.out.mono ?_; rintro e w1 ⟨rfl, rfl⟩)
                go_round
                case rel => exact ⟨k + 1, by omega, by go_num, by rw [HD2.out.1], Lib.hid HD2.out.2⟩
                case measure => simp [intOf]; omega
              · have ec : ((p : Int) * 10 + (((s[k]'hlt).toNat : Int) - 48)) / 18446744073709551616 = 1 := by omega
                have HV2 := Lib.hid (HGE.out (by omega))
                rw [ec] at A64
                clear ec HDT HGE
                go_wp2_with (go_at_call 50; refine M64.out.mono ?_; rintro e w1 ⟨rfl, rfl⟩)
                go_ret2
                exact ⟨ret_two HV2.out.1 HV2.out.2, rfl⟩
            · have M64 := Lib.hid (mul64_big p 10 w hp (by omega) (by omega))
              have HV2 := Lib.hid (HGE.out (by omega))
              have A64 := Lib.hid (fun lo : Nat => add64 (lo : Int) (((s[k]'hlt).toNat : Int) - 48) (by omega) (by omega) w)
              clear HDT HGE
              go_wp2_with (go_at_call 50; refine M64.out.mono ?_; rintro e w1 ⟨uh, ul, h1, rfl, rfl⟩; have hh1 : ((uh : Int) == 0) = false := beq_eq_false_iff_ne.2 (by omega); have hh2 : ((uh : Int) != 0) = true := bne_iff_ne.2 (by omega); have A65 := A64.out ul)
              go_ret2
              exact ⟨ret_two HV2.out.1 HV2.out.2, rfl⟩
          · have hkl : k = s.size := by omega
            subst hkl
            have h9 : Ar.decVal (s.data.toList.take s.size) = Ar.decVal s.data.toList := by rw [← HTL.out, List.take_length]
            rw [h9] at hge hsz ⊢
            clear h9
            have HV2 := Lib.hid (show narV (if false = true then -Ar.decVal s.data.toList else Ar.decVal s.data.toList) = parseV s.data.toList ∧ narE (if false = true then -Ar.decVal s.data.toList else Ar.decVal s.data.toList) = parseE s.data.toList from by
              rw [HV.out.1, HV.out.2, HZ.out]; exact ⟨rfl, rfl⟩)
            have SG := Lib.hid (signed_any (Ar.decVal s.data.toList) false w hge (by have := hsz.out; omega))
            generalize Ar.decVal s.data.toList = P at *
            go_wp2_with (go_at_call 52; refine SG.out.mono ?_; rintro e w1 ⟨rfl, rfl⟩)
            go_ret2
            exact ⟨ret_two HV2.out.1 HV2.out.2, rfl⟩
      · skip
        have HV := Lib.hid (show (0 : Int) = parseV s.data.toList ∧ (12 : Int) = parseE s.data.toList from by unfold parseV parseE; rw [if_neg hg, if_neg hg]; exact ⟨rfl, rfl⟩)
        have HPL := Lib.hid (show Ar.plainL s.data.toList = false from by unfold Ar.pgood at hg; rw [HN.out, Bool.false_and] at hg; rw [HT.out]; simpa using hg)
        clear hg e0
        go_wp2_with (go_at_call 49; refine PL.out.mono ?_; rintro e w1 ⟨he, rfl⟩; rw [HPL.out] at he; subst he)
        all_goals (go_ret2; exact ⟨ret_two HV.out.1 HV.out.2, rfl⟩)
    · have hnil : s.data.toList = [] := List.eq_nil_of_length_eq_zero (by rw [HSL.out]; omega)
      have hg : ¬ Ar.pgood s.data.toList = true := by rw [hnil]; decide
      have hz : s.size = 0 := by omega
      have PL := Lib.hid (plain_any s w (by omega))
      have e0 := ByteArray.toList_eq s
      clear hh hnil
      go_enter Try.func40, Try.ntmps40
      go_upto_region 4 with fail
      have HV := Lib.hid (show (0 : Int) = parseV s.data.toList ∧ (12 : Int) = parseE s.data.toList from by unfold parseV parseE; rw [if_neg hg, if_neg hg]; exact ⟨rfl, rfl⟩)
      have HPL := Lib.hid (show Ar.plainL s.data.toList = false from by unfold Ar.pgood at hg; rw [HN.out, Bool.false_and] at hg; rw [HT.out]; simpa using hg)
      clear hg e0
      go_wp2_with (go_at_call 49; refine PL.out.mono ?_; rintro e w1 ⟨he, rfl⟩; rw [HPL.out] at he; subst he)
      all_goals (go_ret2; exact ⟨ret_two HV.out.1 HV.out.2, rfl⟩)
end Go.Proofs.Ytgdfjcmjhagmoaa

/- Contracts of package schema: names by the document; columns. -/
import Derived.Test.YtacangeamdcgdaaNam
namespace Go.Proofs.Ytacangeamdcgdaa
open Go.ChangeShapes Go.WideShapes Go.ChangeAt Go.RowKit
set_option maxRecDepth 100000 in
set_option maxHeartbeats 8000000 in
theorem refnamed_any (s : ByteArray) (w : World) (hs : s.size ≤ 9223372036854775807) :
    Calls Try.prog 66/-f-/ #[.string s] w fun e w' => e = .returned (.bool (namB s)) ∧ w = w' := by
  obtain ⟨r, hr⟩ : ∃ r, r = namB s := ⟨_, rfl⟩
  rw [← hr]
  have HR := Lib.hid hr
  clear hr
  by_cases h0 : s.size = 0
  · have h1 : s = ⟨#[]⟩ := ByteArray.ext (Array.eq_empty_of_size_eq_zero h0)
    subst h1
    have HF := Lib.hid (show r = false from by rw [HR.out]; rfl)
    clear HR
    go_enter Try.func66, Try.ntmps66
    go_wp2
    go_ret
    exact ⟨ret_bool HF.out.symm, rfl⟩
  by_cases h16 : 16 < s.size
  · have HF := Lib.hid (show r = false from by rw [HR.out]; unfold namB; simp [show ¬ s.size ≤ 16 by omega])
    clear HR
    have h1 : ¬ (s.size : Int) < 1 := by omega
    go_enter Try.func66, Try.ntmps66
    go_wp2
    go_ret
    exact ⟨ret_bool HF.out.symm, rfl⟩
  have hp : 0 < s.size := by omega
  have h1 : ¬ (s.size : Int) < 1 := by omega
  have HH := Lib.hid (head_at s hp)
  have HB := Lib.hid (show r = (letB s[0] && s.data.toList.all okB) from by rw [HR.out]; unfold namB; rw [HH.out]; simp [show 1 ≤ s.size by omega, show s.size ≤ 16 by omega])
  clear HR
  go_enter Try.func66, Try.ntmps66
  go_wp2
  go_loop [3, 4, 5] (fun i _ _ => ∃ k : Nat, k ≤ s.size ∧ i = .int .i64 k ∧ Hid ((s.data.toList.take k).all okB = true ∧ (0 < k → letB s[0] = true))) (fun i _ _ => s.size - (intOf i).toNat)
  case atStart => exact ⟨0, Nat.zero_le _, rfl, Lib.hid ⟨rfl, fun h => by omega⟩⟩
  case round =>
    obtain ⟨k, hk, rfl, hall⟩ := hrel
    by_cases hlt : k < s.size
    · have HS := Lib.hid (all_snoc s k hlt)
      have HN := Lib.hid (all_no s k hlt)
      have hc := s[k].toNat_lt
      have hw : (s[k].toNat : Int) < 256 := by omega
      have HK0 := Lib.hid (show k = 0 → s[0] = s[k] from by rintro rfl; rfl)
      by_cases hl : 97 ≤ s[k].toNat ∧ s[k].toNat ≤ 122
      · have HL := Lib.hid (show letB s[k] = true from by unfold letB; simp [hl.1, hl.2])
        have HO := Lib.hid (show okB s[k] = true from by unfold okB; rw [HL.out]; rfl)
        have l1 := hl.1
        have l2 := hl.2
        clear hl
        go_wp2
        go_round
        case rel => exact ⟨k + 1, by omega, by go_num, Lib.hid ⟨by rw [HS.out, hall.out.1, HO.out]; rfl, fun _ => by
          by_cases h : k = 0
          · rw [HK0.out h]; exact HL.out
          · exact hall.out.2 (by omega)⟩⟩
        case measure => simp [intOf]; omega
      · have HL := Lib.hid (show letB s[k] = false from by unfold letB; simp; omega)
        by_cases hk0 : k = 0
        · have HF := Lib.hid (show r = false from by rw [HB.out, HK0.out hk0, HL.out]; rfl)
          have e0 : ((k : Int) == 0) = true := by rw [hk0]; rfl
          by_cases l1 : 97 ≤ s[k].toNat
          · have l2 : decide ((s[k].toNat : Int) ≤ 122) = false := decide_eq_false (fun h => hl ⟨l1, by omega⟩)
            clear hl hk0
            go_wp2
            go_ret
            exact ⟨ret_bool HF.out.symm, rfl⟩
          · have l2 : decide ((97 : Int) ≤ s[k].toNat) = false := decide_eq_false (by omega)
            clear hl hk0 l1
            go_wp2
            go_ret
            exact ⟨ret_bool HF.out.symm, rfl⟩
        · have e0 : ((k : Int) == 0) = false := beq_eq_false_iff_ne.2 (by omega)
          have hkp : 0 < k := by omega
          clear hk0
          by_cases h95 : s[k].toNat = 95
          · have HO := Lib.hid (show okB s[k] = true from by unfold okB; rw [h95]; simp)
            have e1 : ((s[k].toNat : Int) == 95) = true := by rw [h95]; rfl
            have e2 : ((s[k].toNat : Int) != 95) = false := by rw [h95]; rfl
            have l1 : decide ((97 : Int) ≤ s[k].toNat) = false := decide_eq_false (by omega)
            have l3 : decide ((s[k].toNat : Int) ≤ 57) = false := decide_eq_false (by omega)
            have l4 : 48 ≤ s[k].toNat := by omega
            clear h95 hl
            go_wp2
            go_round
            case rel => exact ⟨k + 1, by omega, by go_num, Lib.hid ⟨by rw [HS.out, hall.out.1, HO.out]; rfl, fun _ => hall.out.2 hkp⟩⟩
            case measure => simp [intOf]; omega
          · have e1 : ((s[k].toNat : Int) == 95) = false := beq_eq_false_iff_ne.2 (by omega)
            have e2 : ((s[k].toNat : Int) != 95) = true := by simp [bne, e1]
            by_cases hd : 48 ≤ s[k].toNat ∧ s[k].toNat ≤ 57
            · have HO := Lib.hid (show okB s[k] = true from by unfold okB; simp [hd.1, hd.2])
              have l1 : decide ((97 : Int) ≤ s[k].toNat) = false := decide_eq_false (by omega)
              have d1 := hd.1
              have d2 := hd.2
              clear hd hl h95
              go_wp2
              go_round
              case rel => exact ⟨k + 1, by omega, by go_num, Lib.hid ⟨by rw [HS.out, hall.out.1, HO.out]; rfl, fun _ => hall.out.2 hkp⟩⟩
              case measure => simp [intOf]; omega
            · have HO := Lib.hid (show okB s[k] = false from by unfold okB; rw [HL.out]; simp; omega)
              have HF := Lib.hid (show r = false from by rw [HB.out, HN.out HO.out]; simp)
              clear h95
              by_cases l1 : 97 ≤ s[k].toNat
              · have l2 : decide ((s[k].toNat : Int) ≤ 122) = false := decide_eq_false (fun h => hl ⟨l1, by omega⟩)
                have l3 : decide ((s[k].toNat : Int) ≤ 57) = false := decide_eq_false (by omega)
                have l4 : 48 ≤ s[k].toNat := by omega
                clear hl hd
                go_wp2
                go_ret
                exact ⟨ret_bool HF.out.symm, rfl⟩
              · have l2 : decide ((97 : Int) ≤ s[k].toNat) = false := decide_eq_false (by omega)
                clear l1
                by_cases l4 : 48 ≤ s[k].toNat
                · have l3 : decide ((s[k].toNat : Int) ≤ 57) = false := decide_eq_false (fun h => hd ⟨l4, by omega⟩)
                  clear hl hd
                  go_wp2
                  go_ret
                  exact ⟨ret_bool HF.out.symm, rfl⟩
                · have l5 : decide ((48 : Int) ≤ s[k].toNat) = false := decide_eq_false (by omega)
                  clear hl hd l4
                  go_wp2
                  go_ret
                  exact ⟨ret_bool HF.out.symm, rfl⟩
    · have hkl : k = s.size := by omega
      have HF := Lib.hid (show r = true from by
        rw [HB.out, hall.out.2 (by omega)]
        have := hall.out.1
        rw [hkl, List.take_of_length_le (by simp)] at this
        rw [this]; rfl)
      subst hkl
      go_wp2
      go_ret
      exact ⟨ret_bool HF.out.symm, rfl⟩
end Go.Proofs.Ytacangeamdcgdaa

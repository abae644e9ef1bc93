/- Contracts of package schema: whether a text is a name; and the document's answer. -/
import Derived.Test.YtacangeamdcgdaaKit
import Derived.BigQuiet
import Derived.Deep.QuietTactic
import Derived.Deep.DeepCutAuto
namespace Go.Proofs.Ytacangeamdcgdaa
open Go.ChangeShapes Go.WideShapes Go.ChangeAt Go.RowKit
def letB (c : UInt8) : Bool := decide (97 ≤ c.toNat) && decide (c.toNat ≤ 122)
def okB (c : UInt8) : Bool := letB c || c.toNat == 95 || (decide (48 ≤ c.toNat) && decide (c.toNat ≤ 57))
/-- Whether a text is a name. -/
def namB (s : ByteArray) : Bool := decide (1 ≤ s.size) && decide (s.size ≤ 16) && letB (s.data.toList.headD 0) && s.data.toList.all okB
set_option maxRecDepth 100000 in
theorem letter_any (c : UInt8) (w : World) : Calls Try.prog 98/-f-/ #[.int .u8 c.toNat] w fun e w' => e = .returned (.bool (letB c)) ∧ w = w' := by
  have hc := c.toNat_lt
  have hw : (c.toNat : Int) < 256 := by omega
  by_cases h1 : 97 ≤ c.toNat
  · by_cases h2 : c.toNat ≤ 122
    · go_enter Try.func98, Try.ntmps98
      go_wp2
      go_ret
      exact ⟨ret_bool (by simp [letB, h1, h2]; try omega), rfl⟩
    · go_enter Try.func98, Try.ntmps98
      go_wp2
      go_ret
      exact ⟨ret_bool (by simp [letB, h1, h2]; try omega), rfl⟩
  · go_enter Try.func98, Try.ntmps98
    go_wp2
    go_ret
    exact ⟨ret_bool (by simp [letB, h1]; try omega), rfl⟩
theorem head_at (s : ByteArray) (h : 0 < s.size) : s.data.toList.headD 0 = s[0] := by
  have h9 : s.data.toList[0]? = some s[0] := by rw [List.getElem?_eq_getElem (by simpa using h)]; rfl
  cases hc : s.data.toList with
  | nil => rw [hc] at h9; simp at h9
  | cons x r => rw [hc] at h9; simpa using h9
theorem all_snoc (s : ByteArray) (k : Nat) (h : k < s.size) : (s.data.toList.take (k + 1)).all okB = ((s.data.toList.take k).all okB && okB s[k]) := by
  rw [List.take_succ_eq_append_getElem (by simpa using h), List.all_append]
  simp; rfl
theorem all_no (s : ByteArray) (k : Nat) (h : k < s.size) (hk : okB s[k] = false) : s.data.toList.all okB = false := by
  rw [List.all_eq_false]
  exact ⟨s[k], List.getElem_mem (by simpa using h), by simp [hk]⟩
theorem not_empty (s : ByteArray) (h : s.size ≠ 0) : (s.toList == []) = false := beq_eq_false_iff_ne.2 (by
  rw [ByteArray.toList_eq]; intro h2
  apply h
  have : s.data.toList.length = 0 := by rw [h2]; rfl
  simpa using this)
set_option maxRecDepth 100000 in
set_option maxHeartbeats 4000000 in
theorem named_any (s : ByteArray) (w : World) (hs : s.size ≤ 9223372036854775807) :
    Calls Try.prog 82/-f-/ #[.string s] w fun e w' => e = .returned (.bool (namB s)) ∧ w = w' := by
  obtain ⟨r, hr⟩ : ∃ r, r = namB s := ⟨_, rfl⟩
  rw [← hr]
  have HR := Lib.hid hr
  clear hr
  by_cases h0 : s.size = 0
  · have h1 : s = ⟨#[]⟩ := ByteArray.ext (Array.eq_empty_of_size_eq_zero h0)
    subst h1
    have HF := Lib.hid (show r = false from by rw [HR.out]; rfl)
    clear HR
    go_enter Try.func82, Try.ntmps82
    go_wp2
    go_ret
    exact ⟨ret_bool HF.out.symm, rfl⟩
  have hse := not_empty s h0
  by_cases h16 : 16 < s.size
  · have HF := Lib.hid (show r = false from by rw [HR.out]; unfold namB; simp [show ¬ s.size ≤ 16 by omega])
    clear HR
    go_enter Try.func82, Try.ntmps82
    go_wp2
    go_ret
    exact ⟨ret_bool HF.out.symm, rfl⟩
  have hp : 0 < s.size := by omega
  have hp2 : (0 : Int) < s.size := by omega
  have HH := Lib.hid (head_at s hp)
  have L := Lib.hid (letter_any s[0] w)
  obtain ⟨q, hq⟩ : ∃ q, q = letB s[0] := ⟨_, rfl⟩
  rw [← hq] at L
  have HQ := Lib.hid hq
  clear hq
  cases q with
  | false =>
    have HF := Lib.hid (show r = false from by rw [HR.out]; unfold namB; rw [HH.out, ← HQ.out]; simp)
    go_enter Try.func82, Try.ntmps82
    go_wp2_with (go_at_call 98/-f-/; refine L.out.mono ?_; rintro e w1 ⟨rfl, rfl⟩)
    go_ret
    exact ⟨ret_bool HF.out.symm, rfl⟩
  | true =>
    have HRA := Lib.hid (show r = s.data.toList.all okB from by rw [HR.out]; unfold namB; rw [HH.out, ← HQ.out]; simp [show 1 ≤ s.size by omega, show s.size ≤ 16 by omega])
    clear HR
    go_enter Try.func82, Try.ntmps82
    go_wp2_with (go_at_call 98/-f-/; refine L.out.mono ?_; rintro e w1 ⟨rfl, rfl⟩)
    go_loop [3, 4, 20] (fun _ _ i => ∃ k : Nat, k ≤ s.size ∧ i = .int .i64 k ∧ Hid ((s.data.toList.take k).all okB = true)) (fun _ _ i => s.size - (intOf i).toNat)
    case atStart => exact ⟨0, Nat.zero_le _, rfl, Lib.hid rfl⟩
    case round =>
      obtain ⟨k, hk, rfl, hall⟩ := hrel
      by_cases hlt : k < s.size
      · have HS := Lib.hid (all_snoc s k hlt)
        have HN := Lib.hid (all_no s k hlt)
        have hc := s[k].toNat_lt
        have hw : (s[k].toNat : Int) < 256 := by omega
        have L2 := Lib.hid (letter_any s[k] w)
        obtain ⟨q, hq⟩ : ∃ q, q = letB s[k] := ⟨_, rfl⟩
        rw [← hq] at L2
        have HQ2 := Lib.hid hq
        clear hq L
        cases q with
        | true =>
          have HO := Lib.hid (show okB s[k] = true from by unfold okB; rw [← HQ2.out]; rfl)
          go_wp2_with (go_at_call 98/-f-/; refine L2.out.mono ?_; rintro e w1 ⟨rfl, rfl⟩)
          go_round
          case rel => exact ⟨k + 1, by omega, by go_num, Lib.hid (by rw [HS.out, hall.out, HO.out]; rfl)⟩
          case measure => simp [intOf]; omega
        | false =>
          by_cases h95 : s[k].toNat = 95
          · have HO := Lib.hid (show okB s[k] = true from by unfold okB; rw [h95]; simp)
            have e1 : ((s[k].toNat : Int) == 95) = true := by rw [h95]; rfl
            have e2 : ((s[k].toNat : Int) != 95) = false := by rw [h95]; rfl
            clear h95
            go_wp2_with (go_at_call 98/-f-/; refine L2.out.mono ?_; rintro e w1 ⟨rfl, rfl⟩)
            go_round
            case rel => exact ⟨k + 1, by omega, by go_num, Lib.hid (by rw [HS.out, hall.out, HO.out]; rfl)⟩
            case measure => simp [intOf]; omega
          · have e1 : ((s[k].toNat : Int) == 95) = false := beq_eq_false_iff_ne.2 (by omega)
            have e2 : ((s[k].toNat : Int) != 95) = true := by simp [bne, e1]
            by_cases h48 : s[k].toNat < 48
            · have HO := Lib.hid (show okB s[k] = false from by unfold okB; rw [← HQ2.out]; simp; omega)
              have HF := Lib.hid (HRA.out.trans (HN.out HO.out))
              clear h95
              go_wp2_with (go_at_call 98/-f-/; refine L2.out.mono ?_; rintro e w1 ⟨rfl, rfl⟩)
              go_ret
              exact ⟨ret_bool HF.out.symm, rfl⟩
            · by_cases h57 : 57 < s[k].toNat
              · have HO := Lib.hid (show okB s[k] = false from by unfold okB; rw [← HQ2.out]; simp; omega)
                have HF := Lib.hid (HRA.out.trans (HN.out HO.out))
                clear h95
                go_wp2_with (go_at_call 98/-f-/; refine L2.out.mono ?_; rintro e w1 ⟨rfl, rfl⟩)
                go_ret
                exact ⟨ret_bool HF.out.symm, rfl⟩
              · have HO := Lib.hid (show okB s[k] = true from by unfold okB; rw [← HQ2.out]; simp; omega)
                clear h95
                go_wp2_with (go_at_call 98/-f-/; refine L2.out.mono ?_; rintro e w1 ⟨rfl, rfl⟩)
                go_round
                case rel => exact ⟨k + 1, by omega, by go_num, Lib.hid (by rw [HS.out, hall.out, HO.out]; rfl)⟩
                case measure => simp [intOf]; omega
      · have hkl : k = s.size := by omega
        have HF := Lib.hid (show r = true from by
          rw [HRA.out]
          have := hall.out
          rw [hkl, List.take_of_length_le (by simp)] at this
          exact this)
        subst hkl
        clear L
        go_wp2
        go_ret
        exact ⟨ret_bool HF.out.symm, rfl⟩
end Go.Proofs.Ytacangeamdcgdaa

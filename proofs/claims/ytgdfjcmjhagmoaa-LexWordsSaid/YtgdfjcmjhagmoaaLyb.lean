/- The document's longest sign. -/
import Derived.Test.YtgdfjcmjhagmoaaLya
namespace Go.Proofs.Ytgdfjcmjhagmoaa
open Go.ChangeShapes Go.WideShapes Go.ChangeAt Go.RowKit Go.Deep
/-- The signs' text. -/
def sgB : ByteArray := ⟨#[40, 41, 123, 125, 91, 93, 44, 59, 58, 46, 43, 45, 42, 47, 37, 60, 61, 62]⟩
theorem sg_at (k : Nat) (hk : k < 18) : ∀ h, (sgB[k]'h) = signs.getD k 0 := by
  intro h
  match k, hk with
  | 0, _ => rfl
  | 1, _ => rfl
  | 2, _ => rfl
  | 3, _ => rfl
  | 4, _ => rfl
  | 5, _ => rfl
  | 6, _ => rfl
  | 7, _ => rfl
  | 8, _ => rfl
  | 9, _ => rfl
  | 10, _ => rfl
  | 11, _ => rfl
  | 12, _ => rfl
  | 13, _ => rfl
  | 14, _ => rfl
  | 15, _ => rfl
  | 16, _ => rfl
  | 17, _ => rfl
  | k + 18, hk => omega
theorem sg_mem (c : UInt8) (k : Nat) (hk : k < 18) (h : c = signs.getD k 0) : signs.contains c = true := by
  rw [List.contains_iff_mem, h]
  rw [List.getD_eq_getElem?_getD, List.getElem?_eq_getElem (show k < signs.length from hk)]
  exact List.getElem_mem _
theorem sg_no (c : UInt8) (h : ∀ j, j < 18 → signs.getD j 0 ≠ c) : ¬ signs.contains c = true := by
  intro h2
  rw [List.contains_iff_mem] at h2
  obtain ⟨j, hj, e⟩ := List.mem_iff_getElem.1 h2
  refine h j hj ?_
  rw [List.getD_eq_getElem?_getD, List.getElem?_eq_getElem hj]
  exact e
theorem byte_eqq (a b : UInt8) : ((a.toNat : Int) == (b.toNat : Int)) = (a == b) := by
  rw [Bool.eq_iff_iff, beq_iff_eq, beq_iff_eq]
  constructor
  · intro h; exact UInt8.toNat_inj.1 (by omega)
  · rintro rfl; rfl
theorem ext_take (s : ByteArray) (k : Nat) : s.extract 0 k = ⟨(s.data.toList.take k).toArray⟩ := by
  apply ByteArray.ext
  apply Array.toList_inj.1
  simp
set_option maxRecDepth 100000 in
set_option maxHeartbeats 8000000 in
theorem refsign_any (s : ByteArray) (w : World) (hs : s.size ≤ 1000000) (hs0 : 0 < s.size) :
    Calls Try.prog 25/-f-/ #[.string s] w fun e w' => e = .returned (.string ⟨(sgnT s.data.toList).toArray⟩) ∧ Below w.heap.size w w' := by
  obtain ⟨R, hR⟩ : ∃ R, R = (⟨(sgnT s.data.toList).toArray⟩ : ByteArray) := ⟨_, rfl⟩
  rw [← hR]
  have HR := Lib.hid hR
  clear hR
  have hd := drop_at s 0 hs0
  rw [List.drop_zero, Nat.zero_add] at hd
  obtain ⟨c, hc⟩ : ∃ c, c = s[0] := ⟨_, rfl⟩
  rw [← hc] at hd
  have e60 : ((s[0].toNat : Int) == 60) = (c == 60) := by rw [hc]; exact byte_eq _ 60 (by decide)
  have e33 : ((s[0].toNat : Int) == 33) = (c == 33) := by rw [hc]; exact byte_eq _ 33 (by decide)
  have e62 : ((s[0].toNat : Int) == 62) = (c == 62) := by rw [hc]; exact byte_eq _ 62 (by decide)
  have HC := Lib.hid hc
  clear hc
  -- the sign of two bytes
  by_cases h2 : two s.data.toList = true
  · have HX := Lib.hid (show R = s.extract 0 2 from by rw [HR.out, ext_take]; unfold sgnT; rw [if_pos h2])
    obtain ⟨h1s, e61, hor⟩ : ∃ (h : 1 < s.size), ((s[1].toNat : Int) == 61) = true ∧ (c = 60 ∨ c = 33 ∨ c = 62) := by
      by_cases h1 : 1 < s.size
      · have hd1 := drop_at s 1 h1
        rw [hd, hd1] at h2
        have h3 : (s[1] == 61 && (c == 60 || c == 33 || c == 62)) = true := h2
        refine ⟨h1, ?_, ?_⟩
        · rw [show ((61 : Int)) = ((61 : Nat) : Int) from rfl, byte_eq _ 61 (by decide)]
          simp at h3 ⊢
          exact h3.1
        · simp at h3
          rcases h3.2 with (h | h) | h
          · exact .inl h
          · exact .inr (.inl h)
          · exact .inr (.inr h)
      · have : s.data.toList.drop 1 = [] := List.drop_eq_nil_of_le (by simp; omega)
        rw [hd, this] at h2
        cases h2
    have hi1 : (1 : Int) < (s.size : Int) := by omega
    have hi2 : (2 : Int) ≤ (s.size : Int) := by omega
    clear h2 hd HC HR
    rcases hor with rfl | rfl | rfl
    all_goals
      simp only [show ((60 : UInt8) == 60) = true from rfl, show ((60 : UInt8) == 33) = false from rfl, show ((60 : UInt8) == 62) = false from rfl, show ((33 : UInt8) == 60) = false from rfl, show ((33 : UInt8) == 33) = true from rfl, show ((33 : UInt8) == 62) = false from rfl, show ((62 : UInt8) == 60) = false from rfl, show ((62 : UInt8) == 33) = false from rfl, show ((62 : UInt8) == 62) = true from rfl] at e60 e33 e62
      go_enter Try.func25, Try.ntmps25
      go_wp2
      go_ret
      exact ⟨by rw [HX.out]; rfl, Below.refl _ _⟩
  · have HX := Lib.hid (show R = ⟨(if signs.contains c then [c] else []).toArray⟩ from by
      rw [HR.out]; unfold sgnT; rw [if_neg h2, hd]; rfl)
    have HZ := Lib.hid (show s.extract 0 1 = ⟨#[c]⟩ from by rw [ext_take, hd]; rfl)
    have hbb : (∃ h : ¬ 1 < s.size, True) ∨ (∃ h : 1 < s.size, ((s[1].toNat : Int) == 61) = false) ∨ (∃ h : 1 < s.size, ((s[1].toNat : Int) == 61) = true ∧ c ≠ 60 ∧ c ≠ 33 ∧ c ≠ 62) := by
      by_cases h1 : 1 < s.size
      · have hd1 := drop_at s 1 h1
        rw [hd, hd1] at h2
        have h3 : ¬ (s[1] == 61 && (c == 60 || c == 33 || c == 62)) = true := h2
        have h4 : ((s[1].toNat : Int) == 61) = (s[1] == 61) := byte_eq _ 61 (by decide)
        cases h5 : (s[1] == 61) with
        | false => exact .inr (.inl ⟨h1, by rw [h4, h5]⟩)
        | true =>
          rw [h5] at h3
          simp at h3
          exact .inr (.inr ⟨h1, by rw [h4, h5], h3.1.1, h3.1.2, h3.2⟩)
      · exact .inl ⟨h1, trivial⟩
    have hs1 : (1 : Int) ≤ (s.size : Int) := by omega
    have hs00 : (0 : Int) < (s.size : Int) := by omega
    have hsp : decide ((0 : Int) < (s.size : Int)) = true := decide_eq_true hs00
    clear h2 hd HR
    rcases hbb with ⟨h1, _⟩ | ⟨h1, e61⟩ | ⟨h1, e61, n60, n33, n62⟩
    · have g1 : ¬ (1 : Int) < (s.size : Int) := by omega
      clear e60 e33 e62
      go_enter Try.func25, Try.ntmps25
      go_wp2
      go_loopw [4] (fun i wr => ∃ k : Nat, k ≤ 18 ∧ i = .int .i64 k ∧ Hid (Below w.heap.size w wr) ∧ Hid (∀ j, j < k → signs.getD j 0 ≠ c)) (fun i _ => 18 - (intOf i).toNat)
      case atStart => exact ⟨0, by omega, rfl, Lib.hid (Below.refl _ _), Lib.hid (fun j hj => by omega)⟩
      case round =>
        obtain ⟨k, hk, rfl, hbl, hno⟩ := hrel
        by_cases hk18 : k < 18
        · have hsgs : k < sgB.size := hk18
          have ek : ((s[0].toNat : Int) == (sgB[k].toNat : Int)) = (c == signs.getD k 0) := by rw [byte_eqq, sg_at k hk18, HC.out]
          unfold sgB at ek hsgs
          obtain ⟨q, hq⟩ : ∃ q, q = (c == signs.getD k 0) := ⟨_, rfl⟩
          rw [← hq] at ek
          have HQ := Lib.hid hq
          clear hq
          have hk0 : (0 : Int) ≤ (k : Int) := by omega
          have hkm : (k : Int) < 18 := by omega
          cases q with
          | true =>
            have HY := Lib.hid (show R = s.extract 0 1 from by
              have h := HQ.out
              have h2 : c = signs.getD k 0 := by simpa using h.symm
              rw [HX.out, HZ.out, if_pos (sg_mem c k hk18 h2)])
            go_upto_region 7 with fail
            go_quiet (fail)
            go_wp2
            go_ret
            exact ⟨by rw [HY.out]; rfl, below_drewN hbl.out _⟩
          | false =>
            have HN := Lib.hid (show ∀ j, j < k + 1 → signs.getD j 0 ≠ c from fun j hj => by
              by_cases e : j = k
              · subst e
                intro h
                have h3 := HQ.out
                rw [h] at h3
                simp at h3
              · exact hno.out j (by omega))
            go_upto_region 7 with fail
            go_quiet (fail)
            go_wp2
            go_roundw
            case rel => exact ⟨k + 1, by omega, by go_num, Lib.hid (below_drewN hbl.out _), HN⟩
            case measure => simp [intOf]; omega
        · have hk2 : k = 18 := by omega
          subst hk2
          have HY := Lib.hid (show R = ⟨#[]⟩ from by rw [HX.out, if_neg (sg_no c hno.out)])
          go_wp2
          go_ret
          exact ⟨by rw [HY.out]; rfl, hbl.out⟩
    · have g1 : (1 : Int) < (s.size : Int) := by omega
      clear e60 e33 e62
      go_enter Try.func25, Try.ntmps25
      go_wp2
      go_loopw [4] (fun i wr => ∃ k : Nat, k ≤ 18 ∧ i = .int .i64 k ∧ Hid (Below w.heap.size w wr) ∧ Hid (∀ j, j < k → signs.getD j 0 ≠ c)) (fun i _ => 18 - (intOf i).toNat)
      case atStart => exact ⟨0, by omega, rfl, Lib.hid (Below.refl _ _), Lib.hid (fun j hj => by omega)⟩
      case round =>
        obtain ⟨k, hk, rfl, hbl, hno⟩ := hrel
        by_cases hk18 : k < 18
        · have hsgs : k < sgB.size := hk18
          have ek : ((s[0].toNat : Int) == (sgB[k].toNat : Int)) = (c == signs.getD k 0) := by rw [byte_eqq, sg_at k hk18, HC.out]
          unfold sgB at ek hsgs
          obtain ⟨q, hq⟩ : ∃ q, q = (c == signs.getD k 0) := ⟨_, rfl⟩
          rw [← hq] at ek
          have HQ := Lib.hid hq
          clear hq
          have hk0 : (0 : Int) ≤ (k : Int) := by omega
          have hkm : (k : Int) < 18 := by omega
          cases q with
          | true =>
            have HY := Lib.hid (show R = s.extract 0 1 from by
              have h := HQ.out
              have h2 : c = signs.getD k 0 := by simpa using h.symm
              rw [HX.out, HZ.out, if_pos (sg_mem c k hk18 h2)])
            go_upto_region 7 with fail
            go_quiet (fail)
            go_wp2
            go_ret
            exact ⟨by rw [HY.out]; rfl, below_drewN hbl.out _⟩
          | false =>
            have HN := Lib.hid (show ∀ j, j < k + 1 → signs.getD j 0 ≠ c from fun j hj => by
              by_cases e : j = k
              · subst e
                intro h
                have h3 := HQ.out
                rw [h] at h3
                simp at h3
              · exact hno.out j (by omega))
            go_upto_region 7 with fail
            go_quiet (fail)
            go_wp2
            go_roundw
            case rel => exact ⟨k + 1, by omega, by go_num, Lib.hid (below_drewN hbl.out _), HN⟩
            case measure => simp [intOf]; omega
        · have hk2 : k = 18 := by omega
          subst hk2
          have HY := Lib.hid (show R = ⟨#[]⟩ from by rw [HX.out, if_neg (sg_no c hno.out)])
          go_wp2
          go_ret
          exact ⟨by rw [HY.out]; rfl, hbl.out⟩
    · have g1 : (1 : Int) < (s.size : Int) := by omega
      rw [beq_eq_false_iff_ne.2 n60] at e60
      rw [beq_eq_false_iff_ne.2 n33] at e33
      rw [beq_eq_false_iff_ne.2 n62] at e62
      go_enter Try.func25, Try.ntmps25
      go_wp2
      go_loopw [4] (fun i wr => ∃ k : Nat, k ≤ 18 ∧ i = .int .i64 k ∧ Hid (Below w.heap.size w wr) ∧ Hid (∀ j, j < k → signs.getD j 0 ≠ c)) (fun i _ => 18 - (intOf i).toNat)
      case atStart => exact ⟨0, by omega, rfl, Lib.hid (Below.refl _ _), Lib.hid (fun j hj => by omega)⟩
      case round =>
        obtain ⟨k, hk, rfl, hbl, hno⟩ := hrel
        by_cases hk18 : k < 18
        · have hsgs : k < sgB.size := hk18
          have ek : ((s[0].toNat : Int) == (sgB[k].toNat : Int)) = (c == signs.getD k 0) := by rw [byte_eqq, sg_at k hk18, HC.out]
          unfold sgB at ek hsgs
          obtain ⟨q, hq⟩ : ∃ q, q = (c == signs.getD k 0) := ⟨_, rfl⟩
          rw [← hq] at ek
          have HQ := Lib.hid hq
          clear hq
          have hk0 : (0 : Int) ≤ (k : Int) := by omega
          have hkm : (k : Int) < 18 := by omega
          cases q with
          | true =>
            have HY := Lib.hid (show R = s.extract 0 1 from by
              have h := HQ.out
              have h2 : c = signs.getD k 0 := by simpa using h.symm
              rw [HX.out, HZ.out, if_pos (sg_mem c k hk18 h2)])
            go_upto_region 7 with fail
            go_quiet (fail)
            go_wp2
            go_ret
            exact ⟨by rw [HY.out]; rfl, below_drewN hbl.out _⟩
          | false =>
            have HN := Lib.hid (show ∀ j, j < k + 1 → signs.getD j 0 ≠ c from fun j hj => by
              by_cases e : j = k
              · subst e
                intro h
                have h3 := HQ.out
                rw [h] at h3
                simp at h3
              · exact hno.out j (by omega))
            go_upto_region 7 with fail
            go_quiet (fail)
            go_wp2
            go_roundw
            case rel => exact ⟨k + 1, by omega, by go_num, Lib.hid (below_drewN hbl.out _), HN⟩
            case measure => simp [intOf]; omega
        · have hk2 : k = 18 := by omega
          subst hk2
          have HY := Lib.hid (show R = ⟨#[]⟩ from by rw [HX.out, if_neg (sg_no c hno.out)])
          go_wp2
          go_ret
          exact ⟨by rw [HY.out]; rfl, hbl.out⟩
end Go.Proofs.Ytgdfjcmjhagmoaa

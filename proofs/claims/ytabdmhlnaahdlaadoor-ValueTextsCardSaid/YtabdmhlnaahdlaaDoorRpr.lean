/- Contract of the document's Print of one right value. -/
import Derived.Test.YtabdmhlnaahdlaaDoorKpr
import Derived.Test.YtabdmhlnaahdlaaDoorRky
import Derived.Test.YtabdmhlnaahdlaaDoorRefP
import Derived.Test.YtabdmhlnaahdlaaDoorTok
import Derived.Laws.DeepStrings4
namespace Go.Proofs.YtabdmhlnaahdlaaDoor
open Go.ChangeShapes Go.WideShapes Go.ChangeAt Go.RowKit
set_option maxRecDepth 100000 in
set_option maxHeartbeats 8000000 in
theorem refprint2_1 (n : Int) (s : ByteArray) (w : World) (hn1 : -9223372036854775808 ≤ n) (hn2 : n ≤ 9223372036854775807) :
    Calls Tryd.prog 33/-f-/ #[.agg #[.int .i64 1, .int .i64 n, .string s]] w fun e w' => e = .returned (.string ⟨(Lib.itoa n).toArray⟩) ∧ Below w.heap.size w w' := by
  have RP := Lib.hid (fun W => refprint_any n W hn1 hn2)
  go_enter Tryd.func33/-f-/, Tryd.ntmps33/-f-/
  go_wp2_with (go_at_call 15/-f-/; (with_reducible refine (RP.out _).mono ?_); rintro e w1 ⟨rfl, hb1⟩)
  go_ret
  exact ⟨rfl, ((Below.refl _ _).alloc (Nat.le_refl _) _).trans (hb1.mono (by simp))⟩
set_option maxRecDepth 100000 in
set_option maxHeartbeats 8000000 in
theorem refprint2_3 (n : Int) (s : ByteArray) (w : World) (hn : n = 0 ∨ n = 1) :
    Calls Tryd.prog 33/-f-/ #[.agg #[.int .i64 3, .int .i64 n, .string s]] w fun e w' => e = .returned (.string (if n = 1 then ⟨#[116, 114, 117, 101]⟩ else ⟨#[102, 97, 108, 115, 101]⟩)) ∧ Below w.heap.size w w' := by
  rcases hn with rfl | rfl
  all_goals
    go_enter Tryd.func33/-f-/, Tryd.ntmps33/-f-/
    go_wp2
    go_ret
    exact ⟨rfl, (Below.refl _ _).alloc (Nat.le_refl _) _⟩
set_option maxRecDepth 100000 in
set_option maxHeartbeats 8000000 in
theorem refprint2_2 (n : Int) (s : ByteArray) (w : World) (hs : s.size ≤ 1000000) :
    Calls Tryd.prog 33/-f-/ #[.agg #[.int .i64 2, .int .i64 n, .string s]] w fun e w' => e = .returned (.string ⟨([39] ++ dbl s.data.toList ++ [39]).toArray⟩) ∧ Below w.heap.size w w' := by
  go_enter Tryd.func33/-f-/, Tryd.ntmps33/-f-/
  go_wp2
  go_loopw [3, 4] (fun v i wr => ∃ j : Nat, j ≤ s.size ∧ i = .int .i64 j ∧ wr = w.alloc (.cells #[.int .i64 2, .int .i64 n, .string s] 35/-t-/) ∧ v = .string ⟨([39] ++ dbl (s.data.toList.take j)).toArray⟩) (fun _ i _ => s.size - (intOf i).toNat)
  case atStart => exact ⟨0, by omega, rfl, rfl, rfl⟩
  case round =>
    obtain ⟨j, hj, rfl, rfl, rfl⟩ := hrel
    have el := dbl_len (s.data.toList.take j)
    have el2 : (s.data.toList.take j).length ≤ j := List.length_take_le _ _
    by_cases hlt : j < s.size
    · have HT := Lib.hid (show dbl (s.data.toList.take (j + 1)) = dbl (s.data.toList.take j) ++ if s[j] = 39 then [39, 39] else [s[j]] from by
        rw [List.take_succ_eq_append_getElem (by simpa using hlt), dbl_snoc]; rfl)
      have EX : s.extract j (j + 1) = ⟨[s[j]].toArray⟩ := ByteArray.ext (Array.toList_inj.1 (by
        rw [ByteArray.data_extract, Array.toList_extract]
        have h := drop_at s j hlt
        simp [List.extract, h]))
      have hix : ((j : Int) + 1).toNat = j + 1 := by omega
      obtain ⟨L, hL⟩ : ∃ L, L = [39] ++ dbl (s.data.toList.take j) := ⟨_, rfl⟩
      have HT2 := Lib.hid (show [39] ++ dbl (s.data.toList.take (j + 1)) = L ++ if s[j] = 39 then [39, 39] else [s[j]] from by rw [HT.out, ← List.append_assoc, hL])
      have hlen : L.length ≤ 2000001 := by rw [hL, List.length_append]; simp; omega
      rw [← hL]
      clear hL HT el el2
      by_cases h0 : s[j] = 39
      · have hc0 : ((s[j].toNat : Int) == 39) = true := by rw [h0]; rfl
        have HT3 := Lib.hid (HT2.out.trans (by rw [if_pos h0] : _ = L ++ [39, 39]))
        have HZ := Lib.hid h0
        clear h0
        go_wp2
        go_roundw
        case rel =>
          refine ⟨j + 1, by omega, by go_num, by first | rfl | trivial, ?_⟩
          rw [HT3.out, HZ.out]
          refine congrArg Value.string ?_
          refine (congrArg (· ++ (⟨#[39]⟩ : ByteArray)) (app_mk L [39])).trans ((app_mk (L ++ [39]) [39]).trans ?_)
          rw [List.append_assoc]; rfl
        case measure => simp [intOf]; omega
      · have hc0 : ((s[j].toNat : Int) == 39) = false := beq_eq_false_iff_ne.2 (fun h => h0 (UInt8.toNat_inj.1 (by show s[j].toNat = 39; omega)))
        have HT3 := Lib.hid (HT2.out.trans (by rw [if_neg h0] : _ = L ++ [s[j]]))
        clear h0
        go_wp2
        go_roundw
        case rel => exact ⟨j + 1, by omega, by go_num, by first | rfl | trivial, by rw [HT3.out]; exact congrArg Value.string (app_mk L [s[j]])⟩
        case measure => simp [intOf]; omega
    · obtain rfl : j = s.size := by omega
      rw [List.take_of_length_le (by simp)] at el el2 ⊢
      obtain ⟨L, hL⟩ : ∃ L, L = [39] ++ dbl s.data.toList := ⟨_, rfl⟩
      have hll : s.data.toList.length = s.size := by simp
      have hlen : L.length ≤ 2000001 := by rw [hL, List.length_append]; simp; omega
      rw [← hL]
      have HL := Lib.hid hL
      clear hL el el2
      go_wp2
      go_ret
      have e : (39 :: (dbl s.data.toList ++ [39])) = L ++ [39] := by rw [HL.out]; rfl
      first | rw [e] | rw [HL.out]
      exact ⟨congrArg (fun b => Ending.returned (Value.string b)) (app_mk L [39]), (Below.refl _ _).alloc (Nat.le_refl _) _⟩
theorem refprint2_any (x : Val) (w : World) (hf : FitV x) (hr : rightB x.k x.n x.s = true) :
    Calls Tryd.prog 33/-f-/ #[.agg #[.int .i64 x.k, .int .i64 x.n, .string x.s]] w fun e w' => e = .returned (.string ⟨(printOf x).toArray⟩) ∧ Below w.heap.size w w' := by
  obtain ⟨k, n, s⟩ := x
  simp only at hr ⊢
  have hn := hf.n
  simp only at hn
  by_cases h1 : k = 1
  · subst h1
    simpa [printOf] using refprint2_1 n s w hn.1 hn.2
  · by_cases h2 : k = 2
    · subst h2
      rw [rightB_2] at hr
      simp at hr
      simpa [printOf] using refprint2_2 n s w (by omega)
    · by_cases h3 : k = 3
      · subst h3
        rw [rightB_3] at hr
        simp at hr
        have h := refprint2_3 n s w hr.1
        have e : (⟨(printOf ⟨3, n, s⟩).toArray⟩ : ByteArray) = if n = 1 then ⟨#[116, 114, 117, 101]⟩ else ⟨#[102, 97, 108, 115, 101]⟩ := by
          unfold printOf
          rw [if_neg (by show ¬ (3 : Int) = 1; decide), if_neg (by show ¬ (3 : Int) = 2; decide)]
          split <;> rfl
        rw [e]
        exact h
      · rw [rightB_no k n s h1 h2 h3] at hr
        cases hr
end Go.Proofs.YtabdmhlnaahdlaaDoor

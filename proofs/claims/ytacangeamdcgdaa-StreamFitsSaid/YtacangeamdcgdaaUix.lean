/- Contracts of package schema: right places; no two indexes the same; right indexes. -/
import Derived.Test.YtacangeamdcgdaaUni
namespace Go.Proofs.Ytacangeamdcgdaa
open Go.ChangeShapes Go.WideShapes Go.ChangeAt Go.RowKit
def inB (n : Int) (p : Int) : Bool := decide (0 ≤ p) && decide (p < n)
def plaB (n : Int) (xs : List Int) : Bool := decide (1 ≤ xs.length) && decide (xs.length ≤ 8) && xs.all (inB n) && unlB eqI xs
set_option maxRecDepth 100000 in
set_option maxHeartbeats 8000000 in
theorem rightPlaces_any (A : Option Addr) (n c : Nat) (xs : List Int) (nc : Int) (w : World) (hA : Ints w .i64 A xs) (hn : xs.length = n) (hc : n ≤ c) (hs : n ≤ 9223372036854775807) (hf : Fit64 xs) (hnc : 0 ≤ nc) (hnc2 : nc ≤ 9223372036854775807) :
    Calls Try.prog 101/-f-/ #[.slice A n c, .int .i64 nc] w fun e w' => e = .returned (.bool (plaB nc xs)) ∧ w = w' := by
  subst hn
  obtain ⟨r, hr⟩ : ∃ r, r = plaB nc xs := ⟨_, rfl⟩
  rw [← hr]
  have HR := Lib.hid hr
  clear hr
  by_cases h1 : xs.length < 1
  · have HF := Lib.hid (show r = false from by rw [HR.out]; unfold plaB; simp [show ¬ 1 ≤ xs.length by omega])
    go_enter Try.func101, Try.ntmps101
    go_wp2
    go_ret
    exact ⟨ret_bool HF.out.symm, rfl⟩
  by_cases h8 : 8 < xs.length
  · have HF := Lib.hid (show r = false from by rw [HR.out]; unfold plaB; simp [show ¬ xs.length ≤ 8 by omega])
    go_enter Try.func101, Try.ntmps101
    go_wp2
    go_ret
    exact ⟨ret_bool HF.out.symm, rfl⟩
  have HA := Lib.hid hA
  have HF := Lib.hid hf
  have HB := Lib.hid (show r = (xs.all (inB nc) && unlB eqI xs) from by rw [HR.out]; unfold plaB; simp [show 1 ≤ xs.length by omega, show xs.length ≤ 8 by omega])
  have hl1 : ¬ (xs.length : Int) < 1 := by omega
  clear hA hf HR
  go_enter Try.func101, Try.ntmps101
  go_wp2
  go_loop [6, 17] (fun _ i => ∃ k : Nat, k ≤ xs.length ∧ i = .int .i64 k ∧ Hid ((xs.take k).all (inB nc) = true)) (fun _ i => xs.length - (intOf i).toNat)
  case atStart => exact ⟨0, Nat.zero_le _, rfl, Lib.hid rfl⟩
  case round =>
    obtain ⟨k, hk, rfl, hall⟩ := hrel
    by_cases hlt : k < xs.length
    · rcases HA.out with h | ⟨b, off, rfl, hbw, hcell⟩
      · subst h; simp at hlt
      have x0 := hcell k hlt
      have HT := Lib.hid (all_take (inB nc) xs k hlt)
      have HN := Lib.hid (all_fail (inB nc) xs k hlt)
      have hfx := HF.out.at_ k
      clear hcell
      simp only [getD0] at HT HN
      generalize xs.getD k 0 = x at *
      by_cases k1 : x < 0
      · have HX := Lib.hid (show r = false from by rw [HB.out, HN.out (by unfold inB; simp [show ¬ 0 ≤ x by omega])]; rfl)
        go_wp2
        go_ret
        exact ⟨ret_bool HX.out.symm, rfl⟩
      · by_cases k2 : nc ≤ x
        · have HX := Lib.hid (show r = false from by rw [HB.out, HN.out (by unfold inB; simp [show ¬ x < nc by omega])]; rfl)
          go_wp2
          go_ret
          exact ⟨ret_bool HX.out.symm, rfl⟩
        · have HO := Lib.hid (show inB nc x = true from by unfold inB; simp [show 0 ≤ x by omega, show x < nc by omega])
          go_wp2
          go_round
          case rel => exact ⟨k + 1, by omega, by go_num, Lib.hid (by rw [HT.out, hall.out, HO.out]; rfl)⟩
          case measure => simp [intOf]; omega
    · have hkl : k = xs.length := by omega
      subst hkl
      rw [List.take_length] at hall
      have C := Lib.hid (unlikeI_any A xs.length c xs w HA.out rfl hc (by omega))
      have HX := Lib.hid (show r = unlB eqI xs from by rw [HB.out, hall.out]; rfl)
      rw [← HX.out] at C
      go_wp2_with (go_at_call 109/-f-/; refine C.out.mono ?_; rintro e w2 ⟨rfl, rfl⟩)
      go_ret
      exact ⟨rfl, rfl⟩
theorem take_succ_i (xs : List Int) (k : Nat) (h : k < xs.length) : xs.take (k + 1) = xs.take k ++ [xs.getD k 0] := by
  rw [List.take_succ_eq_append_getElem h]; simp [List.getD, List.getElem?_eq_getElem h]
set_option maxRecDepth 100000 in
set_option maxHeartbeats 8000000 in
theorem equal_any (A B : Option Addr) (n c m d : Nat) (xs ys : List Int) (w : World) (hA : Ints w .i64 A xs) (hB : Ints w .i64 B ys) (hn : xs.length = n) (hm : ys.length = m) (hs : n ≤ 9223372036854775807) (hs' : m ≤ 9223372036854775807) :
    Calls Try.prog 104/-f-/ #[.slice A n c, .slice B m d] w fun e w' => e = .returned (.bool (decide (xs = ys))) ∧ ∃ k, w' = w.drewN k := by
  subst hn hm
  by_cases hl : xs.length = ys.length
  · have hlb : ((xs.length : Int) == ys.length) = true := by rw [hl]; exact beq_self_eq_true _
    have hlb2 : ((xs.length : Int) != ys.length) = false := by rw [hl]; simp
    have HL := Lib.hid hl
    have HA := Lib.hid hA
    have HB := Lib.hid hB
    clear hA hB hl
    obtain ⟨r, hr⟩ : ∃ r, r = decide (xs = ys) := ⟨_, rfl⟩
    rw [← hr]
    have HR := Lib.hid hr
    clear hr
    go_enter Try.func104, Try.ntmps104
    go_wp2
    go_loopw [5, 13] (fun _ i wr => ∃ k : Nat, k ≤ xs.length ∧ i = .int .i64 k ∧ (∃ m, wr = w.drewN m) ∧ Hid (xs.take k = ys.take k)) (fun _ i _ => xs.length - (intOf i).toNat)
    case atStart => exact ⟨0, Nat.zero_le _, rfl, ⟨0, rfl⟩, Lib.hid rfl⟩
    case round =>
      obtain ⟨k, hk, rfl, hwr, heq⟩ := hrel
      have HAR := Lib.hid (show Ints wr .i64 A xs from by obtain ⟨m, rfl⟩ := hwr; exact HA.out)
      have HBR := Lib.hid (show Ints wr .i64 B ys from by obtain ⟨m, rfl⟩ := hwr; exact HB.out)
      have HWR := Lib.hid hwr
      clear hwr
      by_cases hlt : k < xs.length
      · have hlt2 : k < ys.length := by have := HL.out; omega
        rcases HAR.out with h | ⟨b1, o1, rfl, hb1, hcell1⟩
        · subst h; simp at hlt
        rcases HBR.out with h | ⟨b2, o2, rfl, hb2, hcell2⟩
        · subst h; simp at hlt2
        have x0 := hcell1 k hlt
        have y0 := hcell2 k hlt2
        have HT1 := Lib.hid (take_succ_i xs k hlt)
        have HT2 := Lib.hid (take_succ_i ys k hlt2)
        clear hcell1 hcell2
        generalize xs.getD k 0 = x at *
        generalize ys.getD k 0 = y at *
        go_upto_region 6 with fail
        go_quiet (fail)
        by_cases hxy : x = y
        · have HT := Lib.hid (show xs.take (k + 1) = ys.take (k + 1) from by rw [HT1.out, HT2.out, heq.out, hxy])
          have e1 : (x == y) = true := by rw [hxy]; exact beq_self_eq_true _
          have e2 : (x != y) = false := by rw [hxy]; simp
          clear hxy x0 y0
          go_wp2
          go_roundw
          case rel => exact ⟨k + 1, hlt, by go_num, (by obtain ⟨m, hm⟩ := HWR.out; exact ⟨_, by rw [hm, World.drewN_drewN]⟩), HT⟩
          case measure => simp [intOf]; omega
        · have HF := Lib.hid (show r = false from by
            rw [HR.out]
            refine decide_eq_false fun h => ?_
            have e1 : xs.take (k + 1) = ys.take (k + 1) := by rw [h]
            rw [HT1.out, HT2.out, heq.out] at e1
            have e2 := List.append_cancel_left e1
            exact hxy (by simpa using e2))
          have e1 : (x == y) = false := beq_eq_false_iff_ne.2 hxy
          have e2 : (x != y) = true := by simp [bne, e1]
          clear hxy x0 y0
          go_wp2
          go_ret
          exact ⟨ret_bool HF.out.symm, (by obtain ⟨m, hm⟩ := HWR.out; exact ⟨_, by rw [hm, World.drewN_drewN]⟩)⟩
      · have hkl : k = xs.length := by omega
        have HT := Lib.hid (show r = true from by
          rw [HR.out]
          refine decide_eq_true ?_
          have := heq.out
          rw [hkl, List.take_length, HL.out, List.take_length] at this
          exact this)
        subst hkl
        go_wp2
        go_ret
        exact ⟨ret_bool HT.out.symm, HWR.out⟩
  · have hlb : ((xs.length : Int) == ys.length) = false := beq_eq_false_iff_ne.2 (by omega)
    have hne : decide (xs = ys) = false := decide_eq_false (fun h => hl (by rw [h]))
    rw [hne]
    clear hl hne
    go_enter Try.func104, Try.ntmps104
    go_wp2
    go_ret
    exact ⟨rfl, 0, rfl⟩
end Go.Proofs.Ytacangeamdcgdaa

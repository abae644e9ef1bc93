/- Contracts of package schema: right columns; no two places, no two indexes the same. -/
import Derived.Test.YtacangeamdcgdaaUnm
import Derived.BigQuiet
import Derived.Deep.QuietTactic
namespace Go.Proofs.Ytacangeamdcgdaa
open Go.ChangeShapes Go.WideShapes Go.ChangeAt Go.RowKit
def colB (c : Col) : Bool := namB c.nm && decide (1 ≤ c.kd) && decide (c.kd ≤ 3)
def colsB (cs : List Col) : Bool := decide (1 ≤ cs.length) && decide (cs.length ≤ 8) && cs.all colB && unlB sameNm cs
theorem all_take {α : Type} [Inhabited α] (f : α → Bool) (l : List α) (k : Nat) (h : k < l.length) : (l.take (k + 1)).all f = ((l.take k).all f && f (l.getD k default)) := by
  rw [List.take_succ_eq_append_getElem h, List.all_append]
  simp [List.getD, List.getElem?_eq_getElem h]
theorem all_fail {α : Type} [Inhabited α] (f : α → Bool) (l : List α) (k : Nat) (h : k < l.length) (hf : f (l.getD k default) = false) : l.all f = false := by
  rw [List.all_eq_false]
  exact ⟨l.getD k default, by simp [List.getD, List.getElem?_eq_getElem h], by rw [hf]; exact Bool.false_ne_true⟩
theorem getD_in {α : Type} [Inhabited α] (l : List α) (k : Nat) (h : k < l.length) : l.getD k default ∈ l := by simp [List.getD, List.getElem?_eq_getElem h]
set_option maxRecDepth 100000 in
set_option maxHeartbeats 8000000 in
theorem rightCols_any (A : Option Addr) (n c : Nat) (cs : List Col) (w : World) (hA : Cols w A cs) (hn : cs.length = n) (hc : n ≤ c) (hs : n ≤ 9223372036854775807) (hf : ∀ x ∈ cs, FitC x) :
    Calls Try.prog 83/-f-/ #[.slice A n c] w fun e w' => e = .returned (.bool (colsB cs)) ∧ Below w.heap.size w w' := by
  subst hn
  obtain ⟨r, hr⟩ : ∃ r, r = colsB cs := ⟨_, rfl⟩
  rw [← hr]
  have HR := Lib.hid hr
  clear hr
  by_cases h1 : cs.length < 1
  · have HF := Lib.hid (show r = false from by rw [HR.out]; unfold colsB; simp [show ¬ 1 ≤ cs.length by omega])
    go_enter Try.func83, Try.ntmps83
    go_wp2
    go_ret
    exact ⟨ret_bool HF.out.symm, Below.refl _ _⟩
  by_cases h8 : 8 < cs.length
  · have HF := Lib.hid (show r = false from by rw [HR.out]; unfold colsB; simp [show ¬ cs.length ≤ 8 by omega])
    go_enter Try.func83, Try.ntmps83
    go_wp2
    go_ret
    exact ⟨ret_bool HF.out.symm, Below.refl _ _⟩
  have HA := Lib.hid hA
  have HF := Lib.hid hf
  have HB := Lib.hid (show r = (cs.all colB && unlB sameNm cs) from by rw [HR.out]; unfold colsB; simp [show 1 ≤ cs.length by omega, show cs.length ≤ 8 by omega])
  have hl1 : ¬ (cs.length : Int) < 1 := by omega
  clear hA hf HR
  go_enter Try.func83, Try.ntmps83
  go_wp2
  go_loopw [4, 15] (fun _ i wr => ∃ k : Nat, k ≤ cs.length ∧ i = .int .i64 k ∧ Below w.heap.size w wr ∧ Hid ((cs.take k).all colB = true)) (fun _ i _ => cs.length - (intOf i).toNat)
  case atStart => exact ⟨0, Nat.zero_le _, rfl, Below.refl _ _, Lib.hid rfl⟩
  case round =>
    obtain ⟨k, hk, rfl, hbl, hall⟩ := hrel
    have hsz := hbl.size
    by_cases hlt : k < cs.length
    · rcases HA.out with h | ⟨b, off, rfl, hbw, hcell⟩
      · subst h; simp at hlt
      obtain ⟨x0, x1⟩ := hcell k hlt
      replace x0 := (hbl.cell (p := ⟨b, off + k * 2, none⟩) hbw).trans x0
      replace x1 := (hbl.cell (p := ⟨b, off + k * 2 + 1, none⟩) hbw).trans x1
      have hbw2 : b < wr.heap.size := Nat.lt_of_lt_of_le hbw hsz
      have HT := Lib.hid (all_take colB cs k hlt)
      have HN := Lib.hid (all_fail colB cs k hlt)
      have HFX := Lib.hid (HF.out _ (getD_in cs k hlt))
      clear hcell
      generalize cs.getD k default = x at *
      obtain ⟨nm, kd⟩ := x
      simp only at x0 x1
      have hns := HFX.out.nm
      have hkd := HFX.out.kd
      simp only at hns hkd
      have C := Lib.hid (fun W => named_any nm W hns)
      obtain ⟨q, hq⟩ : ∃ q, q = namB nm := ⟨_, rfl⟩
      rw [← hq] at C
      have HQ := Lib.hid hq
      clear hq
      cases q with
      | false =>
        have HX := Lib.hid (show r = false from by rw [HB.out, HN.out (by unfold colB; simp only; rw [← HQ.out]; rfl)]; rfl)
        go_wp2_with (go_at_call 82/-f-/; refine (C.out _).mono ?_; rintro e w2 ⟨rfl, rfl⟩)
        go_ret
        exact ⟨ret_bool HX.out.symm, hbl.alloc hsz _⟩
      | true =>
        by_cases k1 : kd < 1
        · have HX := Lib.hid (show r = false from by rw [HB.out, HN.out (by unfold colB; simp only; simp [show ¬ 1 ≤ kd by omega])]; rfl)
          go_wp2_with (go_at_call 82/-f-/; refine (C.out _).mono ?_; rintro e w2 ⟨rfl, rfl⟩)
          go_ret
          exact ⟨ret_bool HX.out.symm, hbl.alloc hsz _⟩
        · by_cases k3 : 3 < kd
          · have HX := Lib.hid (show r = false from by rw [HB.out, HN.out (by unfold colB; simp only; simp [show ¬ kd ≤ 3 by omega])]; rfl)
            go_wp2_with (go_at_call 82/-f-/; refine (C.out _).mono ?_; rintro e w2 ⟨rfl, rfl⟩)
            go_ret
            exact ⟨ret_bool HX.out.symm, hbl.alloc hsz _⟩
          · have HO := Lib.hid (show colB ⟨nm, kd⟩ = true from by unfold colB; simp only; rw [← HQ.out]; simp [show 1 ≤ kd by omega, show kd ≤ 3 by omega])
            go_wp2_with (go_at_call 82/-f-/; refine (C.out _).mono ?_; rintro e w2 ⟨rfl, rfl⟩)
            go_roundw
            case rel => exact ⟨k + 1, by omega, by go_num, hbl.alloc hsz _, Lib.hid (by rw [HT.out, hall.out, HO.out]; rfl)⟩
            case measure => simp [intOf]; omega
    · have hkl : k = cs.length := by omega
      subst hkl
      rw [List.take_length] at hall
      have C := Lib.hid (unlikeC_any A cs.length c cs wr (HA.out.keep hbl) rfl hc (by omega))
      have HX := Lib.hid (show r = unlB sameNm cs from by rw [HB.out, hall.out]; rfl)
      rw [← HX.out] at C
      go_wp2_with (go_at_call 99/-f-/; refine C.out.mono ?_; rintro e w2 ⟨rfl, hb2⟩)
      go_ret
      exact ⟨rfl, hbl.trans (hb2.mono hsz)⟩
def eqI (a b : Int) : Bool := a == b
theorem clo_int (a b : Int) (w : World) : Calls Try.prog 110/-f-/ #[.int .i64 a, .int .i64 b] w fun e w' => e = .returned (.bool (eqI a b)) ∧ w = w' := by
  go_enter Try.func110, Try.ntmps110
  go_wp2
  go_ret
  exact ⟨rfl, rfl⟩
theorem getD0 (xs : List Int) (k : Nat) : xs.getD k default = xs.getD k 0 := rfl
set_option maxRecDepth 100000 in
set_option maxHeartbeats 8000000 in
theorem unlikeI_any (A : Option Addr) (n c : Nat) (xs : List Int) (w : World) (hA : Ints w .i64 A xs) (hn : xs.length = n) (hc : n ≤ c) (hs : n ≤ 1000000) :
    Calls Try.prog 109/-f-/ #[.slice A n c, .func (.func 110) #[] #[]] w fun e w' => e = .returned (.bool (unlB eqI xs)) ∧ w = w' := by
  subst hn
  obtain ⟨r, hr⟩ : ∃ r, r = unlB eqI xs := ⟨_, rfl⟩
  rw [← hr]
  have HR := Lib.hid hr
  have HA := Lib.hid hA
  clear hr hA
  go_enter Try.func109, Try.ntmps109
  go_wp2
  go_loop [5, 6, 8, 11] (fun _ _ _ i => ∃ k : Nat, k ≤ xs.length ∧ i = .int .i64 k ∧ Hid (Unl eqI xs k)) (fun _ _ _ i => xs.length - (intOf i).toNat)
  case atStart => exact ⟨0, Nat.zero_le _, rfl, Lib.hid (fun i hi => by omega)⟩
  case round =>
    obtain ⟨k, hk, rfl, hun⟩ := hrel
    by_cases hlt : k < xs.length
    · rcases HA.out with h | ⟨b, off, rfl, hbw, hcell⟩
      · subst h; simp at hlt
      have x0 := hcell k hlt
      have HC := Lib.hid hcell
      clear hcell
      obtain ⟨x, hx⟩ : ∃ x, x = xs.getD k 0 := ⟨_, rfl⟩
      rw [← hx] at x0
      have HX := Lib.hid hx
      clear hx
      have hkc : k ≤ c := by omega
      go_wp2
      go_loop [8, 20] (fun _ j => ∃ m : Nat, m ≤ k ∧ j = .int .i64 m ∧ Hid (∀ i, i < m → eqI x (xs.getD i 0) = false)) (fun _ j => k - (intOf j).toNat)
      case atStart => exact ⟨0, Nat.zero_le _, rfl, Lib.hid (fun i hi => by omega)⟩
      case round =>
        obtain ⟨m, hm, rfl, hno⟩ := hrel
        by_cases hlm : m < k
        · have y0 := HC.out m (by omega)
          obtain ⟨y, hy⟩ : ∃ y, y = xs.getD m 0 := ⟨_, rfl⟩
          rw [← hy] at y0
          have HY := Lib.hid hy
          have C := Lib.hid (clo_int x y w)
          obtain ⟨q, hq⟩ : ∃ q, q = eqI x y := ⟨_, rfl⟩
          rw [← hq] at C
          have HQ := Lib.hid hq
          clear hy hq x0
          cases q with
          | true =>
            have HF := Lib.hid (show r = false from by rw [HR.out]; exact unlB_no _ _ k m hlt hlm (by rw [getD0, getD0, ← HX.out, ← HY.out]; exact HQ.out.symm))
            go_wp2_with (go_at_call 110/-f-/; refine C.out.mono ?_; rintro e w2 ⟨rfl, rfl⟩)
            go_ret
            exact ⟨ret_bool HF.out.symm, rfl⟩
          | false =>
            go_wp2_with (go_at_call 110/-f-/; refine C.out.mono ?_; rintro e w2 ⟨rfl, rfl⟩)
            go_round
            case rel => exact ⟨m + 1, by omega, by go_num, Lib.hid (fun i hi => by
              by_cases h : i < m
              · exact hno.out i h
              · obtain rfl : i = m := by omega
                rw [← HY.out]; exact HQ.out.symm)⟩
            case measure => simp [intOf]; omega
        · have hmk : m = k := by omega
          subst hmk
          have HU := Lib.hid (hun.out.succ (fun j hj => by rw [getD0, getD0, ← HX.out]; exact hno.out j hj))
          go_wp2
          go_round
          case rel => exact ⟨m + 1, by omega, by go_num, HU⟩
          case measure => simp [intOf]; omega
    · have hkl : k = xs.length := by omega
      subst hkl
      have HT := Lib.hid (show r = true from by rw [HR.out]; exact unlB_yes _ _ hun.out)
      go_wp2
      go_ret
      exact ⟨ret_bool HT.out.symm, rfl⟩
end Go.Proofs.Ytacangeamdcgdaa

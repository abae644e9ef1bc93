/- Contracts of package schema: no two columns are the same. -/
import Derived.Test.YtacangeamdcgdaaUnl
namespace Go.Proofs.Ytacangeamdcgdaa
open Go.ChangeShapes Go.WideShapes Go.ChangeAt Go.RowKit
set_option maxRecDepth 100000 in
set_option maxHeartbeats 8000000 in
theorem unlikeC_any (A : Option Addr) (n c : Nat) (cs : List Col) (w : World) (hA : Cols w A cs) (hn : cs.length = n) (hc : n ≤ c) (hs : n ≤ 1000000) :
    Calls Try.prog 99/-f-/ #[.slice A n c, .func (.func 100) #[] #[]] w fun e w' => e = .returned (.bool (unlB sameNm cs)) ∧ Below w.heap.size w w' := by
  subst hn
  obtain ⟨r, hr⟩ : ∃ r, r = unlB sameNm cs := ⟨_, rfl⟩
  rw [← hr]
  have HR := Lib.hid hr
  have HA := Lib.hid hA
  clear hr hA
  go_enter Try.func99, Try.ntmps99
  go_wp2
  go_loopw [5, 6, 8, 11] (fun _ _ _ i wr => ∃ k : Nat, k ≤ cs.length ∧ i = .int .i64 k ∧ Below w.heap.size w wr ∧ Hid (Unl sameNm cs k)) (fun _ _ _ i _ => cs.length - (intOf i).toNat)
  case atStart => exact ⟨0, Nat.zero_le _, rfl, Below.refl _ _, Lib.hid (fun i hi => by omega)⟩
  case round =>
    obtain ⟨k, hk, rfl, hbl, hun⟩ := hrel
    have hsz := hbl.size
    by_cases hlt : k < cs.length
    · rcases HA.out with h | ⟨b, off, rfl, hbw, hcell⟩
      · subst h; simp at hlt
      obtain ⟨x0, x1⟩ := hcell k hlt
      replace x0 := (hbl.cell (p := ⟨b, off + k * 2, none⟩) hbw).trans x0
      replace x1 := (hbl.cell (p := ⟨b, off + k * 2 + 1, none⟩) hbw).trans x1
      have hbw2 : b < wr.heap.size := Nat.lt_of_lt_of_le hbw hsz
      have HC := Lib.hid hcell
      clear hcell
      obtain ⟨x, hx⟩ : ∃ x, x = cs.getD k default := ⟨_, rfl⟩
      rw [← hx] at x0 x1
      have HX := Lib.hid hx
      clear hx
      have hkc : k ≤ c := by omega
      obtain ⟨wo, hwo⟩ : ∃ wo : World, wo = wr := ⟨_, rfl⟩
      subst hwo
      go_wp2
      have HBK := Lib.hid (Blk.new wo 78 #[.string x.nm, .int .i64 x.kd])
      have HB1 := Lib.hid (hbl.alloc hsz (.cells #[.string x.nm, .int .i64 x.kd] 78))
      go_loopw [8, 20] (fun _ j wr => ∃ m : Nat, m ≤ k ∧ j = .int .i64 m ∧ Below w.heap.size w wr ∧ Blk wr wo.heap.size 78 #[.string x.nm, .int .i64 x.kd] ∧ Hid (∀ i, i < m → sameNm x (cs.getD i default) = false)) (fun _ j _ => k - (intOf j).toNat)
      case atStart => exact ⟨0, Nat.zero_le _, rfl, HB1.out, HBK.out, Lib.hid (fun i hi => by omega)⟩
      case round =>
        obtain ⟨m, hm, rfl, hb2, hbk, hno⟩ := hrel
        have hsz2 := hb2.size
        by_cases hlm : m < k
        · obtain ⟨y0, y1⟩ := HC.out m (by omega)
          replace y0 := (hb2.cell (p := ⟨b, off + m * 2, none⟩) hbw).trans y0
          replace y1 := (hb2.cell (p := ⟨b, off + m * 2 + 1, none⟩) hbw).trans y1
          have hbw3 : b < wr.heap.size := Nat.lt_of_lt_of_le hbw hsz2
          have z0 := hbk.cell 0
          have z1 := hbk.cell 1
          have hlt3 := hbk.lt
          simp only [List.getElem?_toArray, List.getElem?_cons_zero, List.getElem?_cons_succ] at z0 z1
          have HBK2 := Lib.hid hbk
          obtain ⟨y, hy⟩ : ∃ y, y = cs.getD m default := ⟨_, rfl⟩
          rw [← hy] at y0 y1
          have HY := Lib.hid hy
          have C := Lib.hid (clo_col x y)
          obtain ⟨q, hq⟩ : ∃ q, q = sameNm x y := ⟨_, rfl⟩
          rw [← hq] at C
          have HQ := Lib.hid hq
          clear hbk hy hq x0 x1
          cases q with
          | true =>
            have HF := Lib.hid (show r = false from by rw [HR.out]; exact unlB_no _ _ k m hlt hlm (by rw [← HX.out, ← HY.out]; exact HQ.out.symm))
            go_wp2_with (go_at_call 100/-f-/; refine (C.out _).mono ?_; rintro e w2 ⟨rfl, hb3⟩)
            go_ret
            exact ⟨ret_bool HF.out.symm, (hb2.alloc hsz2 _).trans (hb3.mono (by simp; omega))⟩
          | false =>
            go_wp2_with (go_at_call 100/-f-/; refine (C.out _).mono ?_; rintro e w2 ⟨rfl, hb3⟩)
            go_roundw
            case rel => exact ⟨m + 1, by omega, by go_num, (hb2.alloc hsz2 _).trans (hb3.mono (by simp; omega)), (HBK2.out.alloc _).below hb3 (by simp; have := HBK2.out.lt; omega), Lib.hid (fun i hi => by
              by_cases h : i < m
              · exact hno.out i h
              · obtain rfl : i = m := by omega
                rw [← HY.out]; exact HQ.out.symm)⟩
            case measure => simp [intOf]; omega
        · have hmk : m = k := by omega
          subst hmk
          have HU := Lib.hid (hun.out.succ (fun j hj => by rw [← HX.out]; exact hno.out j hj))
          go_wp2
          go_roundw
          case rel => exact ⟨m + 1, by omega, by go_num, hb2, HU⟩
          case measure => simp [intOf]; omega
    · have hkl : k = cs.length := by omega
      subst hkl
      have HT := Lib.hid (show r = true from by rw [HR.out]; exact unlB_yes _ _ hun.out)
      go_wp2
      go_ret
      exact ⟨ret_bool HT.out.symm, hbl⟩
end Go.Proofs.Ytacangeamdcgdaa

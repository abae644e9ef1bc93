/- Contracts of package codec: the reader's bytes and numbers. -/
import Derived.Test.YtacangeamdcgdaaRdr
namespace Go.Proofs.Ytacangeamdcgdaa
open Go.ChangeShapes Go.WideShapes Go.ChangeAt Go.RowKit
theorem rd_put {w w' : World} {g b off n c : Nat} {v v' : Value} {l m : List UInt8} (hB : Blk w g 121 #[v, .bool false]) (hne : b ≠ g) (hv : Bs w v' l) (hvA : ∃ A' k c', v' = .slice A' k c' ∧ ∀ ad, A' = some ad → ad.block = b) (hu : Bs w (.slice (some ⟨b, off, none⟩) n c) m) (e : w' = w.setCell ⟨g, 0, none⟩ v') :
    Bs w' (.slice (some ⟨b, off, none⟩) n c) m ∧ Rd w' g (some l) ∧ Off (· = g) w w' := by
  subst e
  refine ⟨hu.put (fun b' off' n' c' h _ => by cases h; exact hne), ⟨v', by simpa using hB.put 0 v', ?_⟩, (Off.refl (fun x => x = g) w).put (p := ⟨g, 0, none⟩) (fun _ => rfl) _⟩
  refine hv.put (fun b' off' n' c' h _ => ?_)
  obtain ⟨A', k, c'', rfl, hA⟩ := hvA
  cases h
  have := hA _ rfl
  simp only at this
  omega
set_option maxHeartbeats 2000000 in
theorem take_any (g n : Nat) (st : Option (List UInt8)) (w : World) (h : Rd w g st) (hn : n ≤ 9223372036854775807) (hl : (st.getD []).length ≤ 1000000000) :
    Calls Try.prog 94/-f-/ #[.pointer (some ⟨g, 0, none⟩), .int .i64 n] w fun e w' => ∃ u, e = .returned u ∧ Bs w' u (stepR [] (cutR n) st).1 ∧ Rd w' g (stepR [] (cutR n) st).2 ∧ Off (· = g) w w' := by
  have H := Lib.hid h
  by_cases hlt : (st.getD []).length < n
  · have HS := Lib.hid (show stepR [] (cutR n) st = ([], none) from by
      cases st with
      | none => rfl
      | some l => simp only [Option.getD_some] at hlt; unfold stepR cutR; simp only [if_pos hlt])
    go_enter Try.func94, Try.ntmps94
    go_wp2_with (first
      | (go_at_call 77/-f-/; refine (rlen_any g st w H.out).mono ?_; rintro e w1 ⟨rfl, rfl⟩)
      | (go_at_call 58/-f-/; refine (rfail_any g st w H.out).mono ?_; rintro e w1 ⟨rfl, hr1, ho1⟩))
    go_ret
    exact ⟨_, rfl, by rw [HS.out]; exact Bs.nil _, by rw [HS.out]; exact hr1, ho1⟩
  · by_cases h0 : n = 0
    · subst h0
      have HS := Lib.hid (show stepR [] (cutR 0) st = ([], st) from by
        cases st with
        | none => simp [stepR] at *
        | some l => unfold stepR cutR; simp)
      go_enter Try.func94, Try.ntmps94
      go_wp2_with (go_at_call 77/-f-/; refine (rlen_any g st w H.out).mono ?_; rintro e w1 ⟨rfl, rfl⟩)
      go_ret
      exact ⟨_, rfl, by rw [HS.out]; exact Bs.nil _, by rw [HS.out]; exact H.out, Off.refl _ _⟩
    · cases st with
      | none => simp at hlt; omega
      | some l =>
        simp only [Option.getD_some] at hlt hl
        have HS := Lib.hid (show stepR [] (cutR n) (some l) = (l.take n, some (l.drop n)) from by
          unfold stepR cutR; simp only [if_neg hlt])
        obtain ⟨v, hB, hbs⟩ := h
        have HF := Lib.hid (hbs.far hB hbs.slice_ne (by intro k n h; cases h))
        have HBS := Lib.hid hbs
        obtain ⟨A, c, rfl, hc, hd⟩ := hbs
        simp only [Option.getD_some, Option.isNone_some] at hB hc hd HF HBS
        have hln : l ≠ [] := by rintro rfl; simp at hlt; omega
        rcases hd with h | ⟨b, off, rfl, hb, hcell⟩
        · exact absurd h hln
        have hblt := hb.lt
        have HC := Lib.hid hcell
        have HLN := Lib.hid hln
        have hne := HF.out b off _ _ rfl hln
        have c0 := hB.cell 0
        have f0 := hB.frozen 0
        have hgl := hB.lt
        simp only [List.getElem?_toArray, List.getElem?_cons_zero, List.getElem?_cons_succ] at c0
        have HB := Lib.hid hB
        have hnl : n ≤ l.length := by omega
        have hn0 : 0 < n := by omega
        clear hB hcell hln h0
        have htl : (l.take n).length = n := by rw [List.length_take]; omega
        have hdl : (l.drop n).length = l.length - n := by rw [List.length_drop]
        have TK := Lib.hid (show Bs w (.slice (some ⟨b, off, none⟩) n c) (l.take n) from ⟨some ⟨b, off, none⟩, c, by rw [htl], by omega, .inr ⟨b, off, rfl, hb, fun i hi => by
          rw [HC.out i (by omega)]
          rw [htl] at hi
          simp [List.getD, List.getElem?_take, hi]⟩⟩)
        by_cases hcn : n = c
        · obtain rfl : n = c := hcn
          have DR := Lib.hid (fun A' => show Bs w (.slice A' 0 0) (l.drop n) from by
            have h0 : l.drop n = [] := by apply List.eq_nil_of_length_eq_zero; omega
            rw [h0]; exact ⟨A', 0, rfl, Nat.le_refl _, .inl rfl⟩)
          clear htl hdl
          go_enter Try.func94, Try.ntmps94
          go_wp2_with (go_at_call 77/-f-/; refine (rlen_any g (some l) w H.out).mono ?_; rintro e w1 ⟨rfl, rfl⟩)
          go_ret
          rw [HS.out]
          refine ⟨_, rfl, rd_put HB.out hne (DR.out _) ⟨_, _, _, rfl, ?_⟩ TK.out rfl⟩
          intro ad h
          cases h
          rfl
        · have DR := Lib.hid (show Bs w (.slice (some ⟨b, off + n, none⟩) (l.length - n) (c - n)) (l.drop n) from ⟨some ⟨b, off + n, none⟩, c - n, by rw [hdl], by omega, .inr ⟨b, off + n, rfl, hb, fun i hi => by
            rw [hdl] at hi
            rw [show off + n + i = off + (n + i) by omega, HC.out (n + i) (by omega)]
            simp [List.getD]⟩⟩)
          clear htl hdl
          go_enter Try.func94, Try.ntmps94
          go_wp2_with (go_at_call 77/-f-/; refine (rlen_any g (some l) w H.out).mono ?_; rintro e w1 ⟨rfl, rfl⟩)
          go_ret
          rw [HS.out]
          exact ⟨_, rfl, rd_put HB.out hne DR.out ⟨_, _, _, rfl, fun ad h => by cases h; rfl⟩ TK.out rfl⟩
set_option maxHeartbeats 2000000 in
theorem one_any (g : Nat) (st : Option (List UInt8)) (w : World) (h : Rd w g st) (hl : (st.getD []).length ≤ 1000000000) :
    Calls Try.prog 93/-f-/ #[.pointer (some ⟨g, 0, none⟩)] w fun e w' => e = .returned (.int .u8 (stepR 0 oneR st).1.toNat) ∧ Rd w' g (stepR 0 oneR st).2 ∧ Off (· = g) w w' := by
  have T := Lib.hid (take_any g 1 st w h (by omega) hl)
  have HA := Lib.hid (show stepR 0 oneR st = ((stepR [] (cutR 1) st).1.headD 0, (stepR [] (cutR 1) st).2) ∧ (stepR [] (cutR 1) st).1.length ≤ 1 from by
    cases st with
    | none => exact ⟨rfl, by simp [stepR]⟩
    | some l => cases l with
      | nil => exact ⟨rfl, by simp [stepR, cutR]⟩
      | cons c r => exact ⟨rfl, by simp [stepR, cutR]⟩)
  rw [HA.out.1]
  have hle := HA.out.2
  clear h hl HA
  generalize stepR [] (cutR 1) st = q at *
  obtain ⟨L, st'⟩ := q
  simp only at T hle ⊢
  go_enter Try.func93, Try.ntmps93
  go_upto_if 8 with (go_at_call 94/-f-/; refine T.out.mono ?_; rintro e w1 ⟨u, rfl, hbs, hr, ho⟩; obtain ⟨A, c, rfl, hc, hd⟩ := hbs)
  cases L with
  | nil =>
    go_wp2
    go_ret
    exact ⟨rfl, hr, ho⟩
  | cons x t =>
    obtain rfl : t = [] := by apply List.eq_nil_of_length_eq_zero; simp only [List.length_cons] at hle; omega
    rcases hd with h | ⟨b, off, rfl, hb, hcell⟩
    · cases h
    have hblt := hb.lt
    have x0 := hcell 0 (by simp)
    simp only [Nat.add_zero, List.getD_cons_zero] at x0
    clear hcell
    simp only [List.length_cons, List.length_nil] at hc ⊢
    go_wp2
    go_ret
    exact ⟨rfl, hr, ho⟩
end Go.Proofs.Ytacangeamdcgdaa

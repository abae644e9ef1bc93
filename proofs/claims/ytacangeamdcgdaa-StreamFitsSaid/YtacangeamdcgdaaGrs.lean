/- Contracts of the laws of schema: whether a schema is more than is asked of; whether any row fits. -/
import Derived.Test.YtacangeamdcgdaaUiz
namespace Go.Proofs.Ytacangeamdcgdaa
open Go.ChangeShapes Go.WideShapes Go.ChangeAt Go.RowKit
def colS (c : Col) : Bool := decide (c.nm.size ≤ 100)
def idxS (x : Ind) : Bool := decide (x.cols.length ≤ 12)
def greatS (s : Sch) : Bool := decide (12 < s.cols.length) || decide (8 < s.idx.length) || decide (100 < s.nm.size) || !(s.cols.all colS) || !(s.idx.all idxS)
theorem greatS_no {s : Sch} (h : greatS s = false) : s.cols.length ≤ 12 ∧ s.idx.length ≤ 8 ∧ s.nm.size ≤ 100 ∧ (∀ c ∈ s.cols, c.nm.size ≤ 100) ∧ ∀ x ∈ s.idx, x.cols.length ≤ 12 := by
  unfold greatS at h
  simp only [Bool.or_eq_false_iff, decide_eq_false_iff_not, Bool.not_eq_false'] at h
  obtain ⟨⟨⟨⟨h1, h2⟩, h3⟩, h4⟩, h5⟩ := h
  refine ⟨by omega, by omega, by omega, fun c hc => ?_, fun x hx => ?_⟩
  · have := List.all_eq_true.1 h4 c hc
    simpa [colS] using this
  · have := List.all_eq_true.1 h5 x hx
    simpa [idxS] using this
set_option maxRecDepth 100000 in
set_option maxHeartbeats 16000000 in
theorem great_sch (v : Value) (s : Sch) (w : World) (hv : SchV w v s) (hf : FitS s) :
    Calls Try.prog 36/-f-/ #[v] w fun e w' => e = .returned (.bool (greatS s)) ∧ Below w.heap.size w w' := by
  obtain ⟨A, B, c, d, rfl, hC, hI, hc, hd⟩ := hv.is
  have hcl := hf.clen
  have hil := hf.ilen
  have hnl := hf.nm
  have HFC := Lib.hid hf.cols
  have HFI := Lib.hid hf.idx
  obtain ⟨r, hr⟩ : ∃ r, r = greatS s := ⟨_, rfl⟩
  rw [← hr]
  have HR := Lib.hid hr
  have HC := Lib.hid hC
  have HI := Lib.hid hI
  have HB0 := Lib.hid ((Below.refl w.heap.size w).alloc (Nat.le_refl _) (.cells #[.string s.nm, .slice A s.cols.length c, .slice B s.idx.length d, .int .i64 s.limit, .int .i64 s.parts, .int .i64 s.by_] 74))
  have BL := Lib.hid (Blk.new w 74 #[.string s.nm, .slice A s.cols.length c, .slice B s.idx.length d, .int .i64 s.limit, .int .i64 s.parts, .int .i64 s.by_])
  clear hr hC hI hf hv
  by_cases h1 : 12 < s.cols.length
  · have HX := Lib.hid (show r = true from by rw [HR.out]; unfold greatS; rw [decide_eq_true h1]; rfl)
    go_enter Try.func36, Try.ntmps36
    go_wp2
    go_ret
    exact ⟨ret_bool HX.out.symm, HB0.out⟩
  by_cases h2 : 8 < s.idx.length
  · have HX := Lib.hid (show r = true from by rw [HR.out]; unfold greatS; rw [decide_eq_true h2]; simp)
    go_enter Try.func36, Try.ntmps36
    go_wp2
    go_ret
    exact ⟨ret_bool HX.out.symm, HB0.out⟩
  by_cases h3 : 100 < s.nm.size
  · have HX := Lib.hid (show r = true from by rw [HR.out]; unfold greatS; rw [decide_eq_true h3]; simp)
    go_enter Try.func36, Try.ntmps36
    go_wp2
    go_ret
    exact ⟨ret_bool HX.out.symm, HB0.out⟩
  have HX := Lib.hid (show r = (!(s.cols.all colS) || !(s.idx.all idxS)) from by rw [HR.out]; unfold greatS; rw [decide_eq_false h1, decide_eq_false h2, decide_eq_false h3]; simp)
  clear HR
  go_enter Try.func36, Try.ntmps36
  go_wp2
  go_loopw [3] (fun i wr => ∃ k : Nat, k ≤ s.cols.length ∧ i = .int .i64 k ∧ Below w.heap.size w wr ∧ Blk wr w.heap.size 74 #[.string s.nm, .slice A s.cols.length c, .slice B s.idx.length d, .int .i64 s.limit, .int .i64 s.parts, .int .i64 s.by_] ∧ Hid ((s.cols.take k).all colS = true)) (fun i _ => s.cols.length - (intOf i).toNat)
  case atStart => exact ⟨0, Nat.zero_le _, rfl, HB0.out, BL.out, Lib.hid rfl⟩
  case round =>
    obtain ⟨k, hk, rfl, hbl, hbk, hall⟩ := hrel
    have hsz := hbl.size
    have c1 := hbk.cell 1
    have c2 := hbk.cell 2
    have hlt2 := hbk.lt
    simp only [List.getElem?_toArray, List.getElem?_cons_zero, List.getElem?_cons_succ] at c1 c2
    have HBK := Lib.hid hbk
    clear hbk
    by_cases hlt : k < s.cols.length
    · rcases HC.out with h | ⟨b, off, rfl, hbw, hcell⟩
      · rw [h] at hlt; simp at hlt
      obtain ⟨x0, _⟩ := hcell k hlt
      replace x0 := (hbl.cell (p := ⟨b, off + k * 2, none⟩) hbw).trans x0
      have hbw2 : b < wr.heap.size := Nat.lt_of_lt_of_le hbw hsz
      have HT := Lib.hid (all_take colS s.cols k hlt)
      have HN := Lib.hid (all_fail colS s.cols k hlt)
      have hfc := (HFC.out _ (getD_in s.cols k hlt)).nm
      clear hcell
      generalize s.cols.getD k default = x at *
      obtain ⟨xn, xk⟩ := x
      simp only at x0 hfc
      by_cases hx : 100 < xn.size
      · have HY := Lib.hid (show r = true from by rw [HX.out, HN.out (by unfold colS; exact decide_eq_false (by simp only; omega))]; rfl)
        go_wp2
        go_ret
        exact ⟨ret_bool HY.out.symm, hbl⟩
      · go_wp2
        go_roundw
        case rel => exact ⟨k + 1, by omega, by go_num, hbl, HBK.out, Lib.hid (by rw [HT.out, hall.out]; unfold colS; rw [decide_eq_true (show xn.size ≤ 100 by omega)]; rfl)⟩
        case measure => simp [intOf]; omega
    · have hkl : k = s.cols.length := by omega
      subst hkl
      rw [List.take_length] at hall
      have HX2 := Lib.hid (show r = !(s.idx.all idxS) from by rw [HX.out, hall.out]; rfl)
      clear hlt
      go_wp2
      go_loopw [4] (fun i wr => ∃ k : Nat, k ≤ s.idx.length ∧ i = .int .i64 k ∧ Below w.heap.size w wr ∧ Blk wr w.heap.size 74 #[.string s.nm, .slice A s.cols.length c, .slice B s.idx.length d, .int .i64 s.limit, .int .i64 s.parts, .int .i64 s.by_] ∧ Hid ((s.idx.take k).all idxS = true)) (fun i _ => s.idx.length - (intOf i).toNat)
      case atStart => exact ⟨0, Nat.zero_le _, rfl, hbl, HBK.out, Lib.hid rfl⟩
      case round =>
        clear c1 c2 hlt2 hsz hbl
        obtain ⟨k, hk, rfl, hbl, hbk, hall⟩ := hrel
        have hsz := hbl.size
        have c1 := hbk.cell 1
        have c2 := hbk.cell 2
        have hlt2 := hbk.lt
        simp only [List.getElem?_toArray, List.getElem?_cons_zero, List.getElem?_cons_succ] at c1 c2
        have HBK := Lib.hid hbk
        clear hbk
        by_cases hlt : k < s.idx.length
        · rcases HI.out with h | ⟨b, off, rfl, hbw, hcell⟩
          · rw [h] at hlt; simp at hlt
          obtain ⟨Ak, ck, x0, _, _, _⟩ := hcell k hlt
          replace x0 := (hbl.cell (p := ⟨b, off + k * 2, none⟩) hbw).trans x0
          have hbw2 : b < wr.heap.size := Nat.lt_of_lt_of_le hbw hsz
          have HT := Lib.hid (all_take idxS s.idx k hlt)
          have HN := Lib.hid (all_fail idxS s.idx k hlt)
          have hfc := (HFI.out _ (getD_in s.idx k hlt)).len
          clear hcell
          generalize s.idx.getD k default = x at *
          obtain ⟨xn, xk⟩ := x
          simp only at x0 hfc
          by_cases hx : 12 < xn.length
          · have HY := Lib.hid (show r = true from by rw [HX2.out, HN.out (by unfold idxS; exact decide_eq_false (by simp only; omega))]; rfl)
            go_wp2
            go_ret
            exact ⟨ret_bool HY.out.symm, hbl⟩
          · go_wp2
            go_roundw
            case rel => exact ⟨k + 1, by omega, by go_num, hbl, HBK.out, Lib.hid (by rw [HT.out, hall.out]; unfold idxS; rw [decide_eq_true (show xn.length ≤ 12 by omega)]; rfl)⟩
            case measure => simp [intOf]; omega
        · have hkl : k = s.idx.length := by omega
          subst hkl
          rw [List.take_length] at hall
          have HX3 := Lib.hid (show r = false from by rw [HX2.out, hall.out]; rfl)
          go_wp2
          go_ret
          exact ⟨ret_bool HX3.out.symm, hbl⟩
end Go.Proofs.Ytacangeamdcgdaa

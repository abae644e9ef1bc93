/- Contracts of package schema: whether a schema is right. -/
import Derived.Test.YtacangeamdcgdaaUiy
namespace Go.Proofs.Ytacangeamdcgdaa
open Go.ChangeShapes Go.WideShapes Go.ChangeAt Go.RowKit
theorem len_ne {α : Type} (l : List α) (h : 0 < l.length) : l ≠ [] := by rintro rfl; simp at h
set_option maxRecDepth 100000 in
set_option maxHeartbeats 8000000 in
theorem rightIndexes_any (v : Value) (s : Sch) (w : World) (hv : SchV w v s) (hf : FitS s) (hcl : s.cols.length ≤ 1000000) :
    Calls Try.prog 84/-f-/ #[v] w fun e w' => e = .returned (.bool (idxsB s.cols.length s.idx)) ∧ Below w.heap.size w w' := by
  obtain ⟨A, B, c, d, rfl, _, hI, _, hd⟩ := hv.is
  obtain ⟨nm, cols, is, li, pa, by_⟩ := s
  simp only at hI hd hcl ⊢
  have HF := Lib.hid hf.idx
  have hil := hf.ilen
  simp only at hil HF
  obtain ⟨r, hr⟩ : ∃ r, r = idxsB cols.length is := ⟨_, rfl⟩
  rw [← hr]
  have HR := Lib.hid hr
  clear hr hf hv
  obtain ⟨cn, hcn⟩ : ∃ cn, cn = cols.length := ⟨_, rfl⟩
  rw [← hcn] at HR hcl ⊢
  have HB0 := Lib.hid ((Below.refl w.heap.size w).alloc (Nat.le_refl _) (.cells #[.string nm, .slice A cn c, .slice B is.length d, .int .i64 li, .int .i64 pa, .int .i64 by_] 74))
  by_cases h1 : is.length < 1
  · have HX := Lib.hid (show r = false from by rw [HR.out]; unfold idxsB; simp [show ¬ 1 ≤ is.length by omega])
    clear hcn
    go_enter Try.func84, Try.ntmps84
    go_wp2
    go_ret
    exact ⟨ret_bool HX.out.symm, HB0.out⟩
  by_cases h4 : 4 < is.length
  · have HX := Lib.hid (show r = false from by rw [HR.out]; unfold idxsB; simp [show ¬ is.length ≤ 4 by omega])
    clear hcn
    go_enter Try.func84, Try.ntmps84
    go_wp2
    go_ret
    exact ⟨ret_bool HX.out.symm, HB0.out⟩
  have hl1 : ¬ (is.length : Int) < 1 := by omega
  have hp1 : (0 : Int) < is.length := by omega
  rcases hI with h | ⟨b, off, rfl, hbw, hcell⟩
  · rw [h] at h1; simp at h1
  have HC := Lib.hid hcell
  have x1 : w.cell? ⟨b, off + 1, none⟩ = some (.bool (is.getD 0 default).uq) := by
    obtain ⟨_, _, _, h, _⟩ := hcell 0 (by omega)
    simpa using h
  have HI := Lib.hid (show Inds w (some ⟨b, off, none⟩) is from .inr ⟨b, off, rfl, hbw, hcell⟩)
  clear hcell
  obtain ⟨q, hq⟩ : ∃ q, q = (is.getD 0 default).uq := ⟨_, rfl⟩
  rw [← hq] at x1
  have HQ := Lib.hid hq
  clear hq hcn
  cases q with
  | false =>
    have HX := Lib.hid (show r = false from by rw [HR.out]; unfold idxsB; rw [← HQ.out]; simp)
    go_enter Try.func84, Try.ntmps84
    go_wp2
    go_ret
    exact ⟨ret_bool HX.out.symm, HB0.out⟩
  | true =>
    have HB := Lib.hid (show r = (is.all (idxB cn) && unlB sameCols is) from by rw [HR.out]; unfold idxsB; rw [← HQ.out]; simp [show 1 ≤ is.length by omega, show is.length ≤ 4 by omega])
    have BL := Lib.hid (Blk.new w 74 #[.string nm, .slice A cn c, .slice (some ⟨b, off, none⟩) is.length d, .int .i64 li, .int .i64 pa, .int .i64 by_])
    go_enter Try.func84, Try.ntmps84
    go_wp2
    go_loopw [4, 26] (fun _ i wr => ∃ k : Nat, k ≤ is.length ∧ i = .int .i64 k ∧ Below w.heap.size w wr ∧ Blk wr w.heap.size 74 #[.string nm, .slice A cn c, .slice (some ⟨b, off, none⟩) is.length d, .int .i64 li, .int .i64 pa, .int .i64 by_] ∧ Hid ((is.take k).all (idxB cn) = true)) (fun _ i _ => is.length - (intOf i).toNat)
    case atStart => exact ⟨0, Nat.zero_le _, rfl, HB0.out, BL.out, Lib.hid rfl⟩
    case round =>
      obtain ⟨k, hk, rfl, hbl, hbk, hall⟩ := hrel
      have hsz := hbl.size
      have hltk := hbk.lt
      have HBK := Lib.hid hbk
      have s1 := hbk.cell 1
      have s2 := hbk.cell 2
      simp only [List.getElem?_toArray, List.getElem?_cons_zero, List.getElem?_cons_succ] at s1 s2
      clear hbk x1
      by_cases hlt : k < is.length
      · obtain ⟨Ak, ck, y0, y1, y2, y3⟩ := HC.out k hlt
        replace y0 := (hbl.cell (p := ⟨b, off + k * 2, none⟩) hbw).trans y0
        replace y1 := (hbl.cell (p := ⟨b, off + k * 2 + 1, none⟩) hbw).trans y1
        have hbw2 : b < wr.heap.size := Nat.lt_of_lt_of_le hbw hsz
        have HT := Lib.hid (all_take (idxB cn) is k hlt)
        have HN := Lib.hid (all_fail (idxB cn) is k hlt)
        have HFX := Lib.hid (HF.out _ (getD_in is k hlt))
        have HY2 := Lib.hid (y2.keep hbl)
        have hy3 := Lib.hid y3
        clear y2 y3
        generalize is.getD k default = x at *
        obtain ⟨xc, xu⟩ := x
        simp only at y0 y1 HY2 hy3
        have C := Lib.hid (fun W hW => rightPlaces_any Ak xc.length ck xc cn W hW rfl hy3.out HFX.out.len HFX.out.cols (by omega) (by omega))
        obtain ⟨q, hq⟩ : ∃ q, q = plaB cn xc := ⟨_, rfl⟩
        rw [← hq] at C
        have HQ2 := Lib.hid hq
        clear hq
        have HK2 := Lib.hid (HY2.out.keep ((Below.refl _ _).alloc (Nat.le_refl _) (.cells #[.slice Ak xc.length ck, .bool xu] 83)))
        cases q with
        | false =>
          have HX := Lib.hid (show r = false from by rw [HB.out, HN.out HQ2.out.symm]; rfl)
          go_wp2_with (go_at_call 101/-f-/; refine (C.out _ HK2.out).mono ?_; rintro e w2 ⟨rfl, rfl⟩)
          go_ret
          exact ⟨ret_bool HX.out.symm, hbl.alloc hsz _⟩
        | true =>
          go_wp2_with (go_at_call 101/-f-/; refine (C.out _ HK2.out).mono ?_; rintro e w2 ⟨rfl, rfl⟩)
          go_roundw
          case rel => exact ⟨k + 1, by omega, by go_num, hbl.alloc hsz _, HBK.out.alloc _, Lib.hid (by rw [HT.out, hall.out]; exact HQ2.out.symm)⟩
          case measure => simp [intOf]; omega
      · have hkl : k = is.length := by omega
        subst hkl
        rw [List.take_length] at hall
        have C := Lib.hid (unlikeX_any (some ⟨b, off, none⟩) is.length d is wr (HI.out.keep hbl) rfl hd (by omega) HF.out)
        have HX := Lib.hid (show r = unlB sameCols is from by rw [HB.out, hall.out]; rfl)
        rw [← HX.out] at C
        go_wp2_with (go_at_call 102/-f-/; refine C.out.mono ?_; rintro e w2 ⟨rfl, hb2⟩)
        go_ret
        exact ⟨rfl, hbl.trans (hb2.mono hsz)⟩
end Go.Proofs.Ytacangeamdcgdaa

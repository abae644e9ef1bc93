/- Contracts of the document's schema: whether a schema is right; the long way. -/
import Derived.Test.YtacangeamdcgdaaRsi
import Derived.Test.YtacangeamdcgdaaRig
namespace Go.Proofs.Ytacangeamdcgdaa
open Go.ChangeShapes Go.WideShapes Go.ChangeAt Go.RowKit
set_option maxRecDepth 100000 in
set_option maxHeartbeats 32000000 in
theorem refright_pos (A B : Option Addr) (c d : Nat) (s : Sch) (w : World) (hC : Cols w A s.cols) (hI : Inds w B s.idx) (hf : FitS s) (hq1 : namB s.nm = true)
    (n0 : 1 ≤ s.cols.length) (n1 : s.cols.length ≤ 8) (n2 : 1 ≤ s.idx.length) (n3 : s.idx.length ≤ 4) (n4 : 1 ≤ s.limit) (n5 : s.limit ≤ 1000) (n6 : 1 ≤ s.parts) (n7 : s.parts ≤ 8) (n8 : 0 ≤ s.by_) (n9 : s.by_ < (s.cols.length : Int)) :
    Calls Try.prog 40/-f-/ #[.agg #[.string s.nm, .slice A s.cols.length c, .slice B s.idx.length d, .int .i64 s.limit, .int .i64 s.parts, .int .i64 s.by_]] w fun e w' => e = .returned (.bool (schB s)) ∧ Below w.heap.size w w' := by
  have hns := hf.nm
  have HFC := Lib.hid hf.cols
  have HFI := Lib.hid hf.idx
  obtain ⟨r, hr⟩ : ∃ r, r = schB s := ⟨_, rfl⟩
  rw [← hr]
  have HR := Lib.hid hr
  clear hr hf
  have HB0 := Lib.hid ((Below.refl w.heap.size w).alloc (Nat.le_refl _) (.cells #[.string s.nm, .slice A s.cols.length c, .slice B s.idx.length d, .int .i64 s.limit, .int .i64 s.parts, .int .i64 s.by_] 74))
  have C1' := fun W => refnamed_any s.nm W hns
  rw [hq1] at C1'
  have C1 := Lib.hid C1'
  have HQ1 := Lib.hid hq1.symm
  have HC := Lib.hid hC
  clear hC C1' hq1
  have hl1 : ¬ (s.cols.length : Int) < 1 := by omega
  have hl2 : ¬ (s.idx.length : Int) < 1 := by omega
  have hp1 : (0 : Int) < s.idx.length := by omega
  rcases hI with h | ⟨b, off, rfl, hbw, hcell⟩
  · rw [h] at n2; simp at n2
  have HI := Lib.hid hcell
  have x1 : w.cell? ⟨b, off + 1, none⟩ = some (.bool (s.idx.getD 0 default).uq) := by
    obtain ⟨_, _, _, h, _⟩ := hcell 0 (by omega)
    simpa using h
  clear hcell
  obtain ⟨q, hq⟩ : ∃ q, q = (s.idx.getD 0 default).uq := ⟨_, rfl⟩
  rw [← hq] at x1
  have HQ := Lib.hid hq
  clear hq
  cases q with
  | false =>
    have HX := Lib.hid (show r = false from by rw [HR.out]; unfold schB idxsB; rw [← HQ.out]; simp)
    go_enter Try.func40, Try.ntmps40
    go_wp2_with (go_at_call 66/-f-/; (with_reducible refine (C1.out _).mono ?_); rintro e w1 ⟨rfl, rfl⟩)
    go_ret
    exact ⟨ret_bool HX.out.symm, HB0.out⟩
  | true =>
  have HB := Lib.hid (show r = (s.cols.all colB && unlB sameNm s.cols && (s.idx.all (idxB s.cols.length) && unlB sameCols s.idx)) from by rw [HR.out]; unfold schB colsB idxsB; rw [← HQ.out, ← HQ1.out]; simp [n0, n1, n2, n3, n4, n5, n6, n7, n8, n9])
  have BL := Lib.hid (Blk.new w 74 #[.string s.nm, .slice A s.cols.length c, .slice (some ⟨b, off, none⟩) s.idx.length d, .int .i64 s.limit, .int .i64 s.parts, .int .i64 s.by_])
  clear HR
  go_enter Try.func40, Try.ntmps40
  go_wp2_with (go_at_call 66/-f-/; (with_reducible refine (C1.out _).mono ?_); rintro e w1 ⟨rfl, rfl⟩)
  go_loopw [4, 5] (fun i _ wr => ∃ k : Nat, k ≤ s.cols.length ∧ i = .int .i64 k ∧ Below w.heap.size w wr ∧ Blk wr w.heap.size 74 #[.string s.nm, .slice A s.cols.length c, .slice (some ⟨b, off, none⟩) s.idx.length d, .int .i64 s.limit, .int .i64 s.parts, .int .i64 s.by_] ∧ Hid ((s.cols.take k).all colB = true) ∧ Hid (Unl sameNm s.cols k)) (fun i _ _ => s.cols.length - (intOf i).toNat)
  case atStart => exact ⟨0, Nat.zero_le _, rfl, HB0.out, BL.out, Lib.hid rfl, Lib.hid (fun i hi => by omega)⟩
  case round =>
    obtain ⟨k, hk, rfl, hbl, hbk, hall, hun⟩ := hrel
    have hsz := hbl.size
    have s1 := hbk.cell 1
    have s2 := hbk.cell 2
    have hlt2 := hbk.lt
    simp only [List.getElem?_toArray, List.getElem?_cons_zero, List.getElem?_cons_succ] at s1 s2
    have HBK := Lib.hid hbk
    clear hbk x1
    by_cases hlt : k < s.cols.length
    · rcases HC.out with h | ⟨b2, off2, rfl, hbw2, hcell⟩
      · rw [h] at hlt; simp at hlt
      obtain ⟨y0, y1⟩ := hcell k hlt
      have HCC := Lib.hid hcell
      have HY0 := Lib.hid y0
      replace y0 := (hbl.cell (p := ⟨b2, off2 + k * 2, none⟩) hbw2).trans y0
      replace y1 := (hbl.cell (p := ⟨b2, off2 + k * 2 + 1, none⟩) hbw2).trans y1
      have hbx : b2 < wr.heap.size := Nat.lt_of_lt_of_le hbw2 hsz
      have HT := Lib.hid (all_take colB s.cols k hlt)
      have HNO := Lib.hid (all_fail colB s.cols k hlt)
      have HUN := Lib.hid (fun j (hj : j < k) => unlB_no sameNm s.cols k j hlt hj)
      have HUS := Lib.hid (fun (h : ∀ j, j < k → sameNm (s.cols.getD k default) (s.cols.getD j default) = false) => Unl.succ hun.out h)
      have hfx := HFC.out _ (getD_in s.cols k hlt)
      clear hcell
      generalize s.cols.getD k default = x at *
      obtain ⟨xn, xk⟩ := x
      have hxn := hfx.nm
      have hxk := hfx.kd
      simp only at y0 y1 hxn hxk HY0
      have C2 := Lib.hid (fun W => refnamed_any xn W hxn)
      obtain ⟨q, hq⟩ : ∃ q, q = namB xn := ⟨_, rfl⟩
      rw [← hq] at C2
      have HQ2 := Lib.hid hq
      clear hq hfx
      have A2 : True := trivial
      cases q with
      | false =>
        have HX := Lib.hid (show r = false from by rw [HB.out, HNO.out (by unfold colB; simp only; rw [← HQ2.out]; rfl)]; rfl)
        go_wp2_with (go_at_call 66/-f-/; (with_reducible refine (C2.out _).mono ?_); rintro e w1 ⟨rfl, rfl⟩)
        go_ret
        exact ⟨ret_bool HX.out.symm, hbl⟩
      | true =>
      by_cases k1 : xk < 1
      · have HX := Lib.hid (show r = false from by rw [HB.out, HNO.out (by unfold colB; simp only; simp [show ¬ 1 ≤ xk by omega])]; rfl)
        go_wp2_with (go_at_call 66/-f-/; (with_reducible refine (C2.out _).mono ?_); rintro e w1 ⟨rfl, rfl⟩)
        go_ret
        exact ⟨ret_bool HX.out.symm, hbl⟩
      by_cases k3 : 3 < xk
      · have HX := Lib.hid (show r = false from by rw [HB.out, HNO.out (by unfold colB; simp only; simp [show ¬ xk ≤ 3 by omega])]; rfl)
        go_wp2_with (go_at_call 66/-f-/; (with_reducible refine (C2.out _).mono ?_); rintro e w1 ⟨rfl, rfl⟩)
        go_ret
        exact ⟨ret_bool HX.out.symm, hbl⟩
      have HCX := Lib.hid (show colB ⟨xn, xk⟩ = true from by unfold colB; simp only; rw [← HQ2.out]; simp [show 1 ≤ xk by omega, show xk ≤ 3 by omega])
      go_wp2_with (go_at_call 66/-f-/; (with_reducible refine (C2.out _).mono ?_); rintro e w1 ⟨rfl, rfl⟩)
      have HBL0 := Lib.hid hbl
      have HHA := Lib.hid hall
      go_loopw [5] (fun j wr => ∃ m : Nat, m ≤ k ∧ j = .int .i64 m ∧ Below w.heap.size w wr ∧ Blk wr w.heap.size 74 #[.string s.nm, .slice (some ⟨b2, off2, none⟩) s.cols.length c, .slice (some ⟨b, off, none⟩) s.idx.length d, .int .i64 s.limit, .int .i64 s.parts, .int .i64 s.by_] ∧ Hid (∀ i, i < m → sameNm ⟨xn, xk⟩ (s.cols.getD i default) = false)) (fun j _ => k - (intOf j).toNat)
      case atStart => exact ⟨0, Nat.zero_le _, rfl, HBL0.out, HBK.out, Lib.hid (fun i hi => by omega)⟩
      case round =>
        clear hbl s1 s2 hlt2 hsz y0 y1 hbx hall
        obtain ⟨m, hm, rfl, hbl, hbk, hno⟩ := hrel
        have hsz := hbl.size
        have s1 := hbk.cell 1
        have s2 := hbk.cell 2
        have hlt2 := hbk.lt
        simp only [List.getElem?_toArray, List.getElem?_cons_zero, List.getElem?_cons_succ] at s1 s2
        have HBK2 := Lib.hid hbk
        clear hbk
        have y0 := (hbl.cell (p := ⟨b2, off2 + k * 2, none⟩) hbw2).trans HY0.out
        have hbx : b2 < wr.heap.size := Nat.lt_of_lt_of_le hbw2 hsz
        by_cases hlm : m < k
        · have hmc : m < s.cols.length := by omega
          obtain ⟨z0, _⟩ := HCC.out m hmc
          replace z0 := (hbl.cell (p := ⟨b2, off2 + m * 2, none⟩) hbw2).trans z0
          have HUN2 := Lib.hid (HUN.out m hlm)
          have hstep : ∀ (h : sameNm ⟨xn, xk⟩ (s.cols.getD m default) = false) (i : Nat), i < m + 1 → sameNm ⟨xn, xk⟩ (s.cols.getD i default) = false := fun h i hi => by
            rcases Nat.lt_or_ge i m with h2 | h2
            · exact hno.out i h2
            · have : i = m := by omega
              subst this; exact h
          have HSTEP := Lib.hid hstep
          clear hstep
          generalize s.cols.getD m default = z at *
          obtain ⟨zn, zk⟩ := z
          simp only at z0
          go_upto_region 12 with fail
          go_quiet (fail)
          obtain ⟨q, hq⟩ : ∃ q, q = (zn.toList == xn.toList) := ⟨_, rfl⟩
          rw [← hq]
          have HQ3 := Lib.hid (show q = decide (zn = xn) from by rw [hq, str_eq_dec])
          clear hq y0 z0
          cases q with
          | true =>
            have hxy : zn = xn := of_decide_eq_true HQ3.out.symm
            have HX := Lib.hid (show r = false from by rw [HB.out, HUN2.out (by unfold sameNm; exact decide_eq_true hxy.symm)]; simp)
            clear hxy
            go_wp2
            go_ret
            exact ⟨ret_bool HX.out.symm, below_drewN hbl _⟩
          | false =>
            have hxy : ¬ zn = xn := of_decide_eq_false HQ3.out.symm
            have HO := Lib.hid (HSTEP.out (by unfold sameNm; exact decide_eq_false (fun h => hxy h.symm)))
            clear hxy
            go_wp2
            go_roundw
            case rel => exact ⟨m + 1, by omega, by go_num, below_drewN hbl _, HBK2.out, HO⟩
            case measure => simp [intOf]; omega
        · have hmk : m = k := by omega
          subst hmk
          have HO := Lib.hid (HUS.out hno.out)
          go_wp2
          go_roundw
          case rel => exact ⟨m + 1, by omega, by go_num, hbl, HBK2.out, Lib.hid (by rw [HT.out, HHA.out, HCX.out]; rfl), HO⟩
          case measure => simp [intOf]; omega
    · have hkl : k = s.cols.length := by omega
      subst hkl
      rw [List.take_length] at hall
      have HU := unlB_yes sameNm s.cols hun.out
      have HX := Lib.hid (show r = (s.idx.all (idxB s.cols.length) && unlB sameCols s.idx) from by rw [HB.out, hall.out, HU]; rfl)
      clear HU hall hun HB
      go_wp2
      go_loopw [6, 7, 8, 9, 10] (fun i _ _ _ _ wr => ∃ k : Nat, k ≤ s.idx.length ∧ i = .int .i64 k ∧ Below w.heap.size w wr ∧ Blk wr w.heap.size 74 #[.string s.nm, .slice A s.cols.length c, .slice (some ⟨b, off, none⟩) s.idx.length d, .int .i64 s.limit, .int .i64 s.parts, .int .i64 s.by_] ∧ Hid ((s.idx.take k).all (idxB s.cols.length) = true) ∧ Hid (Unl sameCols s.idx k)) (fun i _ _ _ _ _ => s.idx.length - (intOf i).toNat)
      case atStart => exact ⟨0, Nat.zero_le _, rfl, hbl, HBK.out, Lib.hid rfl, Lib.hid (fun i hi => by omega)⟩
      case round =>
        clear hbl s1 s2 hlt2 hsz hlt hk
        obtain ⟨k, hk, rfl, hbl, hbk, hall, hun⟩ := hrel
        have hsz := hbl.size
        have s1 := hbk.cell 1
        have s2 := hbk.cell 2
        have hlt2 := hbk.lt
        simp only [List.getElem?_toArray, List.getElem?_cons_zero, List.getElem?_cons_succ] at s1 s2
        have HBK3 := Lib.hid hbk
        clear hbk
        by_cases hlt : k < s.idx.length
        · obtain ⟨Ak, ck, y0, _, y2, _⟩ := HI.out k hlt
          have HY2 := Lib.hid y2
          replace y0 := (hbl.cell (p := ⟨b, off + k * 2, none⟩) hbw).trans y0
          have hbx : b < wr.heap.size := Nat.lt_of_lt_of_le hbw hsz
          have HT := Lib.hid (all_take (idxB s.cols.length) s.idx k hlt)
          have HNO := Lib.hid (all_fail (idxB s.cols.length) s.idx k hlt)
          have HUN := Lib.hid (fun j (hj : j < k) => unlB_no sameCols s.idx k j hlt hj)
          have HUS := Lib.hid (fun (h : ∀ j, j < k → sameCols (s.idx.getD k default) (s.idx.getD j default) = false) => Unl.succ hun.out h)
          have hfx := HFI.out _ (getD_in s.idx k hlt)
          clear y2
          generalize s.idx.getD k default = x at *
          obtain ⟨xc, xu⟩ := x
          have hxl := hfx.len
          have HXC := Lib.hid hfx.cols
          simp only at y0 hxl HY2 HXC
          clear hfx
          by_cases k1 : xc.length < 1
          · have HX2 := Lib.hid (show r = false from by rw [HX.out, HNO.out (by unfold idxB plaB; simp only; simp [show ¬ 1 ≤ xc.length by omega])]; rfl)
            go_wp2
            go_ret
            exact ⟨ret_bool HX2.out.symm, hbl⟩
          by_cases k8 : 8 < xc.length
          · have HX2 := Lib.hid (show r = false from by rw [HX.out, HNO.out (by unfold idxB plaB; simp only; simp [show ¬ xc.length ≤ 8 by omega])]; rfl)
            go_wp2
            go_ret
            exact ⟨ret_bool HX2.out.symm, hbl⟩
          have kl1 : ¬ (xc.length : Int) < 1 := by omega
          have HPL := Lib.hid (show plaB s.cols.length xc = (xc.all (inB s.cols.length) && unlB eqI xc) from by unfold plaB; simp [show 1 ≤ xc.length by omega, show xc.length ≤ 8 by omega])
          have HHA := Lib.hid hall
          have HBL3 := Lib.hid hbl
          go_wp2
          go_loopw [8, 9] (fun i _ wr => ∃ m : Nat, m ≤ xc.length ∧ i = .int .i64 m ∧ Below w.heap.size w wr ∧ Blk wr w.heap.size 74 #[.string s.nm, .slice A s.cols.length c, .slice (some ⟨b, off, none⟩) s.idx.length d, .int .i64 s.limit, .int .i64 s.parts, .int .i64 s.by_] ∧ Hid ((xc.take m).all (inB s.cols.length) = true) ∧ Hid (Unl eqI xc m)) (fun i _ _ => xc.length - (intOf i).toNat)
          case atStart => exact ⟨0, Nat.zero_le _, rfl, HBL3.out, HBK3.out, Lib.hid rfl, Lib.hid (fun i hi => by omega)⟩
          case round =>
            clear hbl s1 s2 hlt2 hsz hall y0 hbx
            obtain ⟨m, hm, rfl, hbl, hbk, hall, hun2⟩ := hrel
            have hsz := hbl.size
            have HBK4 := Lib.hid hbk
            have HAL := Lib.hid hall
            clear hbk
            by_cases hlm : m < xc.length
            · rcases HY2.out with h | ⟨b3, off3, rfl, hbw3, hcell3⟩
              · rw [h] at hlm; simp at hlm
              have HC3 := Lib.hid hcell3
              have z0 := (hbl.cell (p := ⟨b3, off3 + m, none⟩) hbw3).trans (hcell3 m hlm)
              have HZ0 := Lib.hid (hcell3 m hlm)
              have hb3x : b3 < wr.heap.size := Nat.lt_of_lt_of_le hbw3 hsz
              have HT3 := Lib.hid (all_take (inB s.cols.length) xc m hlm)
              have HN3 := Lib.hid (all_fail (inB s.cols.length) xc m hlm)
              have HUN3 := Lib.hid (fun j (hj : j < m) => unlB_no eqI xc m j hlm hj)
              have HUS3 := Lib.hid (fun (h : ∀ j, j < m → eqI (xc.getD m default) (xc.getD j default) = false) => Unl.succ hun2.out h)
              have hfp := HXC.out.at_ m
              simp only [getD0] at HT3 HN3 HUN3 HUS3
              clear hcell3 hall hun2
              generalize xc.getD m 0 = p at *
              by_cases p0 : p < 0
              · have HX2 := Lib.hid (show r = false from by rw [HX.out, HNO.out (by unfold idxB; simp only; rw [HPL.out, HN3.out (by unfold inB; simp [show ¬ 0 ≤ p by omega])]; rfl)]; rfl)
                go_wp2
                go_ret
                exact ⟨ret_bool HX2.out.symm, hbl⟩
              by_cases p1 : (s.cols.length : Int) ≤ p
              · have HX2 := Lib.hid (show r = false from by rw [HX.out, HNO.out (by unfold idxB; simp only; rw [HPL.out, HN3.out (by unfold inB; simp [show ¬ p < (s.cols.length : Int) by omega])]; rfl)]; rfl)
                go_wp2
                go_ret
                exact ⟨ret_bool HX2.out.symm, hbl⟩
              have HIN := Lib.hid (show inB s.cols.length p = true from by unfold inB; rw [decide_eq_true (show 0 ≤ p by omega), decide_eq_true (show p < (s.cols.length : Int) by omega)]; rfl)
              have HBL4 := Lib.hid hbl
              go_wp2
              go_loopw [9] (fun i wr => ∃ j : Nat, j ≤ m ∧ i = .int .i64 j ∧ Below w.heap.size w wr ∧ Blk wr w.heap.size 74 #[.string s.nm, .slice A s.cols.length c, .slice (some ⟨b, off, none⟩) s.idx.length d, .int .i64 s.limit, .int .i64 s.parts, .int .i64 s.by_] ∧ Hid (∀ i, i < j → eqI p (xc.getD i 0) = false)) (fun i _ => m - (intOf i).toNat)
              case atStart => exact ⟨0, Nat.zero_le _, rfl, HBL4.out, HBK4.out, Lib.hid (fun i hi => by omega)⟩
              case round =>
                clear hbl hsz z0 hb3x
                obtain ⟨j, hj, rfl, hbl, hbk, hno⟩ := hrel
                have hsz := hbl.size
                have HBK5 := Lib.hid hbk
                clear hbk
                have z0 := (hbl.cell (p := ⟨b3, off3 + m, none⟩) hbw3).trans HZ0.out
                have hb3x : b3 < wr.heap.size := Nat.lt_of_lt_of_le hbw3 hsz
                by_cases hlj : j < m
                · have hjx : j < xc.length := by omega
                  have t0 := (hbl.cell (p := ⟨b3, off3 + j, none⟩) hbw3).trans (HC3.out j hjx)
                  have HUN4 := Lib.hid (HUN3.out j hlj)
                  have hstep : ∀ (h : eqI p (xc.getD j 0) = false) (i : Nat), i < j + 1 → eqI p (xc.getD i 0) = false := fun h i hi => by
                    rcases Nat.lt_or_ge i j with h2 | h2
                    · exact hno.out i h2
                    · have : i = j := by omega
                      subst this; exact h
                  have HSTEP := Lib.hid hstep
                  clear hstep
                  generalize xc.getD j 0 = u at *
                  go_upto_region 28 with fail
                  go_quiet (fail)
                  obtain ⟨q, hq⟩ : ∃ q, q = (u == p) := ⟨_, rfl⟩
                  rw [← hq]
                  have HQ3 := Lib.hid hq
                  clear hq t0 z0
                  cases q with
                  | true =>
                    have hxy : u = p := by simpa using HQ3.out.symm
                    have HX2 := Lib.hid (show r = false from by rw [HX.out, HNO.out (by unfold idxB; simp only; rw [HPL.out, HUN4.out (by unfold eqI; rw [hxy]; exact beq_self_eq_true _)]; simp)]; rfl)
                    clear hxy
                    go_wp2
                    go_ret
                    exact ⟨ret_bool HX2.out.symm, below_drewN hbl _⟩
                  | false =>
                    have hxy : ¬ u = p := by simpa using HQ3.out.symm
                    have HO := Lib.hid (HSTEP.out (by unfold eqI; exact beq_eq_false_iff_ne.2 (fun h => hxy h.symm)))
                    clear hxy
                    go_wp2
                    go_roundw
                    case rel => exact ⟨j + 1, by omega, by go_num, below_drewN hbl _, HBK5.out, HO⟩
                    case measure => simp [intOf]; omega
                · have hjm : j = m := by omega
                  subst hjm
                  have HO := Lib.hid (HUS3.out hno.out)
                  clear z0
                  go_wp2
                  go_roundw
                  case rel => exact ⟨j + 1, by omega, by go_num, hbl, HBK5.out, Lib.hid (by rw [HT3.out, HAL.out, HIN.out]; rfl), HO⟩
                  case measure => simp [intOf]; omega
            · have hml : m = xc.length := by omega
              subst hml
              rw [List.take_length] at hall
              have HU3 := unlB_yes eqI xc hun2.out
              have HPX := Lib.hid (show idxB s.cols.length ⟨xc, xu⟩ = true from by unfold idxB; simp only; rw [HPL.out, hall.out, HU3]; rfl)
              have HBL5 := Lib.hid hbl
              clear HU3 hall hun2 HAL
              go_wp2
              go_loopw [10] (fun i wr => ∃ j : Nat, j ≤ k ∧ i = .int .i64 j ∧ Below w.heap.size w wr ∧ Blk wr w.heap.size 74 #[.string s.nm, .slice A s.cols.length c, .slice (some ⟨b, off, none⟩) s.idx.length d, .int .i64 s.limit, .int .i64 s.parts, .int .i64 s.by_] ∧ Hid (∀ i, i < j → sameCols ⟨xc, xu⟩ (s.idx.getD i default) = false)) (fun i _ => k - (intOf i).toNat)
              case atStart => exact ⟨0, Nat.zero_le _, rfl, HBL5.out, HBK4.out, Lib.hid (fun i hi => by omega)⟩
              case round =>
                clear hbl hsz hlm hm
                obtain ⟨j, hj, rfl, hbl, hbk, hno⟩ := hrel
                have hsz := hbl.size
                have s2 := hbk.cell 2
                have hlt2 := hbk.lt
                simp only [List.getElem?_toArray, List.getElem?_cons_zero, List.getElem?_cons_succ] at s2
                have HBK5 := Lib.hid hbk
                clear hbk
                by_cases hlj : j < k
                · have hji : j < s.idx.length := by omega
                  obtain ⟨Am, cm, t0, _, t2, _⟩ := HI.out j hji
                  replace t0 := (hbl.cell (p := ⟨b, off + j * 2, none⟩) hbw).trans t0
                  have hbx : b < wr.heap.size := Nat.lt_of_lt_of_le hbw hsz
                  have HUN4 := Lib.hid (HUN.out j hlj)
                  have hzl := (HFI.out _ (getD_in s.idx j hji)).len
                  have hstep : ∀ (h : sameCols ⟨xc, xu⟩ (s.idx.getD j default) = false) (i : Nat), i < j + 1 → sameCols ⟨xc, xu⟩ (s.idx.getD i default) = false := fun h i hi => by
                    rcases Nat.lt_or_ge i j with h2 | h2
                    · exact hno.out i h2
                    · have : i = j := by omega
                      subst this; exact h
                  have HSTEP := Lib.hid hstep
                  clear hstep
                  generalize s.idx.getD j default = z at *
                  obtain ⟨zc, zu⟩ := z
                  simp only at t0 t2 hzl
                  have C3' := refsameI_any Am Ak zc.length cm xc.length ck zc xc wr (t2.keep hbl) (HY2.out.keep hbl) rfl rfl hzl hxl
                  obtain ⟨q, hq⟩ : ∃ q, q = decide (zc = xc) := ⟨_, rfl⟩
                  rw [← hq] at C3'
                  have C3 := Lib.hid C3'
                  have HQ3 := Lib.hid hq
                  clear C3' hq t2
                  cases q with
                  | true =>
                    have hxy : zc = xc := of_decide_eq_true HQ3.out.symm
                    have HX2 := Lib.hid (show r = false from by rw [HX.out, HUN4.out (by unfold sameCols; simp only; exact decide_eq_true hxy.symm)]; simp)
                    clear hxy
                    go_wp2_with (go_at_call 67/-f-/; (with_reducible refine C3.out.mono ?_); rintro e w1 ⟨rfl, kk, rfl⟩)
                    go_ret
                    exact ⟨ret_bool HX2.out.symm, below_drewN hbl _⟩
                  | false =>
                    have hxy : ¬ zc = xc := of_decide_eq_false HQ3.out.symm
                    have HO := Lib.hid (HSTEP.out (by unfold sameCols; simp only; exact decide_eq_false (fun h => hxy h.symm)))
                    clear hxy
                    go_wp2_with (go_at_call 67/-f-/; (with_reducible refine C3.out.mono ?_); rintro e w1 ⟨rfl, kk, rfl⟩)
                    go_roundw
                    case rel => exact ⟨j + 1, by omega, by go_num, below_drewN hbl _, HBK5.out, HO⟩
                    case measure => simp [intOf]; omega
                · have hjm : j = k := by omega
                  subst hjm
                  have HO := Lib.hid (HUS.out hno.out)
                  go_wp2
                  go_roundw
                  case rel => exact ⟨j + 1, by omega, by go_num, hbl, HBK5.out, Lib.hid (by rw [HT.out, HHA.out, HPX.out]; rfl), HO⟩
                  case measure => simp [intOf]; omega
        · have hkl : k = s.idx.length := by omega
          subst hkl
          rw [List.take_length] at hall
          have HU := unlB_yes sameCols s.idx hun.out
          have HX2 := Lib.hid (show r = true from by rw [HX.out, hall.out, HU]; rfl)
          clear HU hall hun
          go_wp2
          go_ret
          exact ⟨ret_bool HX2.out.symm, hbl⟩
end Go.Proofs.Ytacangeamdcgdaa

